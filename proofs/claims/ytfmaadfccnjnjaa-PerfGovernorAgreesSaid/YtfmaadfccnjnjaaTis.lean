/- The walk of PerfTransitionIsSafe. -/
import Derived.Test.YtfmaadfccnjnjaaSem
import Derived.Deep.RegionHeld3
namespace Go.Proofs.Ytfmaadfccnjnjaa
open Go.RowKit

theorem saf_ev (A B : Option Addr) (n c m d : Nat) (f : Nat → St) (a : Int) (g : Nat → PO) (w : World) (h : SlS w A n f) (hp : PlS w B m g) (r : Bool) (hr : safeB n f a m g = r) :
    Calls Try.prog 22 #[.slice A n c, .int .i64 a, .slice B m d] w fun e w' => e = .returned (.bool r) ∧ Below w.heap.size w w' := by
  subst hr
  exact saf_any A B n c m d f a g w h hp
theorem tra_is (A : Option Addr) (n c : Nat) (f : Nat → St) (a b : Nat) (w : World) (h : SlS w A n f) (ho : trOk n f a b = true) :
    Calls Try.prog 19 #[.slice A n c, .int .i64 a, .int .i64 b] w (T2 w (trL f a b) 0) := by
  have e1 : trR n f a b = trL f a b := by unfold trR; rw [ho]; rfl
  have e2 : trE n f a b = 0 := by unfold trE; rw [ho]; rfl
  refine (tra_any A n c f a b w h).mono ?_
  rintro e w' ⟨A', c', h1, h2, h3⟩
  rw [e1] at h1 h2
  rw [e2] at h1
  exact ⟨A', c', h1, h2, h3⟩
theorem pls_row {w : World} {A : Option Addr} {n : Nat} {g : Nat → PO} (h : PlS w A n g) (k : Nat) (hk : k < n) :
    ∃ b off, A = some ⟨b, off, none⟩ ∧ b < w.heap.size ∧ w.cell? ⟨b, off + k * 2, none⟩ = some (.bool (g k).v) ∧ w.cell? ⟨b, off + k * 2 + 1, none⟩ = some (.int .u64 (g k).x) := by
  rcases h.row with h0 | ⟨b, off, h1, h2, h3⟩
  · omega
  · exact ⟨b, off, h1, h2, h3 k hk⟩
set_option maxRecDepth 100000 in
set_option maxHeartbeats 4000000 in
theorem tis_walk (A : Option Addr) (m c : Nat) (g : Nat → St) (a b : Int) (w : World) (h : SlS w A m g) (_ha : (Lit.int .i64 a).wf = true) (_hb : (Lit.int .i64 b).wf = true) :
    Calls Try.prog 5 #[.slice A m c, .int .i64 a, .int .i64 b] w (LawPost w) := by
  have hm := h.len
  by_cases h20 : 20 < m
  · go_enter Try.func5, Try.ntmps5
    go_wp2_with fail
    refine (awake_any _).mono ?_
    rintro e w1 ⟨rfl, hb1⟩
    go_wp2
    go_ret
    exact ⟨rfl, hb1⟩
  have ST := tab_any A m c g _ h
  obtain ⟨hn1, hn8, -, -⟩ := tbN_bd m
  have HV := Lib.hid (tbF_vld m g)
  go_enter Try.func5, Try.ntmps5
  go_wp2_with fail
  refine ST.mono ?_
  rintro e w1 ⟨G, k, rfl, -, S0, B0⟩
  clear ST h
  generalize tbF m g = f at *
  generalize tbN m = n at *
  have M := Lib.hid (fun v W => mod_any v n hn1 (by omega) W)
  have hx := (modOf_spec a n hn1 (by omega)).2
  have hy := (modOf_spec b n hn1 (by omega)).2
  go_wp2_with fail
  refine (M.out a w1).mono ?_
  rintro e w' ⟨rfl, rfl⟩
  go_wp2_with fail
  refine (M.out b w1).mono ?_
  rintro e w' ⟨rfl, rfl⟩
  clear M
  generalize modOf a n = x at *
  generalize modOf b n = y at *
  have TI := Lib.hid (fun A c w h => tra_is A n c f x y w h (trOk_in HV.out hx hy))
  obtain ⟨t1, t2⟩ := tr_safe HV.out hx hy
  have T1 := Lib.hid t1
  have T3 := Lib.hid t2
  have T4 := Lib.hid (tr_rev HV.out hx hy)
  have SE := Lib.hid (fun m g => safe_tr HV.out hx m g)
  clear t1 t2
  have hl2 : (trL f x y).length ≤ 2 := by unfold trL trV; split <;> (try split) <;> (try split) <;> simp
  generalize trL f x y = l at *
  go_wp2_with fail
  refine (TI.out _ _ _ S0).mono ?_
  rintro e w2 ⟨A1, c1, rfl, P1, b1⟩
  have S1 := S0.below b1 (Nat.le_refl _)
  have B1 := bel2 B0 b1
  clear S0 B0 b1 TI
  go_wp2_with fail
  refine (saf_ev _ _ _ _ _ _ _ _ _ _ S1 P1 true (by rw [SE.out]; exact T1.out)).mono ?_
  rintro e w3 ⟨rfl, b2⟩
  have S2 := S1.below b2 (Nat.le_refl _)
  have P2 := P1.below b2 (Nat.le_refl _)
  have B2 := bel2 B1 b2
  clear S1 P1 B1 b2
  have hGw := S2.lt hn1
  obtain ⟨c0, d0, -⟩ := S2.cells hx
  obtain ⟨e0, g0, -⟩ := S2.cells hy
  have fy0 : Hid (stTo (atL l) ⟨(f x).l, (f x).r⟩ l.length = ⟨(f y).l, (f y).r⟩) := T3.out
  clear T3
  have S2 := Lib.hid S2
  have P2 := Lib.hid P2
  have B2 := Lib.hid B2
  go_upto_region 8 with fail
  go_quiet (fail)
  go_wp2_with fail
  go_loopw [14, 12, 13] (fun i F V wr => ∃ q : Nat, q ≤ l.length ∧ i = .int .i64 q ∧ F = .int .u64 (stTo (atL l) ⟨(f x).l, (f x).r⟩ q).f ∧ V = .int .u64 (stTo (atL l) ⟨(f x).l, (f x).r⟩ q).v ∧ Below w3.heap.size w3 wr) (fun i _ _ _ => l.length - (intOf i).toNat)
  case atStart => exact ⟨0, Nat.zero_le _, rfl, rfl, rfl, below_drewN (Below.refl _ _) _⟩
  case round =>
    obtain ⟨q, hq, rfl, rfl, rfl, BW⟩ := hrel
    by_cases hlt : q < l.length
    · obtain ⟨b2, o2, rfl, hb2, p0, p1⟩ := pls_row P2.out q hlt
      rw [← BW.cell hb2] at p0 p1
      have NX : Hid (stTo (atL l) ⟨(f x).l, (f x).r⟩ (q + 1) = stS (stTo (atL l) ⟨(f x).l, (f x).r⟩ q) (atL l q)) := rfl
      obtain ⟨T, hT⟩ : ∃ T, stTo (atL l) ⟨(f x).l, (f x).r⟩ (q + 1) = T := ⟨_, rfl⟩
      rw [hT] at NX
      have NX2 := Lib.hid hT; clear hT
      generalize stTo (atL l) ⟨(f x).l, (f x).r⟩ q = S at *
      generalize atL l q = o at *
      obtain ⟨ov, ox⟩ := o
      obtain ⟨sf, sv⟩ := S
      simp only at p0 p1
      clear c0 d0 e0 g0
      cases ov
      · have TE : Hid (T = ⟨ox, sv⟩) := by show _ = _; rw [NX.out]; simp [stS]
        go_wp2
        go_roundw
        case rel => exact ⟨q + 1, by omega, by go_num, by rw [NX2.out, TE.out], by rw [NX2.out, TE.out], BW⟩
        case measure => simp [intOf]; omega
      · have TE : Hid (T = ⟨sf, ox⟩) := by show _ = _; rw [NX.out]; simp [stS]
        go_wp2
        go_roundw
        case rel => exact ⟨q + 1, by omega, by go_num, by rw [NX2.out, TE.out], by rw [NX2.out, TE.out], BW⟩
        case measure => simp [intOf]; omega
    · have : q = l.length := by omega
      subst this
      rw [fy0.out]
      rw [← BW.cell hGw] at e0 g0
      have S3 := S2.out.below BW (Nat.le_refl _)
      have P3 := P2.out.below BW (Nat.le_refl _)
      have B3 := bel2 B2.out BW
      clear c0 d0 S2 P2 B2 fy0
      by_cases h2 : l.length = 2
      · have SF : Hid (safeB n f x 2 (atL [atL l 1, atL l 0]) = false) := by show _ = _; rw [SE.out]; exact T4.out h2
        rw [h2] at P3 ⊢
        obtain ⟨b2, o2, rfl, hb2, p0, p1⟩ := pls_row P3 0 (by omega)
        obtain ⟨b3, o3, h3, -, p2, p3⟩ := pls_row P3 1 (by omega)
        simp only [Option.some.injEq, Addr.mk.injEq, and_true] at h3
        obtain ⟨h4, h5⟩ := h3
        subst h4 h5
        generalize atL l 0 = u0 at *
        generalize atL l 1 = u1 at *
        obtain ⟨v0, x0⟩ := u0
        obtain ⟨v1, x1⟩ := u1
        simp only [Nat.zero_mul, Nat.add_zero, Nat.one_mul] at p0 p1 p2 p3
        have U3 : PlS (wr.alloc (Obj.cells #[.bool v1, .int .u64 x1, .bool v0, .int .u64 x0] 40)) (some ⟨wr.heap.size, 0, none⟩) 2 (atL [⟨v1, x1⟩, ⟨v0, x0⟩]) := by
          refine pl_two (y := ⟨v1, x1⟩) (z := ⟨v0, x0⟩) ?_ ?_ ?_ ?_ ?_ <;> simp [go_sem]
        have S4 := (S3.below (bal (Below.refl _ _) (Obj.cells #[.bool v1, .int .u64 x1, .bool v0, .int .u64 x0] 40)) (Nat.le_refl _)).below (Below.refl _ _).drew (Nat.le_refl _)
        have U4 := U3.below (Below.refl _ _).drew (Nat.le_refl _)
        have B4 := (bal B3 (Obj.cells #[.bool v1, .int .u64 x1, .bool v0, .int .u64 x0] 40)).drew
        have hb2w : b2 < wr.heap.size := hb2
        have CA := Lib.hid (saf_ev _ _ n k 2 2 f x _ _ S4 U4 false SF.out)
        have B4 := Lib.hid B4
        clear S3 P3 B3 U3 S4 U4
        have KP : ∀ w' : World, Below ((wr.alloc (Obj.cells #[.bool v1, .int .u64 x1, .bool v0, .int .u64 x0] 40)).drew).heap.size ((wr.alloc (Obj.cells #[.bool v1, .int .u64 x1, .bool v0, .int .u64 x0] 40)).drew) w' → (w'.cell? ⟨b2, o2, none⟩ = some (.bool v0) ∧ w'.cell? ⟨b2, o2 + 1, none⟩ = some (.int .u64 x0) ∧ w'.cell? ⟨b2, o2 + 2, none⟩ = some (.bool v1) ∧ w'.cell? ⟨b2, o2 + 2 + 1, none⟩ = some (.int .u64 x1)) := by
          intro w' hb
          have hlt : b2 < ((wr.alloc (Obj.cells #[.bool v1, .int .u64 x1, .bool v0, .int .u64 x0] 40)).drew).heap.size := by simp; omega
          have BB := (bal (Below.refl wr.heap.size wr) (Obj.cells #[.bool v1, .int .u64 x1, .bool v0, .int .u64 x0] 40)).drew
          refine ⟨(hb.cell hlt).trans ?_, (hb.cell hlt).trans ?_, (hb.cell hlt).trans ?_, (hb.cell hlt).trans ?_⟩
          · exact (BB.cell hb2).trans p0
          · exact (BB.cell hb2).trans p1
          · exact (BB.cell hb2).trans p2
          · exact (BB.cell hb2).trans p3
        have KP := Lib.hid KP
        go_upto_region 17 with fail
        go_region_held3 (fun w' => w'.cell? ⟨b2, o2, none⟩ = some (.bool v0) ∧ w'.cell? ⟨b2, o2 + 1, none⟩ = some (.int .u64 x0) ∧ w'.cell? ⟨b2, o2 + 2, none⟩ = some (.bool v1) ∧ w'.cell? ⟨b2, o2 + 2 + 1, none⟩ = some (.int .u64 x1))
          (first | go_keep | exact KP.out _ hb9)
          ((go_at_call 22; refine CA.out.mono ?_; rintro e w9 ⟨rfl, hb9⟩))
        go_wp2_with fail
        refine (awake_any _).mono ?_
        rintro e w8 ⟨rfl, b8⟩
        go_wp2
        go_ret
        exact ⟨rfl, bel2 (bel2 B4.out hb9) b8⟩
      · have h2' : ((l.length : Int) == 2) = false := by simp; omega
        go_upto_region 17 with fail
        go_quiet (fail)
        go_wp2_with fail
        refine (awake_any _).mono ?_
        rintro e w9 ⟨rfl, b9⟩
        go_wp2
        go_ret
        exact ⟨rfl, bel2 (below_drewN B3 _) b9⟩
end Go.Proofs.Ytfmaadfccnjnjaa
