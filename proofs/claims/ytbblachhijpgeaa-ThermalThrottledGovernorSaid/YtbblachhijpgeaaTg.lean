/- ThrottledGovernor: the walk. -/
import Derived.Test.YtbblachhijpgeaaOne
import Derived.Test.YtbblachhijpgeaaGnw
import Derived.Test.YtbblachhijpgeaaHSmw
import Derived.Test.YtbblachhijpgeaaHOpn
namespace Go.Proofs.Ytbblachhijpgeaa
open Go.ChangeShapes Go.WideShapes Go.ChangeAt Go.RowKit Go.Deep Go.Joins

theorem suf_bd (f : Nat → St) (up : Nat) (W : Int) (lo cu : Nat) (hlc : lo ≤ cu) : lo ≤ suf f up W lo cu ∧ suf f up W lo cu ≤ cu := by
  unfold suf
  cases h : (List.range cu).find? (fun p => decide (lo ≤ p) && decide (W ≤ up * (f p).a)) with
  | none => exact ⟨hlc, Nat.le_refl _⟩
  | some p =>
    rw [List.find?_range_eq_some] at h
    obtain ⟨h1, h2, h3⟩ := h
    simp at h1 h2
    exact ⟨h1.1, by simp; omega⟩
theorem gok_smp {n : Nat} {s : GV} (h : GOk n s) (f : Nat → St) (x : Nat) : GOk n (smpS f s x) ∧ (smpS f s x).hi = s.hi := by
  obtain ⟨h1, h2, h3, h4, h5, h6, h7⟩ := h
  have sb := suf_bd f s.up (x * (f s.cu).a) s.lo s.cu h5
  unfold smpS
  split
  · exact ⟨⟨h1, h2, h3, by simp only; omega, by simp only; omega, by simp only; omega, h7⟩, rfl⟩
  · split
    · split
      · exact ⟨⟨h1, h2, h3, by simp only; omega, sb.1, by simp only; omega, h7⟩, rfl⟩
      · exact ⟨⟨h1, h2, h3, by simp only; omega, h5, h6, h7⟩, rfl⟩
    · exact ⟨⟨h1, h2, h3, by simp only; omega, h5, h6, h7⟩, rfl⟩
theorem vld_mono {n : Nat} {f : Nat → St} (hv : vld n f = true) {p k : Nat} (h : p ≤ k) (hk : k < n) : (f p).c ≤ (f k).c := by
  obtain ⟨d, rfl⟩ : ∃ d, k = p + d := ⟨k - p, by omega⟩
  clear h
  induction d with
  | zero => exact Int.le_refl _
  | succ d ih =>
    have := ih (by omega)
    have := (vld_step hv (k := p + d) (by omega)).2.2
    show _ ≤ (f (p + d + 1)).c
    omega
theorem open_loads {H : Type} {enc : TypeId × Value → H} {w : World} {a : Option Addr} {len cap : Nat} {d : DataW H} {p : List MemPlace}
    (h : DataW.Trod enc Try.prog w 0 (fun _ => true) true 61 (.slice a len cap) d p) : ∃ Z, Ns .i64 w a len Z := by
  obtain ⟨Z, h1, _⟩ := open_ns Try.underlying61 Try.underlying3 (by kernel_rfl) h
  exact ⟨Z, h1⟩
set_option maxRecDepth 20000 in
set_option maxHeartbeats 32000000 in
theorem tg_any (dc da am lim : Int) (A0 : Option Addr) (m0 c0 : Nat) (g : Nat → St) (P : Option Addr) (pn pc : Nat) (R : Nat → Int) (w : World) (hA : SlS .u64 w A0 m0 g) (hP : Ns .i64 w P pn R) : Calls Try.prog 6 #[.agg #[.int .i64 dc, .int .i64 da], .int .i64 am, .int .i64 lim, .slice A0 m0 c0, .slice P pn pc] w (LawPost w) := by
  have AW := Lib.hid (fun W => awake_any W)
  have HB0' := Lib.hid (bal (Below.refl w.heap.size w) (Obj.cells #[.int .i64 dc, .int .i64 da] 23))
  by_cases hm0 : 20 < m0
  · have q0 : (20 : Int) < (m0 : Int) := by omega
    clear hP hA
    go_enter Try.func6, Try.ntmps6
    go_wp2_with (go_at_call 8; refine (AW.out _).mono ?_; rintro e w9 ⟨rfl, hb9⟩)
    go_ret
    exact ⟨rfl, bel2 HB0'.out hb9⟩
  have q0 : ¬ (20 : Int) < (m0 : Int) := by omega
  by_cases hm : 40 < pn
  · have q : (40 : Int) < (pn : Int) := by omega
    clear hP hA
    go_enter Try.func6, Try.ntmps6
    go_wp2_with (go_at_call 8; refine (AW.out _).mono ?_; rintro e w9 ⟨rfl, hb9⟩)
    go_ret
    exact ⟨rfl, bel2 HB0'.out hb9⟩
  have q : ¬ (40 : Int) < (pn : Int) := by omega
  clear HB0'
  have HP := Lib.hid hP
  have HA := Lib.hid hA
  clear hP hA
  have HB0 := Lib.hid (bal (Below.refl w.heap.size w) (Obj.cells #[.int .i64 dc, .int .i64 da] 23))
  obtain ⟨z0, z1⟩ := bx2 w (.int .i64 dc) (.int .i64 da) 23
  have lS0 : w.heap.size < (w.alloc (.cells #[.int .i64 dc, .int .i64 da] 23)).heap.size := by simp
  have PA3 := (pl_spec lim 60 (by omega) (by omega)).2
  have PAH := Lib.hid (pl_spec lim 60 (by omega) (by omega)).1
  generalize pl lim 60 = pt at *
  go_enter Try.func6, Try.ntmps6
  go_upto_region 3 with fail
  generalize w.alloc (.cells #[.int .i64 dc, .int .i64 da] 23) = w1 at *
  have SO := som_any (some ⟨w1.heap.size, 0, none⟩) 1 1 (fun _ => ⟨dc, da⟩) none 0 0 K00 am _ (fl1 w1 dc da) (fl_nil _ _)
  have HB1 := Lib.hid (bel2 HB0.out (bal (Below.refl w1.heap.size w1) (.cells #[.int .i64 dc, .int .i64 da] 23)))
  clear HB0
  go_wp2_with fail
  generalize w1.alloc (.cells #[.int .i64 dc, .int .i64 da] 23) = w2 at *
  clear z0 z1 lS0
  refine SO.mono ?_
  clear SO
  rintro e w3 ⟨n, D, m, K, amb, A1, B1, cb, rfl, hF1, hF2, hbn, hG, n1, n5, m12, hn, hm0, a1, a2, hb3⟩
  obtain rfl : n = 1 := hn rfl
  obtain rfl : m = 0 := by omega
  have hx : Below w3.heap.size w3 (w3.alloc (.cells #[.slice (some A1) 1 1, .slice B1 0 cb, .int .i64 amb] 29)) := bal (Below.refl _ _) _
  obtain ⟨s0, s1, s2⟩ := bx3 w3 (.slice (some A1) 1 1) (.slice B1 0 cb) (.int .i64 amb) 29
  have HB4 := Lib.hid (bel2 (bel2 HB1.out hb3) hx)
  have lS : w3.heap.size < (w3.alloc (.cells #[.slice (some A1) 1 1, .slice B1 0 cb, .int .i64 amb] 29)).heap.size := by simp
  have hG1 := hF1.below' hx
  obtain ⟨ab, ao, hA1, lA, -⟩ := hG1.dat (show 0 < 1 by omega)
  injection hA1 with hA1
  subst hA1
  obtain ⟨-, d0, d1⟩ := hG1.dat' rfl (show 0 < 1 by omega)
  rw [Nat.zero_mul, Nat.add_zero] at d0 d1
  obtain ⟨g1, g2, g3, g4⟩ := hG.d 0 (by omega)
  have g3 : (D 0).a ≤ (D 0).c := g3
  have HG := Lib.hid hG
  have HF1 := Lib.hid hG1
  clear hb3 hx hF1 hF2 hbn hG hG1 HB1
  obtain ⟨top, htop⟩ : ∃ top, amb + (pt : Int) = top := ⟨_, rfl⟩
  have WT := Lib.hid (both (x := amb + (pt : Int)) (y := top) (by omega) htop)
  have mb0 : 0 ≤ (D 0).a * (top - amb) := Int.mul_nonneg (by omega) (by omega)
  obtain ⟨p, hp⟩ : ∃ p : Nat, (D 0).a * (top - amb) = (p : Int) := ⟨((D 0).a * (top - amb)).toNat, (Int.toNat_of_nonneg mb0).symm⟩
  have mb := mul_bd (a := (D 0).a) (b := top - amb) (A := 6) (B := 60) (by omega) (by omega) (by omega) (by omega)
  have p0 : ¬ (p : Int) < 0 := by omega
  have p1 : p ≤ 360 := by omega
  clear mb0
  have SU := Lib.hid (fun W => sus_any (D 0).c (D 0).a amb top p g1 (by omega) g3 (by omega) a1 a2 (by omega) (by omega) hp W)
  have HP1 := Lib.hid hp
  have HT := Lib.hid htop
  have t0 : 0 ≤ top - amb := by omega
  have t1 : top - amb ≤ 60 := by omega
  clear hp mb htop
  have PA2 : wrap64 ((IntKind.u64.wrap lim).tmod 60) = (pt : Int) := PAH.out.2
  have WT2 : wrap64 (amb + (pt : Int)) = top := WT.out.2
  go_upto_region 5 with fail
  rw [HT.out]
  clear PAH WT PA2 WT2
  generalize w3.alloc (.cells #[.slice (some ⟨ab, ao, none⟩) 1 1, .slice B1 0 cb, .int .i64 amb] 29) = w4 at *
  generalize w3.heap.size = S at *
  clear w3
  have KP : ∀ W, Below w4.drew.heap.size w4.drew W → W.cell? ⟨S, 0, none⟩ = some (.slice (some ⟨ab, ao, none⟩) 1 1) ∧ W.cell? ⟨S, 2, none⟩ = some (.int .i64 amb) ∧ W.cell? ⟨ab, ao, none⟩ = some (.int .i64 (D 0).c) ∧ W.cell? ⟨ab, ao + 1, none⟩ = some (.int .i64 (D 0).a) := fun W hb =>
    ⟨(hb.cell (p := ⟨S, 0, none⟩) lS).trans s0, (hb.cell (p := ⟨S, 2, none⟩) lS).trans s2, (hb.cell (p := ⟨ab, ao, none⟩) lA).trans d0, (hb.cell (p := ⟨ab, ao + 1, none⟩) lA).trans d1⟩
  have KP := Lib.hid KP
  have SP := Lib.hid s1
  generalize hdc : (D 0).c = Dc at *
  generalize hda : (D 0).a = Da at *
  refine wp_region_noPanic ?_
  refine wp_region_held_drew (S := fun W => W.cell? ⟨S, 0, none⟩ = some (.slice (some ⟨ab, ao, none⟩) 1 1) ∧ W.cell? ⟨S, 2, none⟩ = some (.int .i64 amb) ∧ W.cell? ⟨ab, ao, none⟩ = some (.int .i64 Dc) ∧ W.cell? ⟨ab, ao + 1, none⟩ = some (.int .i64 Da)) (by kernel_rfl) (⟨s0, s2, d0, d1⟩) (fun hHeld => ?_)
  refine wpAnyH_take (i := 0) (v := ?vn0) (by simp only [List.getElem?_toArray, List.getElem?_cons_zero]; rfl) (by kernel_rfl) (by kernel_rfl) (by kernel_rfl) (fun _ _ _ h => h) (Or.inl ⟨by rfl, ?yn0⟩) hHeld ?_
  case yn0 => (intro w hSw; go_simp <;> with_reducible rfl)
  simp only [Act.put, List.setIfInBounds_toArray, List.set_cons_zero, List.set_cons_succ]
  refine wpAnyH_take (i := 1) (v := ?vn1) (by simp only [List.getElem?_toArray, List.getElem?_cons_succ, List.getElem?_cons_zero]; rfl) (by kernel_rfl) (by kernel_rfl) (by kernel_rfl) (fun _ _ _ h => h) (Or.inl ⟨by rfl, ?yn1⟩) hHeld ?_
  case yn1 => (intro w hSw; go_simp <;> with_reducible rfl)
  simp only [Act.put, List.setIfInBounds_toArray, List.set_cons_zero, List.set_cons_succ]
  refine wpAnyH_take (i := 2) (v := ?vn2) (by simp only [List.getElem?_toArray, List.getElem?_cons_succ, List.getElem?_cons_zero]; rfl) (by kernel_rfl) (by kernel_rfl) (by kernel_rfl) (fun _ _ _ h => h) (Or.inl ⟨by rfl, ?yn2⟩) hHeld ?_
  case yn2 => (intro w hSw; go_simp <;> with_reducible rfl)
  simp only [Act.put, List.setIfInBounds_toArray, List.set_cons_zero, List.set_cons_succ]
  refine wpAnyH_take (i := 3) (v := ?vn3) (by simp only [List.getElem?_toArray, List.getElem?_cons_succ, List.getElem?_cons_zero]; rfl) (by kernel_rfl) (by kernel_rfl) (by kernel_rfl) (fun _ _ _ h => h) (Or.inl ⟨by rfl, ?yn3⟩) hHeld ?_
  case yn3 => (intro w hSw; go_simp <;> with_reducible rfl)
  simp only [Act.put, List.setIfInBounds_toArray, List.set_cons_zero, List.set_cons_succ]
  refine wpAnyH_take (i := 4) (v := ?vn4) (by simp only [List.getElem?_toArray, List.getElem?_cons_succ, List.getElem?_cons_zero]; rfl) (by kernel_rfl) (by kernel_rfl) (by kernel_rfl) (fun _ _ _ h => h) (Or.inl ⟨by rfl, ?yn4⟩) hHeld ?_
  case yn4 => (intro w hSw; go_simp <;> with_reducible rfl)
  simp only [Act.put, List.setIfInBounds_toArray, List.set_cons_zero, List.set_cons_succ]
  refine wpAnyH_take (i := 5) (v := ?vn5) (by simp only [List.getElem?_toArray, List.getElem?_cons_succ, List.getElem?_cons_zero]; rfl) (by kernel_rfl) (by kernel_rfl) (by kernel_rfl) (fun _ _ _ h => h) (Or.inl ⟨by rfl, ?yn5⟩) hHeld ?_
  case yn5 => (intro w hSw; go_simp <;> with_reducible rfl)
  simp only [Act.put, List.setIfInBounds_toArray, List.set_cons_zero, List.set_cons_succ]
  refine wpAnyH_take (i := 6) (v := ?vn6) (by simp only [List.getElem?_toArray, List.getElem?_cons_succ, List.getElem?_cons_zero]; rfl) (by kernel_rfl) (by kernel_rfl) (by kernel_rfl) (fun _ _ _ h => h) (Or.inl ⟨by rfl, ?yn6⟩) hHeld ?_
  case yn6 => (intro w hSw; go_simp <;> with_reducible rfl)
  simp only [Act.put, List.setIfInBounds_toArray, List.set_cons_zero, List.set_cons_succ]
  refine wpAnyH_ready (rs := [7]) (by kernel_rfl) (by simp) ?_
  refine AllReadyH.cons (by simp only [List.getElem?_toArray, List.getElem?_cons_succ, List.getElem?_cons_zero]; rfl) (fun K hK => ?_) ?_
  rotate_left
  · exact AllReadyH.nil
  go_simp
  go_at_call 10
  refine (SU.out _).mono ?_
  rintro e w9 ⟨rfl, hb9⟩
  go_wp2_with fail
  refine hK.out _ _ ?_ (fun hHeld => ?_)
  · exact KP.out _ hb9
  clear hK K
  refine wpAnyH_take (i := 8) (v := ?vn8) (by simp only [List.getElem?_toArray, List.getElem?_cons_succ, List.getElem?_cons_zero]; rfl) (by kernel_rfl) (by kernel_rfl) (by kernel_rfl) (fun _ _ _ h => h) (Or.inl ⟨by rfl, ?yn8⟩) hHeld ?_
  case yn8 => (intro w hSw; go_simp <;> with_reducible rfl)
  simp only [Act.put, List.setIfInBounds_toArray, List.set_cons_zero, List.set_cons_succ]
  refine wpAnyH_take (i := 9) (v := ?vn9) (by simp only [List.getElem?_toArray, List.getElem?_cons_succ, List.getElem?_cons_zero]; rfl) (by kernel_rfl) (by kernel_rfl) (by kernel_rfl) (fun _ _ _ h => h) (Or.inl ⟨by rfl, ?yn9⟩) hHeld ?_
  case yn9 => (intro w hSw; go_simp <;> with_reducible rfl)
  simp only [Act.put, List.setIfInBounds_toArray, List.set_cons_zero, List.set_cons_succ]
  refine wpAnyH_take (i := 10) (v := ?vn10) (by simp only [List.getElem?_toArray, List.getElem?_cons_succ, List.getElem?_cons_zero]; rfl) (by kernel_rfl) (by kernel_rfl) (by kernel_rfl) (fun _ _ _ h => h) (Or.inl ⟨by rfl, ?yn10⟩) hHeld ?_
  case yn10 => (intro w hSw; go_simp <;> with_reducible rfl)
  simp only [Act.put, List.setIfInBounds_toArray, List.set_cons_zero, List.set_cons_succ]
  refine wpAnyH_take (i := 11) (v := ?vn11) (by simp only [List.getElem?_toArray, List.getElem?_cons_succ, List.getElem?_cons_zero]; rfl) (by kernel_rfl) (by kernel_rfl) (by kernel_rfl) (fun _ _ _ h => h) (Or.inl ⟨by rfl, ?yn11⟩) hHeld ?_
  case yn11 => (intro w hSw; go_simp <;> with_reducible rfl)
  simp only [Act.put, List.setIfInBounds_toArray, List.set_cons_zero, List.set_cons_succ]
  refine wpAnyH_take (i := 12) (v := ?vn12) (by simp only [List.getElem?_toArray, List.getElem?_cons_succ, List.getElem?_cons_zero]; rfl) (by kernel_rfl) (by kernel_rfl) (by kernel_rfl) (fun _ _ _ h => h) (Or.inl ⟨by rfl, ?yn12⟩) hHeld ?_
  case yn12 => (intro w hSw; go_simp <;> with_reducible rfl)
  simp only [Act.put, List.setIfInBounds_toArray, List.set_cons_zero, List.set_cons_succ]
  refine wpAnyH_done (by kernel_rfl) ?_ _
  refine NoPanic.normal ?_
  have B9 := Lib.hid (bel2 HB4.out.drew hb9)
  have HF9 := Lib.hid (HF1.out.below' (bel2 (Below.refl _ w4).drew hb9))
  have S9 := Lib.hid (KP.out _ hb9)
  have lS9 : S < w9.heap.size := Nat.lt_of_lt_of_le lS hb9.size
  have lA9 : ab < w9.heap.size := Nat.lt_of_lt_of_le lA hb9.size
  obtain ⟨s0, s2, -, -⟩ := S9.out
  clear hb9 d0 d1 s1 KP SP HF1
  clear HB4
  have V9 : Va 1 D 0 K00 amb := ⟨by omega, by omega, by omega, by omega, fun i hi => dd0 (fun i => 1 ≤ (D i).a ∧ (D i).a ≤ 16777216 ∧ (D i).c ≤ 16777216) _ hi (by show 1 ≤ (D 0).a ∧ (D 0).a ≤ 16777216 ∧ (D 0).c ≤ 16777216; rw [hdc, hda]; omega), fun l hl => by omega, fun l l2 h1 h2 => by omega, fun i hi => dd0 (fun i => ldK D K00 0 i ≤ (D i).c) _ hi (by show (D 0).a ≤ (D 0).c; rw [hdc, hda]; exact g3)⟩
  have G9 : Gd 1 0 D K00 := ⟨fun i hi => dd0 (fun i => 1 ≤ (D i).a ∧ (D i).a ≤ 6 ∧ ldK D K00 0 i ≤ (D i).c ∧ (D i).c ≤ 13 + 10 * ((0 : Nat) : Int)) _ hi (by show 1 ≤ (D 0).a ∧ (D 0).a ≤ 6 ∧ (D 0).a ≤ (D 0).c ∧ _; rw [hdc, hda]; omega), fun l hl => by omega, fun l l2 h1 h2 => by omega⟩
  have NW := new_any V9 (some ⟨ab, ao, none⟩) 1 none 0 w9 HF9.out (fl_nil _ _) (fun _ => ⟨rfl, rfl⟩)
  have HGG := Lib.hid G9
  clear V9 G9
  go_wp2_with fail
  refine NW.mono ?_
  clear NW
  rintro e w10 ⟨h, rfl, hH, hn, hD, hmm, hK, hs, hE, ho, hu, hb10⟩
  have G9 : Gd h.n h.m h.D h.K := by rw [hn, hD, hmm, hK]; exact HGG.out
  have I0 : Hid (Inv h top) := inv_new (top := top) G9 (by rw [hE, hD, hs]) (by omega)
  have hwr : ∀ b, h.wr b → w9.heap.size ≤ b := fun b hb => (hu b (by rcases hb with x | x; exact .inl x; exact .inr (.inl x))).1
  have HW := Lib.hid hwr
  have HH := Lib.hid hH
  have HO := Lib.hid ho
  have HN := Lib.hid hn
  have HDD := Lib.hid hD
  have HU10 := Lib.hid hu
  have HS := Lib.hid hs
  have HM := Lib.hid hmm
  have B10 := Lib.hid (bel2 B9.out hb10)
  have B9s : w.heap.size ≤ w9.heap.size := B9.out.size
  have hLw : w9.heap.size ≤ h.L ∧ w9.heap.size ≤ h.X := ⟨hwr _ (.inl rfl), hwr _ (.inr rfl)⟩
  clear hH hn hD hmm hK hs hE ho hu hb10 hwr G9 s0 s2 HGG B9 S9 HF9
  have TB := tab_any A0 m0 c0 g w10 (HA.out.below B10.out (Nat.le_refl _))
  have HV : Hid (vld (tbN m0) (tbF m0 g) = true) := tbF_vld m0 g
  obtain ⟨n1, n2, -, -⟩ := tbN_bd m0
  unfold TabPost at TB
  generalize tbN m0 = n at *
  generalize tbF m0 g = f at *
  have UL : Hid (∀ E o b, (h.at E o).uses b → b < w10.heap.size) := fun E o b hb => by
    have K := HH.out
    have hb : h.uses b := hb
    rcases hb with e | e | ⟨a, e, e2⟩ | ⟨a, e, e2⟩
    · rw [e]; exact K.lL
    · rw [e]; exact K.lX
    · have := fl_blk (show Fl w10 (some a) 2 h.n (dV h.D) from e ▸ K.dm) K.n1
      omega
    · exact (HU10.out b (.inr (.inr (.inr ⟨a, e, e2⟩)))).2
  go_wp2_with fail
  refine TB.mono ?_
  clear TB
  rintro e w11 ⟨G, gc, rfl, hG0, hGS, hb11⟩
  have NG : Calls Try.prog 20 #[.slice (some ⟨G, 0, none⟩) n gc, .agg #[.int .i64 80, .int .i64 30, .int .i64 2]] w11 _ := new_good G n gc f ⟨80, 30, 2, 0, n - 1, 0, 0⟩ w11 hGS HV.out ⟨by simp only; omega, by simp only; omega, by simp only; omega, by simp only; omega, by simp only; omega, by simp only; omega, by simp only; omega⟩
  have B11 := Lib.hid (bel2 B10.out hb11)
  have H11 := Lib.hid (HH.out.below hb11)
  have b11s := hb11.size
  have lG : G < w11.heap.size := hGS.lt n1
  have HGS := Lib.hid hGS
  clear hb11 hGS HH
  go_wp2_with fail
  refine NG.mono ?_
  clear NG
  rintro e w12 ⟨Lg, T, tk, rfl, hL0, hT0, hTL, hTS, hGR, hb12⟩
  have hGR : w12.rowIs Lg 102 8 (gcell T n tk ⟨80, 30, 2, 0, n - 1, 0, 0⟩) := hGR
  have B12 := Lib.hid (bel2 B11.out hb12)
  have H12 := Lib.hid (H11.out.below hb12)
  have G12 := Lib.hid (HGS.out.below hb12 (Nat.le_refl _))
  have T12 := Lib.hid hTS
  have R12 := Lib.hid hGR
  have b12s := hb12.size
  have TH := th_any (some ⟨G, 0, none⟩) n gc f (p : Int) w12 G12.out
  have WP : IntKind.u64.wrap (p : Int) = (p : Int) := by rw [IntKind.wrap_u64]; omega
  clear hTS hGR hb12 HGS H11
  go_wp2_with fail
  refine TH.mono ?_
  clear TH
  rintro e w13 ⟨ti, code, rfl, hR, hb13⟩
  have B13 := Lib.hid (bel2 B12.out hb13)
  have H13 := Lib.hid (H12.out.below hb13)
  have G13 := Lib.hid (G12.out.below hb13 (Nat.le_refl _))
  have T13 := Lib.hid (T12.out.below hb13 (Nat.le_refl _))
  have R13 := row_below R12.out hb13 (Nat.le_refl _)
  have lL13 : Lg < w13.heap.size := R13.lt
  have lT13 : T < w13.heap.size := T13.out.lt n1
  clear hb13 WP H12 G12 T12 R12
  rcases hR with ⟨e0, -⟩ | ⟨-, ⟨i, hi, rfl, rfl, hic, -⟩ | ⟨rfl, rfl, -⟩⟩
  · rw [HV.out] at e0; cases e0
  case inr.inr =>
    go_wp2_with (go_at_call 8; refine (AW.out _).mono ?_; rintro e w9 ⟨rfl, hb9⟩)
    go_ret
    exact ⟨rfl, bel2 B13.out hb9⟩
  have LG : Calls Try.prog 22 #[.pointer (some ⟨Lg, 0, none⟩), .int .i64 0, .int .i64 (i : Nat)] w13 _ := lim_good Lg T n tk ⟨80, 30, 2, 0, n - 1, 0, 0⟩ 0 i w13 R13 (by omega) ⟨by omega, hi⟩
  clear R13
  go_wp2_with fail
  refine LG.mono ?_
  clear LG
  rintro e w14 ⟨rfl, hR14, hg14⟩
  have GK0 : Hid (GOk n (limS ⟨80, 30, 2, 0, n - 1, 0, 0⟩ 0 i)) := ⟨by show 1 ≤ 80 ∧ 80 ≤ 100; omega, by show 30 < 80; omega, by show 1 ≤ 2 ∧ 2 ≤ 1000; omega, by show 0 < 2; omega, by show 0 ≤ min (max 0 0) i; omega, by show min (max 0 0) i ≤ i; omega, hi⟩
  have GH0 : Hid ((limS ⟨80, 30, 2, 0, n - 1, 0, 0⟩ 0 i).hi = i) := rfl
  generalize limS ⟨80, 30, 2, 0, n - 1, 0, 0⟩ 0 i = s0 at *
  have C14 := Chg.of_grown hg14
  have ULg : Hid (∀ E o b, (h.at E o).uses b → ¬ some Lg = some b) := fun E o b hb e => by
    have := UL.out E o b hb
    injection e with e
    omega
  have H14 := Lib.hid (H13.out.keep C14 (ULg.out _ _))
  have B14 := Lib.hid (Below.chg B13.out C14 B13.out.size (fun b e => by injection e with e; have := B11.out.size; omega))
  have G14 := Lib.hid (G13.out.grown hg14 (by omega))
  have T14 := Lib.hid (T13.out.grown hg14 hTL)
  have R14 := Lib.hid hR14
  have C0 : Hid (w13.heap.size ≤ w14.heap.size) := C14.size
  have lL14 := Nat.lt_of_lt_of_le lL13 C14.size
  have lT14 := Nat.lt_of_lt_of_le lT13 C14.size
  have lG14 : G < w14.heap.size := by have := C14.size; have := b12s; have := G13.out.lt n1; omega
  have TOP := Lib.hid (fun k (hk : k < n) => vld_top HV.out hk)
  clear hR14 hg14 C14 H13 G13 T13
  have WG : Hid (∀ b, (h.wr b ∨ b = Lg) → w.heap.size ≤ b) := fun b hb => by
    have := B11.out.size
    rcases hb with e | e
    · have := HW.out b e
      omega
    · omega
  have WGT : Hid (¬ (h.wr G ∨ G = Lg) ∧ ¬ (h.wr T ∨ T = Lg)) := by
    have u1 := UL.out h.E h.o h.L (.inl rfl)
    have u2 := UL.out h.E h.o h.X (.inr (.inl rfl))
    refine ⟨fun e => ?_, fun e => ?_⟩
    · rcases e with e | e
      · have e : G = h.L ∨ G = h.X := e
        omega
      · omega
    · rcases e with e | e
      · have e : T = h.L ∨ T = h.X := e
        omega
      · omega
  go_wp2_with fail
  go_loopw [22] (fun vi wr => ∃ (j : Nat) (E : Nat → Int) (o : Int) (s : GV), vi = .int .i64 j ∧ j ≤ pn ∧ Hm wr (h.at E o) ∧ Inv (h.at E o) top ∧ 0 ≤ o ∧ o ≤ 12000 * (j : Int) ∧ wr.rowIs Lg 102 8 (gcell T n tk s) ∧ GOk n s ∧ s.hi = i ∧ Chg (fun b => h.wr b ∨ b = Lg) w14 wr) (fun vi _ => pn - (intOf vi).toNat)
  case atStart => exact ⟨0, h.E, h.o, s0, rfl, Nat.zero_le _, H14.out, I0.out, by rw [HO.out]; exact Int.le_refl _, by rw [HO.out]; show (0 : Int) ≤ _; omega, R14.out, GK0.out, GH0.out, Chg.refl _ _⟩
  case round =>
    obtain ⟨j, E, o, s, rfl, hj, hH, hI, o1, o2, hR, hK, hhi, hC⟩ := hrel
    have HK := Lib.hid hH
    have HI := Lib.hid hI
    have CC := Lib.hid hC
    have HR := Lib.hid hR
    have HGK := Lib.hid hK
    have HHI := Lib.hid hhi
    have BW : Hid (Below w.heap.size w wr) := Below.chg B14.out hC B14.out.size WG.out
    have Gr := Lib.hid (G14.out.chg hC (fun a e _ => by injection e with e; subst e; exact WGT.out.1))
    have Tr := Lib.hid (T14.out.chg hC (fun a e _ => by injection e with e; subst e; exact WGT.out.2))
    clear hH hI hC hR hK hhi
    by_cases hlt : j < pn
    · obtain ⟨pb, po, rfl, r0⟩ := HP.out.at BW.out (Nat.le_refl _) hlt
      have pbl : pb < wr.heap.size := by
        have := cell_lt r0
        exact this
      have MD := mod_q (R j) 101 (by omega) (by omega) wr
      have x100 := (modOf_spec (R j) 101 (by omega) (by omega)).2
      generalize R j = rj at *
      generalize modOf rj 101 = x at *
      have SM := smp_good Lg T n tk s f x wr HR.out Tr.out HGK.out (by omega) hTL (fun k hk => (TOP.out k hk).1)
      have GK2 := gok_smp HGK.out f x
      rw [HHI.out] at GK2
      obtain ⟨gk2, gh2⟩ := GK2
      generalize smpS f s x = s2 at *
      have HGK2 := Lib.hid gk2
      have HGH2 := Lib.hid gh2
      have cu1 : s2.cu ≤ i := by have := gk2.lh; omega
      have cu2 : s2.cu < n := by omega
      clear gk2 gh2
      go_wp2_with (go_at_call 14; refine MD.mono ?_; clear MD; rintro e w20 ⟨rfl, hw20⟩; subst hw20)
      refine SM.mono ?_
      clear SM
      rintro e w21 ⟨rfl, hR21, hg21⟩
      have C21 := Chg.of_grown hg21
      have K21 := Lib.hid (HK.out.keep C21 (ULg.out E o))
      have G21 := Lib.hid (Gr.out.grown hg21 (by omega))
      have CC21 := Lib.hid (CC.out.trans (C21.mono (fun b _ e => by injection e with e; exact .inr e.symm)))
      have R21 := Lib.hid hR21
      obtain ⟨-, -, gcell2⟩ := G21.out.cells cu2
      have lG21 := G21.out.lt n1
      have cc0 := wf_u64 (G21.out.wf s2.cu cu2).2.2
      have ccm := vld_mono HV.out cu1 hi
      clear hR21 hg21 C21 HK Gr Tr HR HGK CC r0 pbl
      have cq0 : ¬ (s2.cu : Int) < 0 := by omega
      have cq1 : ¬ (n : Int) ≤ (s2.cu : Int) := by omega
      have cz1 : (f s2.cu).c ≤ (p : Int) := by omega
      clear ccm
      generalize hcu : s2.cu = cu at *
      generalize (f cu).c = z at *
      have hx : Below w21.heap.size w21 (w21.alloc (.cells #[.int .i64 z] 2)) := bal (Below.refl _ _) _
      have C22 := Lib.hid (CC21.out.trans (Chg.of_below hx _))
      have K22 := Lib.hid (K21.out.below hx)
      have R22 := Lib.hid (row_below R21.out hx (Nat.le_refl _))
      have l1 : h.L < w21.heap.size := K21.out.lL
      have l2 : h.X < w21.heap.size := K21.out.lX
      have l3 : Lg < w21.heap.size := R21.out.lt
      have ST := step1 (c := 1) (z := z) HN.out HM.out (by rw [HS.out]; exact a1) (by rw [HS.out]; exact a2) (by rw [HS.out]; omega) K22.out HI.out o1 (by omega) (fle1 w21 z) (by omega) (by show _ ≤ (h.D 0).a * (top - h.s); rw [HDD.out, HS.out, hda, HP1.out]; omega) (by omega) (fun q => by have q : w21.heap.size = h.L ∨ w21.heap.size = h.X := q; omega)
      clear hx K22 CC21 K21 R21 G21
      go_wp2_with fail
      refine ST.mono ?_
      clear ST
      rintro e w25 ⟨tb, tw, tc, t, E', o', rfl, c0, lt, -, ht, hK7, hI7, e1, e2, hC7⟩
      have ht : ¬ top < t := by omega
      have C7 := Lib.hid (C22.out.trans (hC7.mono (fun _ _ e => .inl e)))
      have K7 := Lib.hid hK7
      have I7 := Lib.hid hI7
      have WL : ¬ h.wr Lg := fun e => by
        have e : Lg = h.L ∨ Lg = h.X := e
        have u1 := UL.out h.E h.o h.L (.inl rfl)
        have u2 := UL.out h.E h.o h.X (.inr (.inl rfl))
        omega
      have R7 := Lib.hid (R22.out.of_block (hC7.block Lg R22.out.lt WL))
      clear hK7 hI7 hC7 C22 R22 WL
      go_wp2
      go_roundw
      case rel => exact ⟨j + 1, E', o', s2, by go_num, by omega, K7.out, I7.out, by omega, by omega, R7.out, HGK2.out, HGH2.out, C7.out⟩
      case measure => simp [intOf]; omega
    · have hq : ¬ (j : Int) < (pn : Int) := by omega
      clear HK HI CC HR HGK HHI Gr Tr
      go_wp2_with (go_at_call 8; refine (AW.out _).mono ?_; rintro e w9 ⟨rfl, hb9⟩)
      go_ret
      exact ⟨rfl, bel2 BW.out hb9⟩
theorem tg_w (d : Dm) (am lim : Int) (A0 : Option Addr) (m0 c0 : Nat) (g : Nat → St) (P : Option Addr) (pn pc : Nat) (R : Nat → Int) (w : World) (_h0 : True) (_h1 : (Lit.int .i64 am).wf = true) (_h2 : (Lit.int .i64 lim).wf = true) (hA : SlS .u64 w A0 m0 g ∧ m0 ≤ c0 ∧ c0 ≤ 9223372036854775807 ∧ (A0 = none → c0 = 0)) (hP : Ns .i64 w P pn R) : Calls Try.prog 6 #[.agg #[.int .i64 d.c, .int .i64 d.a], .int .i64 am, .int .i64 lim, .slice A0 m0 c0, .slice P pn pc] w (LawPost w) := tg_any d.c d.a am lim A0 m0 c0 g P pn pc R w hA.1 hP
end Go.Proofs.Ytbblachhijpgeaa
