/- perf.Safe: whether operations are safe from a point. -/
import Derived.Test.YtfmaadfccnjnjaaIdf
namespace Go.Proofs.Ytfmaadfccnjnjaa
open Go.RowKit

structure FV where
  f : Int
  v : Int
def stS (s : FV) (o : PO) : FV := if o.v then ⟨s.f, o.x⟩ else ⟨o.x, s.v⟩
def stTo (g : Nat → PO) (s : FV) : Nat → FV
  | 0 => s
  | k + 1 => stS (stTo g s k) (g k)
def okS (n : Nat) (f : Nat → St) (s : FV) : Bool := match idx n f s.f with
  | some i => decide ((f i).r ≤ s.v)
  | none => false
def okSTo (n : Nat) (f : Nat → St) (g : Nat → PO) (s : FV) : Nat → Bool
  | 0 => true
  | k + 1 => okSTo n f g s k && okS n f (stTo g s (k + 1))
theorem okSTo_le {n : Nat} {f : Nat → St} {g : Nat → PO} {s : FV} {k m : Nat} (hk : k ≤ m) (he : okSTo n f g s m = true) : okSTo n f g s k = true := by
  induction m with
  | zero => have : k = 0 := by omega
            subst this; rfl
  | succ m ih =>
    simp only [okSTo, Bool.and_eq_true] at he
    rcases Nat.lt_or_ge k (m + 1) with h1 | h1
    · exact ih (by omega) he.1
    · have : k = m + 1 := by omega
      subst this; simp [okSTo, he]
theorem okSTo_not {n : Nat} {f : Nat → St} {g : Nat → PO} {s : FV} {k m : Nat} (hk : k < m) (he : okS n f (stTo g s (k + 1)) = false) : okSTo n f g s m = false := by
  cases e : okSTo n f g s m
  · rfl
  · have := okSTo_le (show k + 1 ≤ m by omega) e
    simp only [okSTo, he] at this
    simp at this
def safeB (n : Nat) (f : Nat → St) (a : Int) (m : Nat) (g : Nat → PO) : Bool := vld n f && inT n a && okSTo n f g ⟨(f a.toNat).l, (f a.toNat).r⟩ m
def SafPost (w : World) (n : Nat) (f : Nat → St) (a : Int) (m : Nat) (g : Nat → PO) (e : Ending) (w' : World) : Prop :=
  e = .returned (.bool (safeB n f a m g)) ∧ Below w.heap.size w w'
theorem saf_bad (A B : Option Addr) (n c m d : Nat) (f : Nat → St) (a : Int) (g : Nat → PO) (w : World) (h : SlS w A n f) (ho : (vld n f && inT n a) = false) :
    Calls Try.prog 22 #[.slice A n c, .int .i64 a, .slice B m d] w (SafPost w n f a m g) := by
  have C := chk_any A n c f w h
  have E : Hid (safeB n f a m g = false) := by show _ = _; unfold safeB; rw [ho]; rfl
  cases hv : vld n f
  · have HV := Lib.hid hv; clear hv ho
    go_enter Try.func22, Try.ntmps22
    go_wp2_with fail
    refine C.mono ?_
    rintro e w' ⟨rfl, hb⟩
    rw [HV.out]
    go_wp2
    go_ret
    exact ⟨by rw [E.out]; rfl, hb⟩
  · have HV := Lib.hid hv
    have HA : Hid (inT n a = false) := by show _ = _; rw [hv] at ho; simpa using ho
    clear hv ho
    go_enter Try.func22, Try.ntmps22
    go_wp2_with fail
    refine C.mono ?_
    rintro e w' ⟨rfl, hb⟩
    rw [HV.out]
    go_wp2_with fail
    refine (isp_any _ _ _ _ _).mono ?_
    rintro e w2 ⟨rfl, rfl⟩
    rw [HA.out]
    go_wp2
    go_ret
    exact ⟨by rw [E.out]; rfl, hb⟩
theorem prow_v {w : World} {L : Nat} {x y z t : Int} (h : w.rowIs L 25 3 (pcell ⟨x, y, z⟩)) : (w.setCell ⟨L, 1, none⟩ (.int .u64 t)).rowIs L 25 3 (pcell ⟨x, t, z⟩) := by
  refine (h.set 1 _).congr fun j hj => ?_
  match j, hj with
  | 0, _ => rfl
  | 1, _ => rfl
  | 2, _ => rfl
theorem prow_f {w : World} {L : Nat} {x y z t : Int} (h : w.rowIs L 25 3 (pcell ⟨x, y, z⟩)) : (w.setCell ⟨L, 0, none⟩ (.int .u64 t)).rowIs L 25 3 (pcell ⟨t, y, z⟩) := by
  refine (h.set 0 _).congr fun j hj => ?_
  match j, hj with
  | 0, _ => rfl
  | 1, _ => rfl
  | 2, _ => rfl
theorem prow_box (w : World) (x y z : Int) : (w.alloc (.cells #[.int .u64 x, .int .u64 y, .int .u64 z] 25)).rowIs w.heap.size 25 3 (pcell ⟨x, y, z⟩) := by
  refine World.rowIs_alloc w #[.int .u64 x, .int .u64 y, .int .u64 z] 25 (pcell ⟨x, y, z⟩) fun j hj => ?_
  match j, hj with
  | 0, _ => rfl
  | 1, _ => rfl
  | 2, _ => rfl
theorem sts_below {w w' : World} {b off n : Nat} {f : Nat → St} (h : Sts w b off n f) (hb : Below w.heap.size w w') (hlt : b < w.heap.size) : Sts w' b off n f := fun i hi => by
  obtain ⟨c0, c1, c2⟩ := h i hi
  rw [← hb.cell (by exact hlt)] at c0 c1 c2
  exact ⟨c0, c1, c2⟩
theorem idxI_cases (n : Nat) (f : Nat → St) (s : FV) : (okS n f s = false ∧ idxI n f s.f = -1) ∨ ∃ i : Nat, i < n ∧ idxI n f s.f = i ∧ okS n f s = decide ((f i).r ≤ s.v) := by
  unfold idxI okS
  cases h : idx n f s.f with
  | none => exact .inl ⟨rfl, rfl⟩
  | some i =>
    refine .inr ⟨i, ?_, rfl, rfl⟩
    unfold idx at h
    have := List.mem_of_find?_eq_some h
    simpa using this
set_option maxRecDepth 100000 in
set_option maxHeartbeats 4000000 in
theorem saf_good (b off n c : Nat) (B : Option Addr) (m d : Nat) (f : Nat → St) (a : Nat) (g : Nat → PO) (w : World) (h : SlS w (some ⟨b, off, none⟩) n f) (hb : b < w.heap.size) (hc : Sts w b off n f)
    (ho : (vld n f && inT n (a : Int)) = true) (hp : PlS w B m g) :
    Calls Try.prog 22 #[.slice (some ⟨b, off, none⟩) n c, .int .i64 a, .slice B m d] w (SafPost w n f a m g) := by
  have C := chk_any _ n c f w h
  have hm := hp.len
  simp only [Bool.and_eq_true] at ho
  obtain ⟨hv, ha⟩ := ho
  have hn := (vld_len hv).2
  have ha1 : a < n := by simp [inT] at ha; omega
  have a3 : (a : Int) < n := by omega
  have SB : Hid (safeB n f a m g = okSTo n f g ⟨(f a).l, (f a).r⟩ m) := by show _ = _; unfold safeB; rw [hv, ha]; simp
  have HV := Lib.hid hv; clear hv
  have HA := Lib.hid ha; clear ha
  have HC := Lib.hid hc
  have HP := Lib.hid hp.row
  obtain ⟨c0, c1, c2⟩ := hc a ha1
  clear hc h hp
  generalize f a = s0 at *
  obtain ⟨x0, y0, z0⟩ := s0
  simp only at c0 c1 c2
  go_enter Try.func22, Try.ntmps22
  go_wp2_with fail
  refine C.mono ?_
  rintro e w1 ⟨rfl, hB1⟩
  clear C
  rw [HV.out]
  rw [← hB1.cell hb] at c0 c1 c2
  go_wp2_with fail
  refine (isp_any _ _ _ _ _).mono ?_
  rintro e w2 ⟨rfl, rfl⟩
  rw [HA.out]
  have R0 := prow_box w1 x0 y0 z0
  have B0 := bal hB1 (Obj.cells #[.int .u64 x0, .int .u64 y0, .int .u64 z0] 25)
  obtain ⟨L, hL⟩ : ∃ L, L = w1.heap.size := ⟨_, rfl⟩
  have hwL : w.heap.size ≤ L := by have := hB1.size; omega
  rw [← hL] at R0
  go_wp2_with fail
  rw [← hL]
  clear hL c0 c1 c2
  generalize w1.alloc (Obj.cells #[.int .u64 x0, .int .u64 y0, .int .u64 z0] 25) = w3 at *
  clear hB1
  go_loopw [26] (fun i wr => ∃ k : Nat, k ≤ m ∧ i = .int .i64 k ∧ Below w.heap.size w wr ∧ wr.rowIs L 25 3 (pcell ⟨(stTo g ⟨x0, y0⟩ k).f, (stTo g ⟨x0, y0⟩ k).v, z0⟩) ∧ Hid (okSTo n f g ⟨x0, y0⟩ k = true)) (fun i _ => m - (intOf i).toNat)
  case atStart => exact ⟨0, Nat.zero_le _, rfl, B0, R0, rfl⟩
  case round =>
    clear R0 B0
    obtain ⟨k, hk, rfl, hB, R, HO⟩ := hrel
    by_cases hlt : k < m
    · obtain ⟨b2, o2, hBe, hb2, hc2⟩ : ∃ b2 o2, B = some ⟨b2, o2, none⟩ ∧ b2 < w.heap.size ∧ ∀ i, i < m → w.cell? ⟨b2, o2 + i * 2, none⟩ = some (.bool (g i).v) ∧ w.cell? ⟨b2, o2 + i * 2 + 1, none⟩ = some (.int .u64 (g i).x) := by
        rcases HP.out with h0 | h0
        · omega
        · exact h0
      subst hBe
      obtain ⟨p0, p1⟩ := hc2 k hlt
      clear hc2
      rw [← hB.cell hb2] at p0 p1
      have NX : Hid (stTo g ⟨x0, y0⟩ (k + 1) = stS (stTo g ⟨x0, y0⟩ k) (g k)) := rfl
      have NO := Lib.hid (fun h0 => okSTo_not (n := n) (f := f) (g := g) (s := ⟨x0, y0⟩) hlt h0)
      have OT : Hid (okSTo n f g ⟨x0, y0⟩ (k + 1) = (okSTo n f g ⟨x0, y0⟩ k && okS n f (stTo g ⟨x0, y0⟩ (k + 1)))) := rfl
      obtain ⟨T, hT⟩ : ∃ T, stTo g ⟨x0, y0⟩ (k + 1) = T := ⟨_, rfl⟩
      rw [hT] at NX NO OT
      have NX2 := Lib.hid hT; clear hT
      generalize stTo g ⟨x0, y0⟩ k = S at *
      generalize g k = o at *
      obtain ⟨ov, ox⟩ := o
      obtain ⟨sf, sv⟩ := S
      simp only at p0 p1 R
      have q0 := R.cell (show 0 < 3 by omega)
      have q1 := R.cell (show 1 < 3 by omega)
      have f0 := R.frozen 0
      have f1 := R.frozen 1
      simp only [pcell] at q0 q1
      have hLw := R.lt
      have hbw2 : b2 < wr.heap.size := by have := hB.size; omega
      cases ov
      · have TE : Hid (T = ⟨ox, sv⟩) := by show _ = _; rw [NX.out]; simp [stS]
        have R1 := (prow_f (t := ox) R).alloc (Obj.cells #[.bool false, .int .u64 ox] 40)
        have B1 := bal (hB.setCell (p := ⟨L, 0, none⟩) hwL (.int .u64 ox)) (Obj.cells #[.bool false, .int .u64 ox] 40)
        have S1 := sts_below HC.out B1 hb
        have hbx : b < ((wr.setCell ⟨L, 0, none⟩ (.int .u64 ox)).alloc (Obj.cells #[.bool false, .int .u64 ox] 40)).heap.size := by have := B1.size; omega
        go_wp2_with fail
        refine (idf_pos b off n c L f ox _ hn hbx S1 R1.lt (R1.cell (show 0 < 3 by omega))).mono ?_
        rintro e w4 ⟨rfl, hb4⟩
        have B4 := bel2 B1 hb4
        have R4 := row_below R1 hb4 (Nat.le_refl _)
        have S4 := sts_below HC.out B4 hb
        have v4 := R4.cell (show 1 < 3 by omega)
        simp only [pcell] at v4
        clear B1 R1 S1 hb4 hbx p0 p1 q0 q1 f0 f1 hB R hLw hbw2
        generalize World.alloc _ _ = wold at *
        rcases idxI_cases n f ⟨ox, sv⟩ with ⟨hO, hI⟩ | ⟨i, hi, hI, hO⟩
        · have HO2 : Hid (okS n f T = false) := by show _ = _; rw [TE.out]; exact hO
          rw [show idxI n f ox = -1 from hI]
          clear hO hI
          go_wp2_with fail
          go_quiet (fail)
          go_wp2
          go_ret
          exact ⟨by rw [SB.out, NO.out HO2.out]; rfl, below_drewN B4 _⟩
        · have HO2 : Hid (okS n f T = decide ((f i).r ≤ sv)) := by show _ = _; rw [TE.out]; exact hO
          rw [show idxI n f ox = i from hI]
          clear hO hI
          obtain ⟨e0, e1, e2⟩ := S4 i hi
          clear S4
          have i0 : decide ((i : Int) < 0) = false := by simp
          generalize f i = si at *
          obtain ⟨sl, sr, sp⟩ := si
          simp only at e0 e1 e2
          by_cases hlt2 : sv < sr
          · have HF : Hid (okS n f T = false) := by show _ = _; rw [HO2.out]; simp; omega
            go_wp2_with fail
            go_quiet (fail)
            go_wp2
            go_ret
            exact ⟨by rw [SB.out, NO.out HF.out]; rfl, below_drewN B4 _⟩
          · have HF : Hid (okSTo n f g ⟨x0, y0⟩ (k + 1) = true) := by show _ = _; rw [OT.out, HO.out, HO2.out]; simp; omega
            have D2 : decide (sv < sr) = false := by simpa using hlt2
            go_wp2_with fail
            go_quiet (fail)
            go_wp2
            go_roundw
            case rel => exact ⟨k + 1, by omega, by go_num, below_drewN B4 _, by rw [NX2.out, TE.out]; exact R4, HF⟩
            case measure => simp [intOf]; omega
      · have TE : Hid (T = ⟨sf, ox⟩) := by show _ = _; rw [NX.out]; simp [stS]
        have R1 := (prow_v (t := ox) R).alloc (Obj.cells #[.bool true, .int .u64 ox] 40)
        have B1 := bal (hB.setCell (p := ⟨L, 1, none⟩) hwL (.int .u64 ox)) (Obj.cells #[.bool true, .int .u64 ox] 40)
        have S1 := sts_below HC.out B1 hb
        have hbx : b < ((wr.setCell ⟨L, 1, none⟩ (.int .u64 ox)).alloc (Obj.cells #[.bool true, .int .u64 ox] 40)).heap.size := by have := B1.size; omega
        go_wp2_with fail
        refine (idf_pos b off n c L f sf _ hn hbx S1 R1.lt (R1.cell (show 0 < 3 by omega))).mono ?_
        rintro e w4 ⟨rfl, hb4⟩
        have B4 := bel2 B1 hb4
        have R4 := row_below R1 hb4 (Nat.le_refl _)
        have S4 := sts_below HC.out B4 hb
        have v4 := R4.cell (show 1 < 3 by omega)
        simp only [pcell] at v4
        clear B1 R1 S1 hb4 hbx p0 p1 q0 q1 f0 f1 hB R hLw hbw2
        generalize World.alloc _ _ = wold at *
        rcases idxI_cases n f ⟨sf, ox⟩ with ⟨hO, hI⟩ | ⟨i, hi, hI, hO⟩
        · have HO2 : Hid (okS n f T = false) := by show _ = _; rw [TE.out]; exact hO
          rw [show idxI n f sf = -1 from hI]
          clear hO hI
          go_wp2_with fail
          go_quiet (fail)
          go_wp2
          go_ret
          exact ⟨by rw [SB.out, NO.out HO2.out]; rfl, below_drewN B4 _⟩
        · have HO2 : Hid (okS n f T = decide ((f i).r ≤ ox)) := by show _ = _; rw [TE.out]; exact hO
          rw [show idxI n f sf = i from hI]
          clear hO hI
          obtain ⟨e0, e1, e2⟩ := S4 i hi
          clear S4
          have i0 : decide ((i : Int) < 0) = false := by simp
          generalize f i = si at *
          obtain ⟨sl, sr, sp⟩ := si
          simp only at e0 e1 e2
          by_cases hlt2 : ox < sr
          · have HF : Hid (okS n f T = false) := by show _ = _; rw [HO2.out]; simp; omega
            go_wp2_with fail
            go_quiet (fail)
            go_wp2
            go_ret
            exact ⟨by rw [SB.out, NO.out HF.out]; rfl, below_drewN B4 _⟩
          · have HF : Hid (okSTo n f g ⟨x0, y0⟩ (k + 1) = true) := by show _ = _; rw [OT.out, HO.out, HO2.out]; simp; omega
            have D2 : decide (ox < sr) = false := by simpa using hlt2
            go_wp2_with fail
            go_quiet (fail)
            go_wp2
            go_roundw
            case rel => exact ⟨k + 1, by omega, by go_num, below_drewN B4 _, by rw [NX2.out, TE.out]; exact R4, HF⟩
            case measure => simp [intOf]; omega
    · have : k = m := by omega
      subst this
      go_wp2
      go_ret
      exact ⟨by rw [SB.out, HO.out]; rfl, hB⟩
theorem saf_any (A B : Option Addr) (n c m d : Nat) (f : Nat → St) (a : Int) (g : Nat → PO) (w : World) (h : SlS w A n f) (hp : PlS w B m g) :
    Calls Try.prog 22 #[.slice A n c, .int .i64 a, .slice B m d] w (SafPost w n f a m g) := by
  cases ho : vld n f && inT n a
  · exact saf_bad A B n c m d f a g w h ho
  · have hh := ho
    simp only [Bool.and_eq_true, inT, decide_eq_true_eq] at hh
    have hl := vld_len hh.1
    rcases h.row with h0 | ⟨b, off, rfl, hb, hc⟩
    · omega
    · obtain ⟨k, rfl⟩ : ∃ k : Nat, a = k := ⟨a.toNat, by omega⟩
      exact saf_good b off n c B m d f k g w h hb hc ho hp
end Go.Proofs.Ytfmaadfccnjnjaa
