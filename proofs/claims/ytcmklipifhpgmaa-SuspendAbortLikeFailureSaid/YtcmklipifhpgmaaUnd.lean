/- undo. -/
import Derived.Test.YtcmklipifhpgmaaStl
import Derived.Test.YtcmklipifhpgmaaDlg
import Derived.Deep.RegionHeld
namespace Go.Proofs.Ytcmklipifhpgmaa
open Go.ChangeShapes Go.WideShapes Go.ChangeAt Go.RowKit Go.Deep Go.Joins

/-- The operations of the first k phases on the way back. -/
def bck (n : Nat) (o : Nat → Int) (k : Nat) : List Op := (List.range k).flatMap fun (i : Nat) => planL (5 + (i : Int)) ((5 + (i : Int)) == 8) n o
theorem bck_succ (n : Nat) (o : Nat → Int) (k : Nat) : bck n o (k + 1) = bck n o k ++ planL (5 + (k : Int)) ((5 + (k : Int)) == 8) n o := by
  unfold bck
  rw [List.range_succ, List.flatMap_append]
  simp
theorem bck_len (n : Nat) (o : Nat → Int) (k : Nat) : (bck n o k).length = k * n := by
  induction k with
  | zero => simp [bck]
  | succ k ih => rw [bck_succ, List.length_append, ih]; simp [planL, Nat.succ_mul]
/-- The devices of the sequence's order are numbers below 1000. -/
def Dv (s : SQ) : Prop := s.n ≤ 64 ∧ ∀ i, i < s.n → 0 ≤ s.o i ∧ s.o i ≤ 1000
theorem bck_ok {s : SQ} (h : Dv s) (k : Nat) (hk : k ≤ 4) : ∀ x ∈ bck s.n s.o k, OpOk x := by
  intro x hx
  unfold bck at hx
  obtain ⟨i, hi, hx⟩ := List.mem_flatMap.1 hx
  have hi := List.mem_range.1 hi
  unfold planL at hx
  obtain ⟨j, hj, rfl⟩ := List.mem_map.1 hx
  have hj := List.mem_range.1 hj
  have hd : ∀ t, t < s.n → 0 ≤ s.o t ∧ s.o t ≤ 1000 := h.2
  refine ⟨⟨by show 0 ≤ 5 + (i : Int); omega, by show 5 + (i : Int) ≤ 9; omega⟩, ?_⟩
  exact hd _ (by split <;> omega)
def bk (s : SQ) : List Op := kp s.S (bck s.n s.o 4)
def undS (s : SQ) (r : Int) : SQ := { s with st := stl 2 (bk s).length, p := bk s, r := r }
def UnP (Z : Nat → Prop) (w : World) (L : Nat) (s : SQ) (e : Ending) (w' : World) : Prop := e = .returned (.tuple #[]) ∧ Sq Z w' s ∧ Chg (fun b => b = L ∨ w.heap.size ≤ b) w w'
theorem set_other_cell {w : World} {b b' i j : Nat} {u v : Value} (h : w.cell? ⟨b, i, none⟩ = some u) (hb : b ≠ b') : (w.setCell ⟨b', j, none⟩ v).cell? ⟨b, i, none⟩ = some u :=
  (World.cell?_setCell_other w _ _ _ (fun e => hb (by injection e with e1; exact e1.symm))).trans h
set_option maxRecDepth 20000 in
set_option maxHeartbeats 4000000 in
theorem und_any {Z : Nat → Prop} {w : World} {s : SQ} {v : Value} (h : Sb w s v) (hd : Dv s) (hZ : ∀ b, Z b → b < w.heap.size) (r : Int) : Calls Try.prog 36 #[.pointer (some ⟨s.L, 0, none⟩), .int .i64 r] w (UnP Z w s.L (undS s r)) := by
  obtain ⟨w0, hw0⟩ : ∃ w0, w0 = w.alloc (.cells #[.pointer (some ⟨s.L, 0, none⟩)] 34) := ⟨_, rfl⟩
  have hx : Below w.heap.size w w0 := by rw [hw0]; exact bal (Below.refl _ _) _
  have hsz : w0.heap.size = w.heap.size + 1 := by rw [hw0]; simp
  have B0 := h.below hx
  have x0 : w0.cell? ⟨w.heap.size, 0, none⟩ = some (.pointer (some ⟨s.L, 0, none⟩)) := by rw [hw0]; exact new_c ..
  have c1 := B0.c1
  have c2 := B0.c2
  have c4 := B0.c4
  have f1 := B0.fz 1
  have f2 := B0.fz 2
  have f4 := B0.fz 4
  have lL := B0.lL
  have lL0 := h.lL
  have HMO := Lib.hid (And.intro h.mp.lt (fun a e => (h.oL a e).2))
  have HX := Lib.hid hx
  -- the sequence as the stores leave it
  have B3 := Lib.hid ((((B0.set1 2).set4 r).set2 (.slice none 0 0)))
  have X3 : Hid ((((w0.setCell ⟨s.L, 1, none⟩ (.int .i64 2)).setCell ⟨s.L, 4, none⟩ (.int .i64 r)).setCell ⟨s.L, 2, none⟩ (.slice none 0 0)).cell? ⟨w.heap.size, 0, none⟩ = some (.pointer (some ⟨s.L, 0, none⟩))) :=
    set_other_cell (set_other_cell (set_other_cell x0 (by omega)) (by omega)) (by omega)
  have C3 : Hid (Chg (fun b => b = s.L ∨ w.heap.size ≤ b) w (((w0.setCell ⟨s.L, 1, none⟩ (.int .i64 2)).setCell ⟨s.L, 4, none⟩ (.int .i64 r)).setCell ⟨s.L, 2, none⟩ (.slice none 0 0))) :=
    (Chg.of_below hx _).trans ((((Chg.set w0 s.L 1 (.int .i64 2)).trans (Chg.set _ s.L 4 (.int .i64 r))).trans (Chg.set _ s.L 2 (.slice none 0 0))).mono (fun b _ e => .inl e))
  have Z3 : Hid ((((w0.setCell ⟨s.L, 1, none⟩ (.int .i64 2)).setCell ⟨s.L, 4, none⟩ (.int .i64 r)).setCell ⟨s.L, 2, none⟩ (.slice none 0 0)).heap.size = w.heap.size + 1) := by
    show _ = _
    simp [hsz]
  clear hx B0 h
  go_enter Try.func36, Try.ntmps36
  go_upto_region 1 with fail
  rw [← hw0]
  clear hw0
  go_upto_region 5 with fail
  generalize (((w0.setCell ⟨s.L, 1, none⟩ (.int .i64 2)).setCell ⟨s.L, 4, none⟩ (.int .i64 r)).setCell ⟨s.L, 2, none⟩ (.slice none 0 0)) = w3 at *
  clear x0 c1 c2 c4 f1 f2 f4 lL hsz HX
  have hM0 : s.M < w.heap.size := HMO.out.1
  have P0 : Hid (Pl w3 { s with st := 2, r := r, p := bck s.n s.o 0 } (w.heap.size + 1) (.slice none 0 0)) :=
    ⟨B3.out.other rfl rfl rfl rfl rfl rfl rfl rfl rfl rfl, ⟨rfl, .inl ⟨rfl, rfl⟩⟩, by show s.L < _; omega, by show s.M < _; omega, fun a e => by have := HMO.out.2 a e; omega, by rw [Z3.out]; exact Nat.le_refl _⟩
  go_loopw [4] (fun vi wr => ∃ (k : Nat) (v' : Value), vi = .int .i64 (5 + (k : Int)) ∧ k ≤ 4 ∧ Pl wr { s with st := 2, r := r, p := bck s.n s.o k } (w.heap.size + 1) v' ∧ Chg (fun b => b = s.L ∨ w.heap.size + 1 ≤ b) w3 wr) (fun vi _ => 9 - (intOf vi).toNat)
  case atStart => exact ⟨0, .slice none 0 0, by simp, by omega, P0.out, Chg.refl _ _⟩
  case round =>
    clear P0
    obtain ⟨k, v', rfl, hk, hP, hC⟩ := hrel
    have xr := (blk_cell (hC.block w.heap.size (by rw [Z3.out]; omega) (by omega)) 0).trans X3.out
    have lr : w.heap.size < wr.heap.size := by have := hC.size; rw [Z3.out] at this; omega
    by_cases hlt : k < 4
    · have hq : (5 + (k : Int)) ≤ 8 := by omega
      have PL := plan_any hP (5 + (k : Int)) ((5 + (k : Int)) == 8) hd.1 (by show (bck s.n s.o k).length ≤ 1000; rw [bck_len]; have := hd.1; rcases (by omega : k = 0 ∨ k = 1 ∨ k = 2 ∨ k = 3) with h | h | h | h <;> subst h <;> omega)
      have HC3 := Lib.hid hC
      have BS := Lib.hid (bck_succ s.n s.o k)
      clear hP hC
      go_wp2_with fail
      refine PL.mono ?_
      clear PL
      rintro e w4 ⟨rfl, v4, hP4, hC4⟩
      have P4 : Hid (Pl w4 { s with st := 2, r := r, p := bck s.n s.o (k + 1) } (w.heap.size + 1) v4) := by
        rw [BS.out]; exact hP4
      have C4 := Lib.hid (HC3.out.trans hC4)
      clear hP4 hC4 BS
      go_wp2
      go_roundw
      case rel => exact ⟨k + 1, v4, by go_num, by omega, P4.out, C4.out⟩
      case measure => simp [intOf]; omega
    · obtain rfl : k = 4 := by omega
      obtain ⟨w4, hw4⟩ : ∃ w4, w4 = wr := ⟨_, rfl⟩
      rw [← hw4] at hP hC xr lr
      have c2 := hP.b.c2
      have l2 : s.L < w4.heap.size := hP.b.lL
      have c2 : w4.cell? ⟨s.L, 2, none⟩ = some v' := c2
      have DG := dg_any (w := w4.drew) (X := w.heap.size) (L := s.L) (M := s.M) (n := s.nS) (BB := w.heap.size + 1) (S := s.S) ⟨xr, hP.b.c3, lr, l2, hP.b.mp.chg (Chg.refl (fun _ => False) w4).drew (fun x => x)⟩ (by omega) (by omega) (by omega) (Nat.le_of_lt_succ (by have := hP.BW; show w.heap.size + 1 < w4.heap.size + 1; omega)) (v := v') (p := bck s.n s.o 4) (own_chg hP.own (Chg.refl (fun _ => False) w4).drew (fun _ _ x => x)) (by rw [bck_len]; have := hd.1; omega) (bck_ok hd 4 (Nat.le_refl _))
      have PB5 : Hid (∀ w5, Chg (fun b => w.heap.size + 1 ≤ b) w4.drew w5 → Sb w5 { s with st := 2, r := r, p := bck s.n s.o 4 } v') := fun w5 h5 =>
        (hP.b.chg (Chg.refl (fun _ => False) w4).drew (fun x => x) (fun x => x) (fun _ _ x => x)).chg h5 (by show ¬ _ ≤ s.L; omega) (by show ¬ _ ≤ s.M; omega) (fun a e => by have := HMO.out.2 a e; omega)
      have C4 : Hid (Chg (fun b => b = s.L ∨ w.heap.size ≤ b) w w4.drew) := (C3.out.trans (hC.mono (fun b _ e => by rcases e with e | e; exact .inl e; exact .inr (by omega)))).drew
      clear hP hC
      go_upto_region 8 with fail
      rw [← hw4]
      clear hw4
      refine wp_region_noPanic ?_
      refine wp_region_held_drew (S := fun W => W.cell? ⟨w.heap.size, 0, none⟩ = some (.pointer (some ⟨s.L, 0, none⟩))) (by kernel_rfl) ((xr : w4.drew.cell? ⟨w.heap.size, 0, none⟩ = some (.pointer (some ⟨s.L, 0, none⟩)))) (fun hHeld => ?_)
      refine wpAnyH_take (i := 0) (v := ?v0) (by simp only [List.getElem?_toArray, List.getElem?_cons_zero]; rfl) (by kernel_rfl) (by kernel_rfl) (by kernel_rfl) (fun _ _ _ h => h) (Or.inl ⟨by rfl, ?y0⟩) hHeld ?_
      case y0 => (intro w hSw; go_simp <;> with_reducible rfl)
      simp only [Act.put, List.setIfInBounds_toArray, List.set_cons_zero, List.set_cons_succ]
      refine wpAnyH_take (i := 1) (v := ?v1) (by simp only [List.getElem?_toArray, List.getElem?_cons_succ, List.getElem?_cons_zero]; rfl) (by kernel_rfl) (by kernel_rfl) (by kernel_rfl) (fun _ _ _ h => h) (Or.inl ⟨by rfl, ?y1⟩) hHeld ?_
      case y1 => (intro w hSw; go_simp <;> with_reducible rfl)
      simp only [Act.put, List.setIfInBounds_toArray, List.set_cons_zero, List.set_cons_succ]
      refine wpAnyH_take (i := 2) (v := ?v2) (by simp only [List.getElem?_toArray, List.getElem?_cons_succ, List.getElem?_cons_zero]; rfl) (by kernel_rfl) (by kernel_rfl) (by kernel_rfl) (fun _ _ _ h => h) (Or.inl ⟨by rfl, ?y2⟩) hHeld ?_
      case y2 => (intro w hSw; go_simp <;> with_reducible rfl)
      simp only [Act.put, List.setIfInBounds_toArray, List.set_cons_zero, List.set_cons_succ]
      refine wpAnyH_take (i := 3) (v := ?v3) (by simp only [List.getElem?_toArray, List.getElem?_cons_succ, List.getElem?_cons_zero]; rfl) (by kernel_rfl) (by kernel_rfl) (by kernel_rfl) (fun _ _ _ h => h) (Or.inl ⟨by rfl, ?y3⟩) hHeld ?_
      case y3 => (intro w hSw; go_simp <;> with_reducible rfl)
      simp only [Act.put, List.setIfInBounds_toArray, List.set_cons_zero, List.set_cons_succ]
      refine wpAnyH_take (i := 5) (v := ?v5) (by simp only [List.getElem?_toArray, List.getElem?_cons_succ, List.getElem?_cons_zero]; rfl) (by kernel_rfl) (by kernel_rfl) (by kernel_rfl) (fun _ _ _ h => h) (Or.inl ⟨by rfl, ?y5⟩) hHeld ?_
      case y5 => (intro w hSw; go_simp <;> with_reducible rfl)
      simp only [Act.put, List.setIfInBounds_toArray, List.set_cons_zero, List.set_cons_succ]
      refine wpAnyH_ready (rs := [4]) (by kernel_rfl) (by simp) ?_
      refine AllReadyH.cons (by simp only [List.getElem?_toArray, List.getElem?_cons_succ, List.getElem?_cons_zero]; rfl) (fun K hK => ?_) ?_
      rotate_left
      · exact AllReadyH.nil
      go_simp
      go_wp2_with fail
      refine hK.out _ _ ?_ (fun hHeld => ?_)
      · exact xr
      clear hK K
      refine wpAnyH_ready (rs := [6]) (by kernel_rfl) (by simp) ?_
      refine AllReadyH.cons (by simp only [List.getElem?_toArray, List.getElem?_cons_succ, List.getElem?_cons_zero]; rfl) (fun K hK => ?_) ?_
      rotate_left
      · exact AllReadyH.nil
      go_simp
      go_at_call 39
      refine DG.mono ?_
      clear DG
      rintro e w5 ⟨A, c, rfl, h5⟩
      have H5 := Lib.hid h5
      have x5 : w5.cell? ⟨w.heap.size, 0, none⟩ = some (.pointer (some ⟨s.L, 0, none⟩)) := (blk_cell (h5.2.2.2.2.block w.heap.size (by show w.heap.size < w4.heap.size; omega) (by omega)) 0).trans xr
      have P5 := PB5.out w5 h5.2.2.2.2
      clear h5
      go_wp2_with fail
      refine hK.out _ _ ?_ (fun hHeld => ?_)
      · exact x5
      clear hK K
      have z2 := P5.c2
      have zf := P5.fz 2
      have zl := P5.lL
      refine wpAnyH_take (i := 7) (v := ?v7) (by simp only [List.getElem?_toArray, List.getElem?_cons_succ, List.getElem?_cons_zero]; rfl) (by kernel_rfl) (by kernel_rfl) (by kernel_rfl) (fun _ _ _ h => h) (Or.inl ⟨by rfl, ?y7⟩) hHeld ?_
      case y7 => (intro w hSw; go_simp <;> with_reducible rfl)
      simp only [Act.put, List.setIfInBounds_toArray, List.set_cons_zero, List.set_cons_succ]
      refine wpAnyH_take (i := 8) (v := ?v8) (by simp only [List.getElem?_toArray, List.getElem?_cons_succ, List.getElem?_cons_zero]; rfl) (by kernel_rfl) (by kernel_rfl) (by kernel_rfl) (fun _ _ _ h => h) (Or.inl ⟨by rfl, ?y8⟩) hHeld ?_
      case y8 => (intro w hSw; go_simp <;> with_reducible rfl)
      simp only [Act.put, List.setIfInBounds_toArray, List.set_cons_zero, List.set_cons_succ]
      refine wpAnyH_ready (rs := [9]) (by kernel_rfl) (by simp) ?_
      refine AllReadyH.cons (by simp only [List.getElem?_toArray, List.getElem?_cons_succ, List.getElem?_cons_zero]; rfl) (fun K hK => ?_) ?_
      rotate_left
      · exact AllReadyH.nil
      go_simp
      go_wp2_with fail
      refine hK.out _ _ ?_ (fun hHeld => ?_)
      · exact (set_other_cell x5 (by omega))
      clear hK K
      refine wpAnyH_done (by kernel_rfl) ?_ _
      refine NoPanic.normal ?_
      obtain ⟨hF, hcc, hcm, hab, hch⟩ := H5.out
      have B6 := P5.set2 (.slice A (kp s.S (bck s.n s.o 4)).length c)
      have C6 : Hid (Chg (fun b => b = s.L ∨ w.heap.size ≤ b) w (w5.setCell ⟨s.L, 2, none⟩ (.slice A (kp s.S (bck s.n s.o 4)).length c))) := (C4.out.trans (hch.mono (fun b _ e => .inr (by omega)))).trans ((Chg.set w5 s.L 2 _).mono (fun b _ e => .inl e))
      have F6 := Lib.hid (hF.chg (Chg.set w5 s.L 2 (.slice A (kp s.S (bck s.n s.o 4)).length c)) (fun a e _ => by have := (hab a e).1; show ¬ a.block = s.L; omega))
      have ST := stl_any (s := { s with st := 2, r := r, p := bck s.n s.o 4 }) B6
      have x6 := set_other_cell (b' := s.L) (j := 2) (v := .slice A (kp s.S (bck s.n s.o 4)).length c) x5 (by omega)
      have lx : w.heap.size < w5.heap.size := by have h1 := hch.size; have h2 : w4.drew.heap.size = w4.heap.size := rfl; omega
      have A6 : Hid (∀ a, A = some a → w.heap.size + 1 ≤ a.block ∧ a.block < w5.heap.size) := fun a e => ⟨(hab a e).1, Nat.lt_of_lt_of_le (hab a e).2 hch.size⟩
      clear hF hch hab B6 P5 H5 z2 zf zl x5 hHeld
      generalize hK : (kp s.S (bck s.n s.o 4)).length = m at *
      have HK := Lib.hid hK
      clear hK
      go_wp2_with fail
      refine ST.mono ?_
      clear ST
      rintro e w7 ⟨rfl, hS, hC⟩
      have FIN : Hid (UnP Z w s.L (undS s r) (.returned (.tuple #[])) w7) := by
        have eK : m = (undS s r).p.length := HK.out.symm
        have hsz6 := hC.size
        simp at hsz6
        have hsw := (C6.out.trans (hC.mono (fun b _ e => .inl e))).size
        refine ⟨rfl, ⟨⟨A, c, ?_, ?_, ?_, hcm, fun a e => ?_⟩, fun b hb => by have := hZ b hb; omega⟩, C6.out.trans (hC.mono (fun b _ e => .inl e))⟩
        · rw [← eK]
          refine hS.other rfl rfl rfl rfl rfl rfl ?_ rfl rfl rfl
          show stl 2 (bk s).length = stl 2 m
          rw [eK]
          rfl
        · rw [← eK]
          exact F6.out.chg hC (fun a e _ => by have := (A6.out a e).1; show ¬ a.block = s.L; omega)
        · rw [← eK]; exact hcc
        · have h1 := A6.out a e
          have h2 := hC.size
          simp at h2
          exact ⟨⟨by show a.block ≠ s.L; omega, by show a.block ≠ s.M; omega, fun hz => by have := hZ _ hz; omega⟩, by omega⟩
      clear hS hC
      go_wp2
      refine bodyPost_ret (results_none rfl _ _ _) rfl ?_
      exact FIN.out
end Go.Proofs.Ytcmklipifhpgmaa
