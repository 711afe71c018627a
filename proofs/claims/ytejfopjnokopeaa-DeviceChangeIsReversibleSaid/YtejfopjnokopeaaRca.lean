/- The reference's functions on lists. -/
import Derived.Test.YtejfopjnokopeaaCgy
namespace Go.Proofs.Ytejfopjnokopeaa
open Go.ChangeShapes Go.WideShapes Go.ChangeAt Go.RowKit Go.Deep Go.Joins

set_option maxRecDepth 20000 in
set_option maxHeartbeats 4000000 in
theorem rasc_any (A : Option Addr) (c : Nat) (l : List Int) (w : World) (h : Il w A l) : Calls Try.prog 48 #[.slice A l.length c] w (BPost w (ascL l)) := by
  have H := Lib.hid h
  have hl := h.len
  have NO : Hid (∀ k, k + 1 < l.length → ¬ l.getD k 0 < l.getD (k + 1) 0 → ascL l = false) := fun k hk h => ascB_no (by omega) h
  have YES : Hid (∀ k, k + 1 = l.length → ascB l k = true → ascL l = true) := fun k hk h => by unfold ascL; rw [← hk]; exact h
  have EMP : Hid (l.length = 0 → ascL l = true) := fun h => by unfold ascL; rw [h]; rfl
  have ST : Hid (∀ k, ascB l k = true → l.getD k 0 < l.getD (k + 1) 0 → ascB l (k + 1) = true) := fun k h1 h2 => by show (ascB l k && _) = true; rw [h1, decide_eq_true h2]; rfl
  generalize ascL l = R at *
  clear h
  go_enter Try.func48, Try.ntmps48
  go_wp2_with fail
  go_loopw [3] (fun vi wr => ∃ k : Nat, vi = .int .i64 ((k : Int) + 1) ∧ (k + 1 ≤ l.length ∨ k = 0) ∧ Below w.heap.size w wr ∧ Hid (ascB l k = true)) (fun i _ => l.length + 1 - (intOf i).toNat)
  case atStart => exact ⟨0, rfl, .inr rfl, Below.refl _ _, rfl⟩
  case round =>
    obtain ⟨k, rfl, hk, hB, HT⟩ := hrel
    have HB := Lib.hid hB
    by_cases hlt : k + 1 < l.length
    · obtain ⟨b, off, rfl, hb, c0⟩ := H.out.at (i := k) (by omega)
      obtain ⟨b2, off2, e, -, c1⟩ := H.out.at (i := k + 1) hlt
      injection e with e
      injection e with e1 e2
      subst e1 e2
      have NOk := Lib.hid (NO.out k hlt)
      have STk := Lib.hid (ST.out k HT.out)
      have d0 := (hB.cell (p := ⟨b, off + k, none⟩) (by exact hb)).trans c0
      have d1 := (hB.cell (p := ⟨b, off + (k + 1), none⟩) (by exact hb)).trans c1
      have hbr : b < wr.heap.size := by have := hB.size; omega
      have hkl : (k : Int) + 1 < (l.length : Int) := by omega
      generalize l.getD k 0 = x at *
      generalize l.getD (k + 1) 0 = y at *
      generalize l.length = n at *
      clear c0 c1 hB hk hlt
      by_cases hxy : x < y
      · have K := Lib.hid (STk.out hxy)
        have q : ¬ y ≤ x := by omega
        clear NOk STk
        go_wp2_with fail
        have j1 : (0 : Int) ≤ (k : Int) + 1 := by omega
        have j2 : ((k : Int) + 1).toNat = k + 1 := by omega
        have j3 : IntKind.i64.wrap ((k : Int) + 1 - 1) = k := by rw [show (k : Int) + 1 - 1 = k by omega]; exact IntWalk.i64_in _ (by omega)
        go_quiet (fail)
        clear j1 j2 j3
        go_wp2_with fail
        go_roundw
        case rel => exact ⟨k + 1, by go_num, .inl (by omega), below_drewN HB.out _, K⟩
        case measure => simp [intOf]; omega
      · have F := Lib.hid (NOk.out (by omega))
        have q : y ≤ x := by omega
        clear NOk STk
        go_wp2_with fail
        have j1 : (0 : Int) ≤ (k : Int) + 1 := by omega
        have j2 : ((k : Int) + 1).toNat = k + 1 := by omega
        have j3 : IntKind.i64.wrap ((k : Int) + 1 - 1) = k := by rw [show (k : Int) + 1 - 1 = k by omega]; exact IntWalk.i64_in _ (by omega)
        go_quiet (fail)
        clear j1 j2 j3
        go_wp2
        go_ret
        exact ⟨by rw [F.out]; rfl, below_drewN HB.out _⟩
    · have F : Hid (R = true) := by
        rcases hk with hk | hk
        · exact YES.out k (by omega) HT.out
        · rcases Nat.eq_zero_or_pos l.length with h0 | h0
          · exact EMP.out h0
          · exact YES.out k (by omega) HT.out
      have hkl : ¬ (k : Int) + 1 < (l.length : Int) := by omega
      clear hB hk hlt
      go_wp2
      go_ret
      exact ⟨by rw [F.out]; rfl, HB.out⟩
set_option maxRecDepth 20000 in
set_option maxHeartbeats 4000000 in
theorem rned_in (d : PD) (k : Nat) (w : World) (h : k < 4) : Calls Try.prog 47 #[.agg d.cells, .int .i64 k] w fun e w' => e = .returned (.slice (d.A k) (d.n k) (d.c k)) ∧ Below w.heap.size w w' := by
  have b1 : Below w.heap.size w (w.alloc (.cells d.cells 33)) := bal (Below.refl _ _) _
  have z : ∀ j, (w.alloc (.cells d.cells 33)).cell? ⟨w.heap.size, j, none⟩ = d.cells[j]? := fun j => new_c w _ 33 j
  have hZ : w.heap.size < (w.alloc (.cells d.cells 33)).heap.size := by simp
  have B1 := Lib.hid b1
  have ze : (w.alloc (.cells d.cells 33)).cell? ⟨w.heap.size, 1 + k, none⟩ = some (.slice (d.A k) (d.n k) (d.c k)) := by
    rw [z]
    rcases (show k = 0 ∨ k = 1 ∨ k = 2 ∨ k = 3 by omega) with rfl | rfl | rfl | rfl <;> rfl
  clear z b1
  generalize d.A k = Ak at *
  generalize d.n k = nk at *
  generalize d.c k = ck at *
  have k4 : ((k : Int) == 4) = false := by simp; omega
  have kl : (k : Int) < 4 := by omega
  go_enter Try.func47, Try.ntmps47
  go_upto_region 1 with fail
  generalize w.alloc (.cells d.cells 33) = w1 at *
  go_wp2
  go_ret
  exact ⟨rfl, B1.out⟩
theorem rned_4 (d : PD) (w : World) : Calls Try.prog 47 #[.agg d.cells, .int .i64 4] w fun e w' => e = .returned (.slice none 0 0) ∧ Below w.heap.size w w' := by
  unfold PD.cells
  go_enter Try.func47, Try.ntmps47
  go_wp2
  go_ret
  exact ⟨rfl, bal (Below.refl _ _) _⟩
set_option maxRecDepth 20000 in
set_option maxHeartbeats 4000000 in
theorem has_any (A : Option Addr) (c : Nat) (l : List Int) (x : Int) (w : World) (h : Il w A l) : Calls Try.prog 49 #[.slice A l.length c, .int .i64 x] w (BPost w (hasL l x l.length)) := by
  have H := Lib.hid h
  have hl := h.len
  have YES : Hid (∀ k, k < l.length → x = l.getD k 0 → hasL l x l.length = true) := fun k hk h => hasL_yes hk h
  have ST : Hid (∀ k, hasL l x k = false → x ≠ l.getD k 0 → hasL l x (k + 1) = false) := fun k h1 h2 => by show (hasL l x k || _) = false; rw [h1, decide_eq_false h2]; rfl
  have END : Hid (∀ k, k = l.length → hasL l x k = false → hasL l x l.length = false) := fun k hk h => by rw [← hk]; exact h
  generalize hR : hasL l x l.length = R at *
  clear h hR
  go_enter Try.func49, Try.ntmps49
  go_wp2_with fail
  go_loopw [5] (fun vi wr => ∃ k : Nat, vi = .int .i64 k ∧ k ≤ l.length ∧ Below w.heap.size w wr ∧ Hid (hasL l x k = false)) (fun i _ => l.length - (intOf i).toNat)
  case atStart => exact ⟨0, rfl, Nat.zero_le _, Below.refl _ _, rfl⟩
  case round =>
    obtain ⟨k, rfl, hk, hB, HT⟩ := hrel
    have HB := Lib.hid hB
    by_cases hlt : k < l.length
    · obtain ⟨b, off, rfl, hb, c0⟩ := H.out.at hlt
      have Yk := Lib.hid (YES.out k hlt)
      have Sk := Lib.hid (ST.out k HT.out)
      have d0 := (hB.cell (p := ⟨b, off + k, none⟩) (by exact hb)).trans c0
      have hbr : b < wr.heap.size := by have := hB.size; omega
      have hkl : (k : Int) < (l.length : Int) := by omega
      generalize l.getD k 0 = y at *
      clear c0 hB
      by_cases hxy : x = y
      · have K := Lib.hid (Yk.out hxy)
        have q : (y == x) = true := by simp [hxy]
        clear Yk Sk hxy
        go_wp2
        go_ret
        exact ⟨by rw [K.out]; rfl, HB.out⟩
      · have K := Lib.hid (Sk.out hxy)
        have q : (y == x) = false := beq_eq_false_iff_ne.2 (fun e => hxy e.symm)
        clear Yk Sk
        go_wp2_with fail
        go_roundw
        case rel => exact ⟨k + 1, by go_num, by omega, HB.out, K⟩
        case measure => simp [intOf]; omega
    · have F := Lib.hid (END.out k (by omega) HT.out)
      have hkl : ¬ (k : Int) < (l.length : Int) := by omega
      clear hB
      go_wp2
      go_ret
      exact ⟨by rw [F.out]; rfl, HB.out⟩
/-- What of the last k is not in m, from behind. -/
def rmL (l m : List Int) : Nat → List Int
  | 0 => []
  | k + 1 => if hasL m (l.getD (l.length - 1 - k) 0) m.length then rmL l m k else rmL l m k ++ [l.getD (l.length - 1 - k) 0]
theorem rmL_len (l m : List Int) (k : Nat) : (rmL l m k).length ≤ k := by
  induction k with
  | zero => exact Nat.le_refl _
  | succ k ih =>
    unfold rmL
    split
    · omega
    · rw [List.length_append]; simp; exact ih
theorem rmL_mis (l m : List Int) (k : Nat) (h : k ≤ l.length) : (misL l m l.length).reverse = rmL l m k ++ (misL l m (l.length - k)).reverse := by
  induction k with
  | zero => simp [rmL]
  | succ k ih =>
    rw [ih (by omega)]
    obtain ⟨j, hj⟩ : ∃ j, l.length - k = j + 1 := ⟨l.length - k - 1, by omega⟩
    rw [hj, show l.length - (k + 1) = j by omega]
    have e : l.length - 1 - k = j := by omega
    rw [rmL, e, misL]
    split
    · rfl
    · simp
theorem rmL_all (l m : List Int) : rmL l m l.length = (misL l m l.length).reverse := by
  rw [rmL_mis l m l.length (Nat.le_refl _)]
  simp [misL]
/-- What the reference's 'needs' gives at a state. -/
def Rned (d : PD) (s : Nat) (A : Option Addr) (l : List Int) (c : Nat) : Prop := ∀ W, Calls Try.prog 47 #[.agg d.cells, .int .i64 s] W fun e w' => e = .returned (.slice A l.length c) ∧ Below W.heap.size W w'
theorem rned_of {w : World} {d : PD} {l : Nat → List Int} (h : Rl w d l) (s : Nat) (hs : s ≤ 4) : ∃ A c, Rned d s A (lst l s) c ∧ Il w A (lst l s) := by
  by_cases h4 : s = 4
  · subst h4
    exact ⟨none, 0, fun W => rned_4 d W, ⟨by simp [lst], .inl rfl⟩⟩
  · have e : lst l s = l s := by unfold lst; rw [if_neg (by omega)]; rfl
    rw [e]
    refine ⟨d.A s, d.c s, fun W => ?_, h.il s (by omega)⟩
    rw [← h.ln s (by omega)]
    exact rned_in d s W (by omega)
end Go.Proofs.Ytejfopjnokopeaa
