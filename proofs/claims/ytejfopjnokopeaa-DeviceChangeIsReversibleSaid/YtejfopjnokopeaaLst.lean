/- Lists of numbers: comparison, order, membership. -/
import Derived.Test.YtejfopjnokopeaaBas
namespace Go.Proofs.Ytejfopjnokopeaa
open Go.ChangeShapes Go.WideShapes Go.ChangeAt Go.RowKit Go.Deep Go.Joins

/-- A list of numbers in cells. -/
structure Il (w : World) (A : Option Addr) (l : List Int) : Prop where
  len : l.length ≤ 9223372036854775807
  row : l = [] ∨ ∃ b off, A = some ⟨b, off, none⟩ ∧ b < w.heap.size ∧ ∀ i, i < l.length → w.cell? ⟨b, off + i, none⟩ = some (.int .i64 (l.getD i 0))
theorem Il.below {w w' : World} {A : Option Addr} {l : List Int} (h : Il w A l) (hb : Below w.heap.size w w') : Il w' A l := by
  refine ⟨h.len, ?_⟩
  rcases h.row with h0 | ⟨b, off, hA, hlt, hc⟩
  · exact .inl h0
  · exact .inr ⟨b, off, hA, Nat.lt_of_lt_of_le hlt hb.size, fun i hi => (hb.cell (by exact hlt)).trans (hc i hi)⟩
def BPost (w : World) (b : Bool) (e : Ending) (w' : World) : Prop := e = .returned (.bool b) ∧ Below w.heap.size w w'
def eqTo (l m : List Int) (k : Nat) : Prop := ∀ i, i < k → l.getD i 0 = m.getD i 0
theorem eq_of_to {l m : List Int} (h : l.length = m.length) : eqTo l m l.length → l = m := by
  intro H
  apply List.ext_getElem h
  intro i h1 h2
  have := H i h1
  simpa [List.getD_eq_getElem?_getD, List.getElem?_eq_getElem h1, List.getElem?_eq_getElem h2] using this
set_option maxRecDepth 100000 in
set_option maxHeartbeats 2000000 in
theorem eql_any (A B : Option Addr) (c d : Nat) (l m : List Int) (w : World) (hl : Il w A l) (hm : Il w B m) : Calls Try.prog 23 #[.slice A l.length c, .slice B m.length d] w (BPost w (decide (l = m))) := by
  have ln := hl.1
  have mn := hm.1
  have HL := Lib.hid hl
  have HM := Lib.hid hm
  clear hl hm
  by_cases hn : l.length = m.length
  · have HN := Lib.hid hn
    have EQ : Hid (eqTo l m l.length → l = m) := eq_of_to hn
    generalize hb : decide (l = m) = bb
    have HBB := Lib.hid hb
    have hnl : m.length = l.length := hn.symm
    rw [hnl]
    generalize hk : l.length = n at *
    have HK := Lib.hid hk
    clear hk hn hb hnl mn
    go_enter Try.func23, Try.ntmps23
    go_wp2_with fail
    go_loopw [5] (fun i wr => ∃ k : Nat, k ≤ n ∧ i = .int .i64 k ∧ Below w.heap.size w wr ∧ Hid (eqTo l m k)) (fun i _ => n - (intOf i).toNat)
    case atStart => exact ⟨0, Nat.zero_le _, rfl, Below.refl _ _, fun i hi => by omega⟩
    case round =>
      obtain ⟨k, hk, rfl, hB, HT⟩ := hrel
      by_cases hlt : k < n
      · rcases HL.out.row with h0 | ⟨b1, o1, rfl, l1, c1⟩
        · have := HK.out; rw [h0] at this; simp at this; omega
        rcases HM.out.row with h0 | ⟨b2, o2, rfl, l2, c2⟩
        · have := HN.out; have := HK.out; rw [h0] at *; simp at *; omega
        have e1 := (hB.cell (p := ⟨b1, o1 + k, none⟩) l1).trans (c1 k (by have := HK.out; omega))
        have e2 := (hB.cell (p := ⟨b2, o2 + k, none⟩) l2).trans (c2 k (by have := HK.out; have := HN.out; omega))
        have NX : Hid (l.getD k 0 = m.getD k 0 → eqTo l m (k + 1)) := fun e i hi => by
          rcases Nat.lt_or_ge i k with h | h
          · exact HT.out i h
          · have : i = k := by omega
            subst this; exact e
        have NO : Hid (l.getD k 0 ≠ m.getD k 0 → bb = false) := fun e => by
          rw [← HBB.out]
          exact decide_eq_false (fun h => e (by rw [h]))
        clear c1 c2
        generalize l.getD k 0 = x at *
        generalize m.getD k 0 = y at *
        have HB := Lib.hid hB
        clear hB
        by_cases hxy : x = y
        · have KEEP := Lib.hid (NX.out hxy)
          have hne : (x == y) = true := by simp [hxy]
          have hne2 : (x != y) = false := by simp [hxy]
          clear NX NO hxy
          go_wp2_with fail
          go_quiet (fail)
          go_wp2
          go_roundw
          case rel => exact ⟨k + 1, by omega, by go_num, below_drewN HB.out _, KEEP⟩
          case measure => simp [intOf]; omega
        · have F := Lib.hid (NO.out hxy)
          have hne : (x == y) = false := by simp [hxy]
          have hne2 : (x != y) = true := by simp [hxy]
          clear NX NO hxy
          go_wp2_with fail
          go_quiet (fail)
          go_wp2
          go_ret
          exact ⟨by rw [F.out]; rfl, below_drewN HB.out _⟩
      · have hkn : k = n := by omega
        have F : Hid (bb = true) := by
          show bb = true
          rw [← HBB.out]
          exact decide_eq_true (EQ.out (by rw [hkn] at HT; have := HT.out; exact this))
        have HB := Lib.hid hB
        clear hB hkn
        go_wp2
        go_ret
        exact ⟨by rw [F.out]; rfl, HB.out⟩
  · have F : Hid (decide (l = m) = false) := decide_eq_false (fun h => hn (by rw [h]))
    have hne : ((l.length : Int) != (m.length : Int)) = true := by simp; omega
    clear HL HM
    generalize l.length = x at *
    generalize m.length = y at *
    go_enter Try.func23, Try.ntmps23
    go_wp2
    go_ret
    exact ⟨by rw [F.out]; rfl, Below.refl _ _⟩
theorem Il.at {w : World} {A : Option Addr} {l : List Int} (h : Il w A l) {i : Nat} (hi : i < l.length) : ∃ b off, A = some ⟨b, off, none⟩ ∧ b < w.heap.size ∧ w.cell? ⟨b, off + i, none⟩ = some (.int .i64 (l.getD i 0)) := by
  rcases h.row with h0 | ⟨b, off, hA, hlt, hc⟩
  · rw [h0] at hi; simp at hi
  · exact ⟨b, off, hA, hlt, hc i hi⟩
def isS (s : Int) : Bool := decide (0 ≤ s) && decide (s ≤ 4)
theorem iss_any (s : Int) (w : World) : Calls Try.prog 42 #[.int .i64 s] w fun e w' => e = .returned (.bool (isS s)) ∧ w = w' := by
  by_cases h : 0 ≤ s
  · have E : Hid (isS s = decide (s ≤ 4)) := by show _ = _; unfold isS; rw [decide_eq_true h]; rfl
    generalize isS s = b at *
    go_enter Try.func42, Try.ntmps42
    go_wp2
    go_ret
    exact ⟨by rw [E.out]; rfl, rfl⟩
  · have E : Hid (isS s = false) := by show _ = _; unfold isS; rw [decide_eq_false h]; rfl
    generalize isS s = b at *
    go_enter Try.func42, Try.ntmps42
    go_wp2
    go_ret
    exact ⟨by rw [E.out]; rfl, rfl⟩
/-- Whether the first k neighbours ascend. -/
def ascB (l : List Int) : Nat → Bool
  | 0 => true
  | k + 1 => ascB l k && decide (l.getD k 0 < l.getD (k + 1) 0)
theorem ascB_no {l : List Int} {k n : Nat} (hk : k < n) (h : ¬ l.getD k 0 < l.getD (k + 1) 0) : ascB l n = false := by
  induction n with
  | zero => omega
  | succ n ih =>
    show (ascB l n && _) = false
    rcases Nat.lt_or_ge k n with h1 | h1
    · rw [ih h1]; rfl
    · have : k = n := by omega
      subst this
      rw [decide_eq_false h, Bool.and_false]
def ascL (l : List Int) : Bool := ascB l (l.length - 1)
set_option maxRecDepth 20000 in
set_option maxHeartbeats 4000000 in
theorem asc_any (A : Option Addr) (c : Nat) (l : List Int) (w : World) (h : Il w A l) : Calls Try.prog 43 #[.slice A l.length c] w (BPost w (ascL l)) := by
  have H := Lib.hid h
  have hl := h.len
  have NO : Hid (∀ k, k + 1 < l.length → ¬ l.getD k 0 < l.getD (k + 1) 0 → ascL l = false) := fun k hk h => ascB_no (by omega) h
  have YES : Hid (∀ k, k + 1 = l.length → ascB l k = true → ascL l = true) := fun k hk h => by unfold ascL; rw [← hk]; exact h
  have EMP : Hid (l.length = 0 → ascL l = true) := fun h => by unfold ascL; rw [h]; rfl
  have ST : Hid (∀ k, ascB l k = true → l.getD k 0 < l.getD (k + 1) 0 → ascB l (k + 1) = true) := fun k h1 h2 => by show (ascB l k && _) = true; rw [h1, decide_eq_true h2]; rfl
  generalize ascL l = R at *
  clear h
  go_enter Try.func43, Try.ntmps43
  go_wp2_with fail
  go_loopw [3] (fun vi wr => ∃ k : Nat, vi = .int .i64 ((k : Int) + 1) ∧ (k + 1 ≤ l.length ∨ k = 0) ∧ Below w.heap.size w wr ∧ Hid (ascB l k = true)) (fun i _ => l.length + 1 - (intOf i).toNat)
  case atStart => exact ⟨0, rfl, .inr rfl, Below.refl _ _, rfl⟩
  case round =>
    obtain ⟨k, rfl, hk, hB, HT⟩ := hrel
    have HB := Lib.hid hB
    by_cases hlt : k + 1 < l.length
    · obtain ⟨b, off, rfl, hb, c0⟩ := H.out.at (i := k) (by omega)
      obtain ⟨b2, off2, e, -, c1⟩ := H.out.at (i := k + 1) hlt
      injection e with e
      injection e with e1 e2
      subst e1 e2
      have NOk := Lib.hid (NO.out k hlt)
      have STk := Lib.hid (ST.out k HT.out)
      have d0 := (hB.cell (p := ⟨b, off + k, none⟩) (by exact hb)).trans c0
      have d1 := (hB.cell (p := ⟨b, off + (k + 1), none⟩) (by exact hb)).trans c1
      have hbr : b < wr.heap.size := by have := hB.size; omega
      have hkl : (k : Int) + 1 < (l.length : Int) := by omega
      generalize l.getD k 0 = x at *
      generalize l.getD (k + 1) 0 = y at *
      generalize l.length = n at *
      clear c0 c1 hB hk hlt
      by_cases hxy : x < y
      · have K := Lib.hid (STk.out hxy)
        have q : ¬ y ≤ x := by omega
        clear NOk STk
        go_wp2_with fail
        have j1 : (0 : Int) ≤ (k : Int) + 1 := by omega
        have j2 : ((k : Int) + 1).toNat = k + 1 := by omega
        have j3 : IntKind.i64.wrap ((k : Int) + 1 - 1) = k := by rw [show (k : Int) + 1 - 1 = k by omega]; exact IntWalk.i64_in _ (by omega)
        go_quiet (fail)
        clear j1 j2 j3
        go_wp2_with fail
        go_roundw
        case rel => exact ⟨k + 1, by go_num, .inl (by omega), below_drewN HB.out _, K⟩
        case measure => simp [intOf]; omega
      · have F := Lib.hid (NOk.out (by omega))
        have q : y ≤ x := by omega
        clear NOk STk
        go_wp2_with fail
        have j1 : (0 : Int) ≤ (k : Int) + 1 := by omega
        have j2 : ((k : Int) + 1).toNat = k + 1 := by omega
        have j3 : IntKind.i64.wrap ((k : Int) + 1 - 1) = k := by rw [show (k : Int) + 1 - 1 = k by omega]; exact IntWalk.i64_in _ (by omega)
        go_quiet (fail)
        clear j1 j2 j3
        go_wp2
        go_ret
        exact ⟨by rw [F.out]; rfl, below_drewN HB.out _⟩
    · have F : Hid (R = true) := by
        rcases hk with hk | hk
        · exact YES.out k (by omega) HT.out
        · rcases Nat.eq_zero_or_pos l.length with h0 | h0
          · exact EMP.out h0
          · exact YES.out k (by omega) HT.out
      have hkl : ¬ (k : Int) + 1 < (l.length : Int) := by omega
      clear hB hk hlt
      go_wp2
      go_ret
      exact ⟨by rw [F.out]; rfl, HB.out⟩
end Go.Proofs.Ytejfopjnokopeaa
