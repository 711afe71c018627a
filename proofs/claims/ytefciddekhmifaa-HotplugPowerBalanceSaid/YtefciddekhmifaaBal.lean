/- The walk of HotplugPowerBalance. -/
import Derived.Test.YtefciddekhmifaaAwk
namespace Go.Proofs.Ytefciddekhmifaa
open Go.RowKit

/-- What an action does to (power on, functions known). -/
def bstep (s : Bool × Bool) (x : Int) : Option (Bool × Bool) :=
  if x = 1 then (if s.1 then none else some (true, s.2))
  else if x = 2 then (if s.1 && !s.2 then some (false, s.2) else none)
  else if x = 3 then (if s.1 && !s.2 then some (s.1, true) else none)
  else if x = 5 then (if s.2 then some (s.1, false) else none)
  else if x = 4 then (if s.2 then some s else none)
  else none
def brun (s : Bool × Bool) : List Int → Option (Bool × Bool)
  | [] => some s
  | x :: l => (bstep s x).bind fun s' => brun s' l
def onOf (st : Nat) : Bool := st == 3 || st == 4 || st == 5
def knOf (st : Nat) : Bool := st == 4 || st == 5
theorem bal_h {st : Nat} (h : okSt st) (ev : Int) : brun (onOf st, knOf st) (hA st ev) = some (onOf (hS st ev), knOf (hS st ev)) := by
  by_cases he : ev < 1 ∨ 6 < ev
  · obtain ⟨e1, e2⟩ := nxt_o (st := st) he
    unfold hA hS
    rw [if_pos e1, if_pos e1]; rfl
  · have he' : ev = 1 ∨ ev = 2 ∨ ev = 3 ∨ ev = 4 ∨ ev = 5 ∨ ev = 6 := by omega
    rcases he' with rfl | rfl | rfl | rfl | rfl | rfl <;> rcases h with rfl | rfl | rfl | rfl | rfl | rfl <;> rfl
theorem bal_a {st : Nat} (gd now : Int) : brun (onOf st, knOf st) (aA st gd now) = some (onOf (aS st gd now), knOf (aS st gd now)) := by
  unfold aA aS
  split
  · rename_i h; obtain ⟨rfl, -⟩ := h; rfl
  · rfl
theorem brun_step {s f : Bool × Bool} {l : List Int} {k : Nat} (h : brun s (l.drop k) = some f) (hk : k < l.length) : ∃ s', bstep s (l.getD k 0) = some s' ∧ brun s' (l.drop (k + 1)) = some f := by
  have e : l.drop k = l.getD k 0 :: l.drop (k + 1) := by
    rw [List.drop_eq_getElem_cons hk, List.getD_eq_getElem?_getD, List.getElem?_eq_getElem hk]; rfl
  rw [e] at h
  unfold brun at h
  cases hb : bstep s (l.getD k 0) with
  | none => rw [hb] at h; cases h
  | some s' => rw [hb] at h; exact ⟨s', rfl, h⟩
theorem brun_end {s f : Bool × Bool} {l : List Int} {k : Nat} (h : brun s (l.drop k) = some f) (hk : l.length ≤ k) : s = f := by
  rw [List.drop_eq_nil_of_le hk] at h
  unfold brun at h
  injection h
theorem bstep_cases {a b a' b' : Bool} {x : Int} (h : bstep (a, b) x = some (a', b')) :
    (x = 1 ∧ a = false ∧ a' = true ∧ b' = b) ∨ (x = 2 ∧ a = true ∧ b = false ∧ a' = false ∧ b' = false) ∨ (x = 3 ∧ a = true ∧ b = false ∧ a' = true ∧ b' = true) ∨ (x = 5 ∧ b = true ∧ a' = a ∧ b' = false) ∨ (x = 4 ∧ b = true ∧ a' = a ∧ b' = true) := by
  unfold bstep at h
  by_cases h1 : x = 1
  · rw [if_pos h1] at h; left; cases a <;> simp_all
  rw [if_neg h1] at h
  by_cases h2 : x = 2
  · rw [if_pos h2] at h; right; left; cases a <;> cases b <;> simp_all
  rw [if_neg h2] at h
  by_cases h3 : x = 3
  · rw [if_pos h3] at h; right; right; left; cases a <;> cases b <;> simp_all
  rw [if_neg h3] at h
  by_cases h5 : x = 5
  · rw [if_pos h5] at h; right; right; right; left; cases a <;> cases b <;> simp_all
  rw [if_neg h5] at h
  by_cases h4 : x = 4
  · rw [if_pos h4] at h; right; right; right; right; cases a <;> cases b <;> simp_all
  · rw [if_neg h4] at h; cases h
theorem on_kn {st : Nat} (h : okSt st) : ((onOf st == (knOf st || ((st : Int) == 3))) = true) ∧ (knOf st == (((st : Int) == 4) || ((st : Int) == 5))) = true := by
  rcases h with rfl | rfl | rfl | rfl | rfl | rfl <;> exact ⟨rfl, rfl⟩
end Go.Proofs.Ytefciddekhmifaa
