/- Allocate. -/
import Derived.Test.YtbblachhijpgeaaSrc
import Derived.Deep.LoopGhost
namespace Go.Proofs.Ytbblachhijpgeaa
open Go.RowKit

/-- An actor that gets one more at level L. -/
def elg (L : Int) (s : St) : Prop := s.b ≤ L ∧ L < wantI s.a s.b s.c
instance (L : Int) (s : St) : Decidable (elg L s) := by unfold elg; exact inferInstance
/-- What is left of the rest behind k actors. -/
def frR (L : Int) (f : Nat → St) (rest : Int) : Nat → Int
  | 0 => rest
  | k + 1 => if 0 < frR L f rest k ∧ elg L (f k) then frR L f rest k - 1 else frR L f rest k
def gfil (L : Int) (f : Nat → St) (rest : Int) (i : Nat) : Int := if 0 < frR L f rest i ∧ elg L (f i) then atG L (f i) + 1 else atG L (f i)
def mixL (L : Int) (f : Nat → St) (rest : Int) (n k : Nat) : List Int := (List.range n).map fun i => if i < k then gfil L f rest i else atG L (f i)
def filL (L : Int) (f : Nat → St) (rest : Int) (n : Nat) : List Int := (List.range n).map (gfil L f rest)
theorem mix_0 (L : Int) (f : Nat → St) (rest : Int) (n : Nat) : mixL L f rest n 0 = atL L f n := by
  unfold mixL atL
  simp
theorem mix_n (L : Int) (f : Nat → St) (rest : Int) (n : Nat) : mixL L f rest n n = filL L f rest n := by
  unfold mixL filL
  apply List.map_congr_left
  intro i hi
  rw [if_pos (List.mem_range.1 hi)]
theorem mix_len (L : Int) (f : Nat → St) (rest : Int) (n k : Nat) : (mixL L f rest n k).length = n := by simp [mixL]
theorem mix_get (L : Int) (f : Nat → St) (rest : Int) (n k i : Nat) (h : i < n) : (mixL L f rest n k).getD i 0 = if i < k then gfil L f rest i else atG L (f i) := by
  simp [mixL, List.getD_eq_getElem?_getD, h]
theorem mix_set (L : Int) (f : Nat → St) (rest : Int) (n k : Nat) (h : 0 < frR L f rest k ∧ elg L (f k)) : (mixL L f rest n k).set k (atG L (f k) + 1) = mixL L f rest n (k + 1) := by
  apply List.ext_getElem?
  intro i
  unfold mixL
  rw [List.getElem?_set]
  by_cases e : k = i
  · subst e
    by_cases hk : k < n
    · simp [hk, gfil, h]
    · simp [hk]
  · rw [if_neg e]
    by_cases hi : i < n
    · simp only [List.getElem?_map, List.getElem?_range hi, Option.map_some]
      by_cases h1 : i < k
      · rw [if_pos h1, if_pos (by omega)]
      · rw [if_neg h1, if_neg (by omega)]
    · simp [hi]
theorem mix_skip (L : Int) (f : Nat → St) (rest : Int) (n k : Nat) (h : ¬ (0 < frR L f rest k ∧ elg L (f k))) : mixL L f rest n k = mixL L f rest n (k + 1) := by
  unfold mixL
  apply List.map_congr_left
  intro i _
  by_cases h1 : i < k
  · rw [if_pos h1, if_pos (by omega)]
  · rw [if_neg h1]
    by_cases h2 : i < k + 1
    · have : i = k := by omega
      subst this
      rw [if_pos h2]
      unfold gfil
      rw [if_neg h]
    · rw [if_neg h2]
theorem fr_bd (L : Int) (f : Nat → St) (rest : Int) (k : Nat) (h : 0 ≤ rest) : 0 ≤ frR L f rest k ∧ frR L f rest k ≤ rest := by
  induction k with
  | zero => exact ⟨h, Int.le_refl _⟩
  | succ k ih =>
    have e : frR L f rest (k + 1) = if 0 < frR L f rest k ∧ elg L (f k) then frR L f rest k - 1 else frR L f rest k := rfl
    rw [e]
    split
    · next h => have := h.1; omega
    · omega
/-- The result of Allocate: the list, empty where it fails, and the error. -/
def AllocR (bud : Int) (n : Nat) (f : Nat → St) (l : List Int) (code : Int) : Prop :=
  (vA n f = false ∧ l = [] ∧ code = 1) ∨ (vA n f = true ∧ bud < atS 0 f n ∧ l = [] ∧ code = 19) ∨ (vA n f = true ∧ atS 0 f n ≤ bud ∧ atS 4294967296 f n ≤ bud ∧ l = atL 4294967296 f n ∧ code = 0) ∨
  (vA n f = true ∧ atS 0 f n ≤ bud ∧ bud < atS 4294967296 f n ∧ code = 0 ∧ ∃ L : Nat, L < 4294967296 ∧ atS (L : Int) f n ≤ bud ∧ bud < atS ((L + 1 : Nat) : Int) f n ∧ l = filL L f (bud - atS L f n) n)
def AlcP (w : World) (bud : Int) (n : Nat) (f : Nat → St) (e : Ending) (w' : World) : Prop :=
  ∃ l code A c, e = .returned (.tuple #[.slice A l.length c, .int .i64 code]) ∧ AllocR bud n f l code ∧ NL .u64 w.heap.size w' A l ∧ Below w.heap.size w w' ∧ l.length ≤ c
theorem atG_mono {a b : Int} (s : St) (h : a ≤ b) : atG a s ≤ atG b s := by unfold atG; omega
theorem atS_mono {a b : Int} (f : Nat → St) (n : Nat) (h : a ≤ b) : atS a f n ≤ atS b f n := by
  induction n with
  | zero => exact Int.le_refl _
  | succ n ih =>
    have := atG_mono (f n) h
    show atS a f n + atG a (f n) ≤ atS b f n + atG b (f n)
    omega
theorem alloc_same {bud : Int} {n : Nat} {f : Nat → St} {l l' : List Int} {c c' : Int} (h : AllocR bud n f l c) (h' : AllocR bud n f l' c') : l = l' ∧ c = c' := by
  rcases h with ⟨a1, a2, a3⟩ | ⟨a1, a2, a3, a4⟩ | ⟨a1, a2, a3, a4, a5⟩ | ⟨a1, a2, a3, a4, L, a5, a6, a7, a8⟩ <;>
  rcases h' with ⟨b1, b2, b3⟩ | ⟨b1, b2, b3, b4⟩ | ⟨b1, b2, b3, b4, b5⟩ | ⟨b1, b2, b3, b4, L', b5, b6, b7, b8⟩
  all_goals first | (rw [a1] at b1; cases b1; done) | (exfalso; omega) | skip
  · exact ⟨a2.trans b2.symm, a3.trans b3.symm⟩
  · exact ⟨a3.trans b3.symm, a4.trans b4.symm⟩
  · exact ⟨a4.trans b4.symm, a5.trans b5.symm⟩
  · have : L = L' := by
      rcases Nat.lt_trichotomy L L' with h | h | h
      · have := atS_mono (a := ((L + 1 : Nat) : Int)) (b := (L' : Int)) f n (by omega)
        omega
      · exact h
      · have := atS_mono (a := ((L' + 1 : Nat) : Int)) (b := (L : Int)) f n (by omega)
        omega
    subst this
    exact ⟨a8.trans b8.symm, a4.trans b4.symm⟩
end Go.Proofs.Ytbblachhijpgeaa
