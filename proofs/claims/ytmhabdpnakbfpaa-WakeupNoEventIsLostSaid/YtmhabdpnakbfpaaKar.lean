/- A call that neither arms nor disarms leaves what is armed. -/
import Derived.Test.YtmhabdpnakbfpaaKon
namespace Go.Proofs.Ytmhabdpnakbfpaa
open Go.ChangeShapes Go.WideShapes Go.ChangeAt Go.RowKit Go.Deep Go.Joins

def Ka (s t : WS) : Prop := t.ar = s.ar ∧ t.rm = s.rm
theorem Ka.trans {s t u : WS} (h : Ka s t) (k : Ka t u) : Ka s u := ⟨k.1.trans h.1, k.2.trans h.2⟩
theorem ka_advK (s : WS) (now : Int) (k : Nat) : Ka s (advK s now k) := by
  induction k with
  | zero => exact ⟨rfl, rfl⟩
  | succ k ih =>
    unfold advK
    split
    · exact ⟨ih.1, ih.2⟩
    · exact ih
theorem ka_adv (s : WS) (now : Int) : Ka s (adv s now) := by
  have h := ka_advK s now s.n
  show Ka s (advA (advK s now s.n) now)
  unfold advA
  split
  · exact ⟨h.1, h.2⟩
  · exact h
theorem ka_pulQ (s : WS) (i : Nat) (x : Int) : Ka s (pulQ s i x) := by
  unfold pulQ
  split
  · split <;> exact ⟨rfl, rfl⟩
  · exact ⟨rfl, rfl⟩
theorem keep_ar (s : WS) (m : Nat) (x : Ar) (h : m < 7) : Ka s (doK s m x).1 := by
  have A := ka_adv s x.t
  have R : Ka s s := ⟨rfl, rfl⟩
  unfold doK
  split
  · unfold actS
    split
    · exact ⟨A.1, A.2⟩
    · exact R
  split
  · unfold deaS
    split
    · show Ka s (if ((adv s x.t).q x.s.toNat).on = true then _ else _)
      split
      · exact ⟨A.1, A.2⟩
      · exact A
    · exact R
  split
  · unfold pulS
    split
    · exact (A.trans (ka_pulQ _ _ _)).trans (ka_adv _ _)
    · exact R
  split
  · unfold salS
    split
    · exact (show Ka s { adv s x.t with al := true, a := x.o } from ⟨A.1, A.2⟩).trans (ka_adv _ _)
    · exact R
  split
  · unfold avS
    split
    · exact A
    · exact R
  rw [if_neg (show m ≠ 7 by omega)]
  have : m = 6 := by omega
  contradiction
end Go.Proofs.Ytmhabdpnakbfpaa
