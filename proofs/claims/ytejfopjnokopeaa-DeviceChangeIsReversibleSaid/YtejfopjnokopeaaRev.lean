/- A list turned round, by the library's contract. -/
import Derived.Test.YtejfopjnokopeaaDev
import Derived.Test.YtejfopjnokopeaaShl
namespace Go.Proofs.Ytejfopjnokopeaa
open Go.ChangeShapes Go.WideShapes Go.ChangeAt Go.RowKit Go.Deep Go.Joins

def RvP (w : World) (base : Nat) (A : Option Addr) (l : List Int) (e : Ending) (w' : World) : Prop := e = .returned (.tuple #[]) ∧ Il w' A l.reverse ∧ ∃ g, base ≤ g ∧ w.grownBy w' (some g)
theorem rev_any {w : World} {base : Nat} {v : Value} {l : List Int} (h : w.ownsRow base 3 1 v l.length (l.map (.int .i64))) (hn : l.length ≤ 1000000) :
    ∃ A c, v = .slice A l.length c ∧ Calls Try.prog 46 #[.slice A l.length c] w (RvP w base A l) := by
  rcases h.2 with ⟨rfl, h0⟩ | ⟨g, cap, cur, rfl, hbg, hg, hnc, hcm, _⟩
  · have h1 : l = [] := List.eq_nil_of_length_eq_zero h0
    subst h1
    refine ⟨none, 0, rfl, (Try.slices_Reverse_int_empty none 0 w).mono ?_⟩
    rintro e w' ⟨rfl, rfl⟩
    exact ⟨rfl, ⟨by simp, .inl rfl⟩, base, Nat.le_refl _, ⟨rfl, rfl, rfl, Nat.le_refl _, fun _ _ _ => rfl⟩⟩
  · have H : Go.Sort.Holds (Value.int .i64) w g 0 l.toArray := fun j hj => by
      have hj : j < l.length := by simpa using hj
      rw [Nat.zero_add]
      refine ⟨?_, h.frozenAt j⟩
      rw [h.cellAt j (by omega), List.getElem?_map, List.getElem?_eq_getElem hj, getElem!_pos _ j (by simpa using hj)]
      rfl
    refine ⟨_, cap, rfl, (Try.slices_Reverse_int g 0 cap l w H (by omega)).mono ?_⟩
    rintro e w' ⟨rfl, n, rfl⟩
    have H2 : Go.Sort.Holds (Value.int .i64) (Go.Sort.ahead w n) g 0 l.toArray := H
    refine ⟨rfl, ⟨by simp; omega, .inr ⟨g, 0, rfl, ?_, fun i hi => ?_⟩⟩, g, hbg, ⟨rfl, rfl, rfl, by simp [Go.Sort.ahead], fun k hk hne => ?_⟩⟩
    · rw [Go.Sort.size_putRow]
      exact blk_lt hg
    · rw [Go.Sort.cell?_putRow _ _ _ _ l.toArray _ H2 (by simp) i (by simpa using hi), getElem!_pos _ i (by simpa using hi), List.getD_eq_getElem?_getD, List.getElem?_eq_getElem hi]
      rfl
    · have hgk : g ≠ k := fun e => hne (by rw [e])
      simp [Go.Sort.putRow, Go.Sort.mapBlock, Go.Sort.ahead, Array.getElem?_modify, hgk]
end Go.Proofs.Ytejfopjnokopeaa
