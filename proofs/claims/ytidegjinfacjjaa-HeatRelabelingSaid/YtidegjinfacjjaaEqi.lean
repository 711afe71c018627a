/- Equal, of two slices that hold the same numbers. -/
import Derived.Test.YtidegjinfacjjaaTeq
namespace Go.Proofs.Ytidegjinfacjjaa
open Go.ChangeShapes Go.WideShapes Go.ChangeAt Go.RowKit Go.Deep Go.Joins

def EqP (w : World) (e : Ending) (w' : World) : Prop := e = .returned (.bool true) ∧ Below w.heap.size w w'
set_option maxRecDepth 100000 in
set_option maxHeartbeats 2000000 in
theorem equ_any (A B : Option Addr) (c d n : Nat) (E : Nat → Int) (w : World) (hA : Fl w A 1 n (eV E)) (hB : Fl w B 1 n (eV E)) : Calls Try.prog 21 #[.slice A n c, .slice B n d] w (EqP w) := by
  have HA := Lib.hid hA
  have HB := Lib.hid hB
  have hn := hA.1
  clear hA hB
  go_enter Try.func21, Try.ntmps21
  go_wp2_with fail
  go_loopw [5] (fun i wr => ∃ k : Nat, k ≤ n ∧ i = .int .i64 k ∧ Below w.heap.size w wr) (fun i _ => n - (intOf i).toNat)
  case atStart => exact ⟨0, Nat.zero_le _, rfl, Below.refl _ _⟩
  case round =>
    obtain ⟨k, hk, rfl, hb⟩ := hrel
    have BB := Lib.hid hb
    by_cases hlt : k < n
    · obtain ⟨a, i, rfl, -⟩ := HA.out.addr (by omega)
      obtain ⟨a2, i2, rfl, -⟩ := HB.out.addr (by omega)
      obtain ⟨l1, e1⟩ := (HA.out.below hb (Nat.le_refl _)).eat' rfl hlt
      obtain ⟨l2, e2⟩ := (HB.out.below hb (Nat.le_refl _)).eat' rfl hlt
      generalize E k = x at *
      have hne : (x != x) = false := by simp
      clear hb
      go_wp2_with fail
      go_quiet (fail)
      have NB := Lib.hid (bel_drewN BB.out nq)
      go_wp2
      go_roundw
      case rel => exact ⟨k + 1, by omega, by go_num, NB.out⟩
      case measure => simp [intOf]; omega
    · obtain rfl : k = n := by omega
      clear hb
      go_wp2_with fail
      go_ret
      exact ⟨rfl, BB.out⟩
end Go.Proofs.Ytidegjinfacjjaa
