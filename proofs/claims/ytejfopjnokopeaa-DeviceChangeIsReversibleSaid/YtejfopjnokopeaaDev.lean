/- The rails of a state; a short list turned round; valid depths. -/
import Derived.Test.YtejfopjnokopeaaMis
namespace Go.Proofs.Ytejfopjnokopeaa
open Go.ChangeShapes Go.WideShapes Go.ChangeAt Go.RowKit Go.Deep Go.Joins

def NoP (w : World) (e : Ending) (w' : World) : Prop := e = .returned (.tuple #[]) ∧ w = w'
set_option maxHeartbeats 1000000 in
theorem rev_small (A : Option Addr) (n c : Nat) (w : World) (h : n ≤ 1) : Calls Try.prog 46 #[.slice A n c] w (NoP w) := by
  rcases (show n = 0 ∨ n = 1 by omega) with rfl | rfl
  · go_enter Try.func46, Try.ntmps46
    go_wp2_with fail
    go_loopw [2, 3] (fun vi vj wr => vi = .int .i64 0 ∧ vj = .int .i64 (-1) ∧ w = wr) (fun _ _ _ => 0)
    case atStart => exact ⟨rfl, rfl, rfl⟩
    case round =>
      obtain ⟨rfl, rfl, rfl⟩ := hrel
      have q : ¬ (0 : Int) < -1 := by omega
      have q2 : decide ((0 : Int) < -1) = false := by decide
      go_wp2
      refine bodyPost_ret (results_none rfl _ _ _) rfl ?_
      exact ⟨rfl, rfl⟩
  · go_enter Try.func46, Try.ntmps46
    go_wp2_with fail
    go_loopw [2, 3] (fun vi vj wr => vi = .int .i64 0 ∧ vj = .int .i64 0 ∧ w = wr) (fun _ _ _ => 0)
    case atStart => exact ⟨rfl, rfl, rfl⟩
    case round =>
      obtain ⟨rfl, rfl, rfl⟩ := hrel
      have q : ¬ (0 : Int) < 0 := by omega
      have q2 : decide ((0 : Int) < 0) = false := by decide
      go_wp2
      refine bodyPost_ret (results_none rfl _ _ _) rfl ?_
      exact ⟨rfl, rfl⟩
set_option maxRecDepth 20000 in
set_option maxHeartbeats 4000000 in
theorem ned_in (d : PD) (k : Nat) (w : World) (h : k < 4) : Calls Try.prog 44 #[.agg d.cells, .int .i64 k] w fun e w' => e = .returned (.slice (d.A k) (d.n k) (d.c k)) ∧ Below w.heap.size w w' := by
  have b1 : Below w.heap.size w (w.alloc (.cells d.cells 33)) := bal (Below.refl _ _) _
  have z : ∀ j, (w.alloc (.cells d.cells 33)).cell? ⟨w.heap.size, j, none⟩ = d.cells[j]? := fun j => new_c w _ 33 j
  have hZ : w.heap.size < (w.alloc (.cells d.cells 33)).heap.size := by simp
  have B1 := Lib.hid b1
  have ze : (w.alloc (.cells d.cells 33)).cell? ⟨w.heap.size, 1 + k, none⟩ = some (.slice (d.A k) (d.n k) (d.c k)) := by
    rw [z]
    rcases (show k = 0 ∨ k = 1 ∨ k = 2 ∨ k = 3 by omega) with rfl | rfl | rfl | rfl <;> rfl
  clear z b1
  generalize d.A k = Ak at *
  generalize d.n k = nk at *
  generalize d.c k = ck at *
  have k4 : ((k : Int) == 4) = false := by simp; omega
  have kl : (k : Int) < 4 := by omega
  go_enter Try.func44, Try.ntmps44
  go_upto_region 1 with fail
  generalize w.alloc (.cells d.cells 33) = w1 at *
  go_wp2
  go_ret
  exact ⟨rfl, B1.out⟩
theorem ned_4 (d : PD) (w : World) : Calls Try.prog 44 #[.agg d.cells, .int .i64 4] w fun e w' => e = .returned (.slice none 0 0) ∧ Below w.heap.size w w' := by
  unfold PD.cells
  go_enter Try.func44, Try.ntmps44
  go_wp2
  go_ret
  exact ⟨rfl, bal (Below.refl _ _) _⟩
end Go.Proofs.Ytejfopjnokopeaa
