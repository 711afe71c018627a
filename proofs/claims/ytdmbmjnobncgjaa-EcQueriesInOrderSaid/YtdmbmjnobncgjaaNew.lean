/- New. -/
import Derived.Test.YtdmbmjnobncgjaaWwr
import Derived.Deep.WholeRow
namespace Go.Proofs.Ytdmbmjnobncgjaa
open Go.RowKit

theorem new_bad (w : World) (d : Int) (hd : 4294967296 < d) : Calls Try.prog 9 #[.int .u64 d] w (fun e w' => e = .returned (.tuple #[.pointer none, .int .i64 1]) ∧ w' = w) := by
  go_enter Try.func9, Try.ntmps9
  go_wp2
  go_ret2
  exact ⟨rfl, rfl⟩
theorem u64_0 : U64 0 := by unfold U64; omega
theorem u8_0 : U8 0 := by unfold U8; omega
def e0 : EcS := ⟨0, 0, fun _ => 0, false, false, 0, 0, 0, false, none, [], 0, 0, false, 0, fun _ => False⟩
/-- The zero value of a controller, its first cell set. -/
def zc : Array Value := ((List.range 268).map (ecell e0)).toArray
theorem zc_info : (Try.prog.info? 66).map (fun i => (i.zero, i.size)) = some (some (.agg zc), 268) := by kernel_rfl
theorem zc_size : zc.size = 268 := by unfold zc; simp
theorem zc_ne : ¬ zc = #[] := fun h => by have := zc_size; rw [h] at this; cases this
theorem zero_row (w : World) (d : Int) : (w.alloc (.cells (zc.setIfInBounds 0 (.int .u64 d)) 66 (0, 0))).rowIs w.heap.size 66 268 (ecell { e0 with dl := d }) := by
  have hz := zc_size
  refine ⟨zc.setIfInBounds 0 (.int .u64 d), by show (w.heap.push _)[w.heap.size]? = _; rw [Array.getElem?_push_size], by simp [hz], fun i hi => ?_⟩
  have hg : zc[i]? = some (ecell e0 i) := by
    unfold zc
    simp [hi]
  by_cases e : i = 0
  · subst e
    rw [Array.getElem?_setIfInBounds_self_of_lt (by rw [hz]; omega)]
    rfl
  · rw [Array.getElem?_setIfInBounds_ne (fun h => e h.symm), hg]
    simp [ecell, e, e0]
set_option maxRecDepth 100000 in
set_option maxHeartbeats 2000000 in
theorem new_good (w : World) (d : Int) (hd : d ≤ 4294967296) (h0 : 0 ≤ d) : Calls Try.prog 9 #[.int .u64 d] w (fun e w' => e = .returned (.tuple #[.pointer (some ⟨w.heap.size, 0, none⟩), .int .i64 0]) ∧ EcQ w' w.heap.size { e0 with dl := d } ∧ Below w.heap.size w w') := by
  have hz := (zero_of_info zc_info).1 w
  have hne := zc_ne
  have hzs := zc_size
  go_enter Try.func9, Try.ntmps9
  go_wp2
  go_ret2
  refine ⟨rfl, .of ⟨zero_row w d, ⟨fun _ x => x.elim, .inl ⟨rfl, rfl⟩⟩, ⟨h0, ?_⟩, ?_, ?_, fun i _ => ?_, ?_, ?_, ?_, ?_, ⟨?_, fun x hx => by cases hx⟩, ?_⟩, bal (Below.refl _ _) _⟩
  · show d < 18446744073709551616
    omega
  all_goals first | exact u64_0 | exact u8_0 | exact Nat.zero_le _
end Go.Proofs.Ytdmbmjnobncgjaa
