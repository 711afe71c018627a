/- A transaction: Read, Write, Query. -/
import Derived.Test.YtdmbmjnobncgjaaNew
namespace Go.Proofs.Ytdmbmjnobncgjaa
open Go.RowKit

/-- A transaction at T: command, address, data, deadline, state, value. -/
def TrB (w : World) (T : Nat) (cd ad dt dl st vl : Int) : Prop := w.heap[T]? = some (.cells #[.int .u8 cd, .int .u8 ad, .int .u8 dt, .int .u64 dl, .int .i64 st, .int .u8 vl] 75 (0, 0))
def TrN (w : World) (cd ad dt dl : Int) (e : Ending) (w' : World) : Prop := e = .returned (.pointer (some ⟨w.heap.size, 0, none⟩)) ∧ TrB w' w.heap.size cd ad dt dl 0 0 ∧ Below w.heap.size w w'
theorem tr_new (w : World) (o : Obj) : (w.alloc o).heap[w.heap.size]? = some o := by
  show (w.heap.push _)[w.heap.size]? = _
  rw [Array.getElem?_push_size]
theorem read_new (w : World) (a t d : Int) (ht : U64 t) (hd : U64 d) : Calls Try.prog 28 #[.int .u8 a, .int .u64 t, .int .u64 d] w (TrN w 128 a 0 (lat t d)) := by
  have M := later_q w t d ht hd
  clear ht hd
  go_enter Try.func28, Try.ntmps28
  go_wp2_with fail
  refine M.mono ?_
  rintro e w1 ⟨rfl, rfl⟩
  clear M
  go_wp2
  go_ret
  exact ⟨rfl, tr_new _ _, bal (Below.refl _ _) _⟩
theorem write_new (w : World) (a v t d : Int) (ht : U64 t) (hd : U64 d) : Calls Try.prog 30 #[.int .u8 a, .int .u8 v, .int .u64 t, .int .u64 d] w (TrN w 129 a v (lat t d)) := by
  have M := later_q w t d ht hd
  clear ht hd
  go_enter Try.func30, Try.ntmps30
  go_wp2_with fail
  refine M.mono ?_
  rintro e w1 ⟨rfl, rfl⟩
  clear M
  go_wp2
  go_ret
  exact ⟨rfl, tr_new _ _, bal (Below.refl _ _) _⟩
theorem query_new (w : World) (t d : Int) (ht : U64 t) (hd : U64 d) : Calls Try.prog 32 #[.int .u64 t, .int .u64 d] w (TrN w 132 0 0 (lat t d)) := by
  have M := later_q w t d ht hd
  clear ht hd
  go_enter Try.func32, Try.ntmps32
  go_wp2_with fail
  refine M.mono ?_
  rintro e w1 ⟨rfl, rfl⟩
  clear M
  go_wp2
  go_ret
  exact ⟨rfl, tr_new _ _, bal (Below.refl _ _) _⟩
end Go.Proofs.Ytdmbmjnobncgjaa
