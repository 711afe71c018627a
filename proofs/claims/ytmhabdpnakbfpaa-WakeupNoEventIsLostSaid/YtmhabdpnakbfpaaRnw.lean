/- The reference: New. -/
import Derived.Test.YtmhabdpnakbfpaaRpu
namespace Go.Proofs.Ytmhabdpnakbfpaa
open Go.ChangeShapes Go.WideShapes Go.ChangeAt Go.RowKit Go.Deep Go.Joins

def RnP (w : World) (n : Int) (e : Ending) (w' : World) : Prop :=
  (∃ k : Nat, n = k ∧ k ≤ 32 ∧ ∃ y : Ry, e = .returned (.tuple #[.pointer (some ⟨y.L, 0, none⟩), .int .i64 0]) ∧ (∀ L X, Rk w' (s0 k L X) y) ∧ w.heap.size ≤ y.L ∧ w.heap.size ≤ y.X ∧ w.heap.size ≤ y.Y ∧ Below w.heap.size w w') ∨ ((n < 0 ∨ 32 < n) ∧ e = .returned (.tuple #[.pointer none, .int .i64 1]) ∧ w = w')
theorem info4 : (Try.prog.info? 4).map (fun i => (i.zero, i.size, i.bytes)) = some (some (.bool false), 1, 1) := by kernel_rfl
theorem info32 : (Try.prog.info? 32).map (fun i => (i.zero, i.size, i.bytes)) = some (some (.int .u64 0), 1, 8) := by kernel_rfl
theorem made_at (z : Value) (n i : Nat) (h : i < n) : (madeCells #[z] n)[i]? = some z := by
  unfold madeCells
  rw [Array.getElem?_map, Array.getElem?_range, if_pos h]
  show some ((#[z] : Array Value)[i % 1]!) = _
  rw [Nat.mod_one]
  rfl
theorem rk_new {W : World} {n X Y Z : Nat} (hX : W.heap[X]? = some (.cells (madeCells #[.bool false] n) 4 (0, 0))) (hY : W.heap[Y]? = some (.cells (madeCells #[.int .u64 0] n) 32 (0, 0)))
    (hZ : W.heap[Z]? = some (.cells #[.slice (some ⟨X, 0, none⟩) n n, .slice (some ⟨Y, 0, none⟩) n n, .int .u64 0, .bool false, .int .i64 0, .bool false, .int .i64 0, .int .u64 0] 41 (0, 0))) (XZ : X ≠ Z) (YZ : Y ≠ Z) (XY : X ≠ Y) (hn : n ≤ 32) (L0 X0 : Nat) :
    Rk W (s0 n L0 X0) ⟨Z, X, Y, n, n⟩ :=
  ⟨(cells_at hZ 0).trans rfl, (cells_at hZ 1).trans rfl, ⟨0, (cells_at hZ 2).trans rfl, (fun e => by cases e)⟩, (cells_at hZ 3).trans rfl, (cells_at hZ 4).trans rfl, (cells_at hZ 5).trans rfl, ⟨0, (cells_at hZ 6).trans rfl, (fun e => by cases e)⟩, (cells_at hZ 7).trans rfl,
   (fun b hb j => by
    rcases hb with rfl | rfl | rfl
    · exact frz hZ j
    · exact frz hX j
    · exact frz hY j),
   blk_lt hZ, blk_lt hX, blk_lt hY, XZ, YZ, XY, hn, fun i hi => (cells_at hX i).trans (made_at _ n i hi), fun i hi => ⟨0, (cells_at hY i).trans (made_at _ n i hi), (fun e => by cases e)⟩, (fun i hi e => by cases e), Int.le_refl _⟩
theorem a3_0 (w : World) (a b c : Obj) : (((w.alloc a).alloc b).alloc c).heap[w.heap.size]? = some a := by
  rw [Below.heap_alloc _ _ _ (by simp; omega), Below.heap_alloc _ _ _ (by simp)]
  exact heap_alloc_new w a
theorem a3_1 (w : World) (a b c : Obj) : (((w.alloc a).alloc b).alloc c).heap[w.heap.size + 1]? = some b := by
  rw [Below.heap_alloc _ _ _ (by simp)]
  exact heap_alloc2_new w a b
theorem a3_2 (w : World) (a b c : Obj) : (((w.alloc a).alloc b).alloc c).heap[w.heap.size + 1 + 1]? = some c := by
  have e : ((w.alloc a).alloc b).heap.size = w.heap.size + 1 + 1 := by simp
  rw [← e]
  exact heap_alloc_new _ c
set_option maxRecDepth 20000 in
set_option maxHeartbeats 4000000 in
theorem rnew_any (n : Int) (w : World) : Calls Try.prog 12 #[.int .i64 n] w (RnP w n) := by
  by_cases h1 : n < 0
  · go_enter Try.func12, Try.ntmps12
    go_wp2
    go_ret2
    exact .inr ⟨.inl h1, rfl, rfl⟩
  by_cases h2 : 32 < n
  · go_enter Try.func12, Try.ntmps12
    go_wp2
    go_ret2
    exact .inr ⟨.inr h2, rfl, rfl⟩
  obtain ⟨k, rfl⟩ := Int.eq_ofNat_of_zero_le (show 0 ≤ n by omega)
  have hk : k ≤ 32 := by omega
  have hmk1 := run_make_row' (P := Try.prog) 38 4 _ 1 Try.underlying38 info4 rfl .i64 .i64 k (by omega) (by omega)
  have hmk2 := run_make_row' (P := Try.prog) 39 32 _ 8 Try.underlying39 info32 rfl .i64 .i64 k (by omega) (by omega)
  have F1 : Hid (RnP w k (.returned (.tuple #[.pointer (some ⟨w.heap.size + 1 + 1, 0, none⟩), .int .i64 0])) (((w.alloc (.cells (madeCells #[.bool false] k) 4)).alloc (.cells (madeCells #[.int .u64 0] k) 32)).alloc (.cells #[.slice (some ⟨w.heap.size, 0, none⟩) k k, .slice (some ⟨w.heap.size + 1, 0, none⟩) k k, .int .u64 0, .bool false, .int .i64 0, .bool false, .int .i64 0, .int .u64 0] 41)).drew) :=
    .inl ⟨k, rfl, hk, ⟨w.heap.size + 1 + 1, w.heap.size, w.heap.size + 1, k, k⟩, rfl, fun L X => (rk_new (a3_0 w _ _ _) (a3_1 w _ _ _) (a3_2 w _ _ _) (by omega) (by omega) (by omega) hk L X).below (Below.refl _ _).drew, by show _ ≤ w.heap.size + 1 + 1; omega, Nat.le_refl _, by show _ ≤ w.heap.size + 1; omega, (bal (bal (bal (Below.refl _ _) _) _) _).drew⟩
  have F2 : Hid (RnP w k (.returned (.tuple #[.pointer (some ⟨w.heap.size + 1 + 1, 0, none⟩), .int .i64 0])) (((w.alloc (.cells (madeCells #[.int .u64 0] k) 32)).alloc (.cells (madeCells #[.bool false] k) 4)).alloc (.cells #[.slice (some ⟨w.heap.size + 1, 0, none⟩) k k, .slice (some ⟨w.heap.size, 0, none⟩) k k, .int .u64 0, .bool false, .int .i64 0, .bool false, .int .i64 0, .int .u64 0] 41)).drew) :=
    .inl ⟨k, rfl, hk, ⟨w.heap.size + 1 + 1, w.heap.size + 1, w.heap.size, k, k⟩, rfl, fun L X => (rk_new (a3_1 w _ _ _) (a3_0 w _ _ _) (a3_2 w _ _ _) (by omega) (by omega) (by omega) hk L X).below (Below.refl _ _).drew, by show _ ≤ w.heap.size + 1 + 1; omega, by show _ ≤ w.heap.size + 1; omega, Nat.le_refl _, (bal (bal (bal (Below.refl _ _) _) _) _).drew⟩
  go_enter Try.func12, Try.ntmps12
  go_upto_region 3 with fail
  go_region
  · go_wp2
    go_ret2
    exact F1.out
  · go_wp2
    go_ret2
    exact F2.out
end Go.Proofs.Ytmhabdpnakbfpaa
