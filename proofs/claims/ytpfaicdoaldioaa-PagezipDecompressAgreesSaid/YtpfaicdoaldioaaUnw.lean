/- The reference's unpack. -/
import Derived.Test.YtpfaicdoaldioaaUnp
namespace Go.Proofs.Ytpfaicdoaldioaa
open Go.ChangeShapes Go.WideShapes Go.ChangeAt Go.RowKit Go.Deep Go.Joins

theorem ixA0 (W : World) : (Instr.index 50 (.agg #[.int .i64 0, .int .i64 1, .int .i64 3, .int .i64 4]) (.int .u8 0)).run Try.prog W = .ok (.int .i64 0) W := by kernel_rfl
theorem ixA1 (W : World) : (Instr.index 50 (.agg #[.int .i64 0, .int .i64 1, .int .i64 3, .int .i64 4]) (.int .u8 1)).run Try.prog W = .ok (.int .i64 1) W := by kernel_rfl
theorem ixA2 (W : World) : (Instr.index 50 (.agg #[.int .i64 0, .int .i64 1, .int .i64 3, .int .i64 4]) (.int .u8 2)).run Try.prog W = .ok (.int .i64 3) W := by kernel_rfl
theorem ixA3 (W : World) : (Instr.index 50 (.agg #[.int .i64 0, .int .i64 1, .int .i64 3, .int .i64 4]) (.int .u8 3)).run Try.prog W = .ok (.int .i64 4) W := by kernel_rfl
/-- The state of unpack's loop. -/
structure Us (s : ByteArray) (w wr : World) (i : Nat) (v : Value) (t : Ust) : Prop where
  ex : unS s i = some t
  own : wr.ownsRow (w.heap.size + 1) 5 1 v t.l.length (t.l.map (Value.int .u8))
  dic : Dct wr w.heap.size t.d
  bel : Below w.heap.size w wr
theorem us_0 (s : ByteArray) (w : World) : Us s w (w.alloc
          (Obj.cells
            #[Value.int IntKind.u32 0, Value.int IntKind.u32 0, Value.int IntKind.u32 0, Value.int IntKind.u32 0,
              Value.int IntKind.u32 0, Value.int IntKind.u32 0, Value.int IntKind.u32 0, Value.int IntKind.u32 0,
              Value.int IntKind.u32 0, Value.int IntKind.u32 0, Value.int IntKind.u32 0, Value.int IntKind.u32 0,
              Value.int IntKind.u32 0, Value.int IntKind.u32 0, Value.int IntKind.u32 0, Value.int IntKind.u32 0]
            41)) 0 (.slice none 0 0) ⟨[], 17, fun _ => 0⟩ := by
  refine ⟨rfl, World.ownsRow_nil _ _ _ _, ⟨_, 41, heap_alloc_new w _, by decide, rfl, fun j hj => ?_⟩, bal (Below.refl _ _) _⟩
  rcases (show j = 0 ∨ j = 1 ∨ j = 2 ∨ j = 3 ∨ j = 4 ∨ j = 5 ∨ j = 6 ∨ j = 7 ∨ j = 8 ∨ j = 9 ∨ j = 10 ∨ j = 11 ∨ j = 12 ∨ j = 13 ∨ j = 14 ∨ j = 15 by omega) with h | h | h | h | h | h | h | h | h | h | h | h | h | h | h | h <;> (subst h; rfl)
theorem unS_none (s : ByteArray) (i : Nat) (h : unS s i = none) (k : Nat) : unS s (i + k) = none := by
  induction k with
  | zero => exact h
  | succ k ih => show (unS s (i + k)).bind _ = none; rw [ih]; rfl
theorem leI4 (x : Int) : leI x 4 = [x % 256, x / 256 % 256, x / 65536 % 256, x / 16777216 % 256] := by
  show [x % 256, x / 256 % 256, x / 256 / 256 % 256, x / 256 / 256 / 256 % 256] = _
  rw [show x / 256 / 256 / 256 = x / 16777216 by omega, show x / 256 / 256 = x / 65536 by omega]
theorem unW_bd (s : ByteArray) (k : Nat) (D : Nat → Int) (tag : Nat) (hd : D32 D) : 0 ≤ unW s k D tag ∧ unW s k D tag < 4294967296 := by
  unfold unW
  split
  · omega
  split
  · exact hd _
  split
  · have := hd (bt s k).toNat; have := bt_bd s (k + 1); have := bt_bd s (k + 2); omega
  · have := numAt_bd s k 4; omega
end Go.Proofs.Ytpfaicdoaldioaa
