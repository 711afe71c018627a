/- The slot of hotplug: its states, its events, its actions; transition, Handle, Advance. -/
import Derived.Test.YtefciddekhmifaaGen
namespace Go.Proofs.Ytefciddekhmifaa
open Go.RowKit

/-- A slot of type t at block L. -/
def SlB (t : TypeId) (w : World) (L : Nat) (st : Nat) (dl gd : Int) : Prop := w.heap[L]? = some (.cells #[.int .i64 (st : Int), .int .u64 dl, .int .u64 gd] t (0, 0))
theorem SlB.c0 {t : TypeId} {w : World} {L st : Nat} {dl gd : Int} (h : SlB t w L st dl gd) : w.cell? ⟨L, 0, none⟩ = some (.int .i64 (st : Int)) := by unfold SlB at h; simp [World.cell?, h]
theorem SlB.c1 {t : TypeId} {w : World} {L st : Nat} {dl gd : Int} (h : SlB t w L st dl gd) : w.cell? ⟨L, 1, none⟩ = some (.int .u64 dl) := by unfold SlB at h; simp [World.cell?, h]
theorem SlB.c2 {t : TypeId} {w : World} {L st : Nat} {dl gd : Int} (h : SlB t w L st dl gd) : w.cell? ⟨L, 2, none⟩ = some (.int .u64 gd) := by unfold SlB at h; simp [World.cell?, h]
theorem SlB.fz {t : TypeId} {w : World} {L st : Nat} {dl gd : Int} (h : SlB t w L st dl gd) (o : Nat) : w.frozen? ⟨L, o, none⟩ = false := by unfold SlB at h; simp [World.frozen?, h]
theorem SlB.set0 {t : TypeId} {w : World} {L st : Nat} {dl gd : Int} (h : SlB t w L st dl gd) (x : Nat) : SlB t (w.setCell ⟨L, 0, none⟩ (.int .i64 (x : Int))) L x dl gd := heap_setCell_same w L 0 _ _ _ h
theorem SlB.set2 {t : TypeId} {w : World} {L st : Nat} {dl gd : Int} (h : SlB t w L st dl gd) (x : Int) : SlB t (w.setCell ⟨L, 2, none⟩ (.int .u64 x)) L st dl x := heap_setCell_same w L 2 _ _ _ h
/-- The next state, or 0; the actions. Events: 1 insert, 2 remove, 3 power on, 4 eject, 5 stopped, 6 fault. -/
def nxt (st : Nat) (ev : Int) : Nat :=
  if ev = 1 then (if st = 1 then 2 else 0)
  else if ev = 2 then (if st = 1 then 0 else 1)
  else if ev = 3 then (if st = 2 ∨ st = 6 then 3 else 0)
  else if ev = 4 then (if st = 4 then 5 else if st = 3 then 2 else 0)
  else if ev = 5 then (if st = 5 then 2 else 0)
  else if ev = 6 then (if st = 3 ∨ st = 4 ∨ st = 5 then 6 else 0)
  else 0
def act (st : Nat) (ev : Int) : List Int :=
  if ev = 2 then (if st = 3 then [2] else if st = 4 ∨ st = 5 then [5, 2] else [])
  else if ev = 3 then (if st = 2 ∨ st = 6 then [1] else [])
  else if ev = 4 then (if st = 4 then [4] else if st = 3 then [2] else [])
  else if ev = 5 then (if st = 5 then [5, 2] else [])
  else if ev = 6 then (if st = 3 then [2] else if st = 4 ∨ st = 5 then [5, 2] else [])
  else []
/-- What transition leaves. -/
def TrPost (w : World) (N : Nat) (l : List Int) (e : Ending) (w' : World) : Prop :=
  ∃ A c, e = .returned (.tuple #[.int .i64 (N : Int), .slice A l.length c]) ∧ IL .i64 w.heap.size w' A l ∧ Below w.heap.size w w'
theorem tr_nil {w w' : World} {N : Nat} (h : Below w.heap.size w w') : TrPost w N [] (.returned (.tuple #[.int .i64 (N : Int), .slice none 0 0])) w' := ⟨none, 0, rfl, il_nil _ _ _ _, h⟩
theorem bal2 (w : World) (A B : Obj) : Below w.heap.size w ((w.alloc A).alloc B) := bal (bal (Below.refl _ _) A) B
theorem bal3 (w : World) (A B C : Obj) : Below w.heap.size w (((w.alloc A).alloc B).alloc C) := bal (bal2 w A B) C
theorem tr_off (w : World) (N : Nat) (B : Obj) (c : Nat) : TrPost w N [2] (.returned (.tuple #[.int .i64 (N : Int), .slice (some ⟨w.heap.size, 0, none⟩) 1 c])) ((w.alloc (.cells #[.int .i64 2] 3)).alloc B) :=
  ⟨_, c, rfl, il_one (t := 3) (by rw [Below.heap_alloc _ _ _ (by simp)]; exact heap_alloc_new w _) (Nat.le_refl _), bal2 w _ _⟩
theorem tr_gone (w : World) (N : Nat) (A : Obj) (c : Nat) : TrPost w N [5, 2] (.returned (.tuple #[.int .i64 (N : Int), .slice (some ⟨w.heap.size + 1, 0, none⟩) 2 c])) ((w.alloc A).alloc (.cells #[.int .i64 5, .int .i64 2] 3)) :=
  ⟨_, c, rfl, il_two (t := 3) (heap_alloc2_new w _ _) (by omega), bal2 w _ _⟩
theorem heap_alloc3_new (w : World) (A B C : Obj) : (((w.alloc A).alloc B).alloc C).heap[w.heap.size + 2]? = some C := by
  have := heap_alloc_new ((w.alloc A).alloc B) C
  simpa using this
theorem tr_lit (w : World) (N : Nat) (A B : Obj) (x : Int) (c : Nat) : TrPost w N [x] (.returned (.tuple #[.int .i64 (N : Int), .slice (some ⟨w.heap.size + 2, 0, none⟩) 1 c])) (((w.alloc A).alloc B).alloc (.cells #[.int .i64 x] 3)) :=
  ⟨_, c, rfl, il_one (t := 3) (heap_alloc3_new w _ _ _) (by omega), bal3 w _ _ _⟩
set_option maxRecDepth 100000 in
set_option maxHeartbeats 4000000 in
theorem tra_c (w : World) (L st : Nat) (dl gd ev : Int) (h : SlB 43 w L st dl gd) (hs : st = 1 ∨ st = 2 ∨ st = 3 ∨ st = 4 ∨ st = 5 ∨ st = 6) (he : ev = 1 ∨ ev = 2 ∨ ev = 3 ∨ ev = 4 ∨ ev = 5 ∨ ev = 6) :
    Calls Try.prog 15 #[.pointer (some ⟨L, 0, none⟩), .int .i64 ev] w (TrPost w (nxt st ev) (act st ev)) := by
  have hL := blk_lt h
  have c0 := h.c0
  clear h
  rcases he with rfl | rfl | rfl | rfl | rfl | rfl <;> rcases hs with rfl | rfl | rfl | rfl | rfl | rfl
  all_goals
    go_enter Try.func15, Try.ntmps15
    go_wp2
    go_ret2
    first | exact tr_nil (bal2 _ _ _) | exact tr_off _ _ _ _ | exact tr_gone _ _ _ _ | exact tr_lit _ _ _ _ _ _
end Go.Proofs.Ytefciddekhmifaa
