/- The reference's Compress: its state. -/
import Derived.Test.YtpfaicdoaldioaaZt
namespace Go.Proofs.Ytpfaicdoaldioaa
open Go.ChangeShapes Go.WideShapes Go.ChangeAt Go.RowKit Go.Deep Go.Joins

theorem tbv_add (W : Nat → Int) (i : Nat) : tbv W i (i / 4) + tg W i * 2 ^ (2 * (i % 4)) = tbv W (i + 1) (i / 4) := by
  have ht : 0 ≤ tg W i ∧ tg W i ≤ 3 := tgOf_bd (dct W i) (W i)
  have low : ∀ m, i ≤ m → tgm W i m = 0 := fun m hm => by unfold tgm; rw [if_neg (by omega)]
  have new : tgm W (i + 1) i = tg W i := by unfold tgm; rw [if_pos (by omega)]
  rcases (show i % 4 = 0 ∨ i % 4 = 1 ∨ i % 4 = 2 ∨ i % 4 = 3 by omega) with h | h | h | h
  · have e0 : 4 * (i / 4) = i := by omega
    rw [h, show (2 : Int) ^ (2 * 0) = 1 from rfl]
    unfold tbv
    rw [e0, new, tgm_succ _ _ _ (by omega), tgm_succ _ _ _ (by omega), tgm_succ _ _ _ (by omega), low i (by omega), low (i + 1) (by omega), low (i + 2) (by omega), low (i + 3) (by omega)]
    omega
  · have e0 : 4 * (i / 4) + 1 = i := by omega
    rw [h, show (2 : Int) ^ (2 * 1) = 4 from rfl]
    unfold tbv
    rw [tgm_succ W i (4 * (i / 4)) (by omega), e0, new, tgm_succ _ _ _ (by omega), tgm_succ _ _ _ (by omega), low i (by omega), low (4 * (i / 4) + 2) (by omega), low (4 * (i / 4) + 3) (by omega)]
    omega
  · have e0 : 4 * (i / 4) + 2 = i := by omega
    rw [h, show (2 : Int) ^ (2 * 2) = 16 from rfl]
    unfold tbv
    rw [tgm_succ W i (4 * (i / 4)) (by omega), tgm_succ W i (4 * (i / 4) + 1) (by omega), e0, new, tgm_succ _ _ _ (by omega), low i (by omega), low (4 * (i / 4) + 3) (by omega)]
    omega
  · have e0 : 4 * (i / 4) + 3 = i := by omega
    rw [h, show (2 : Int) ^ (2 * 3) = 64 from rfl]
    unfold tbv
    rw [tgm_succ W i (4 * (i / 4)) (by omega), tgm_succ W i (4 * (i / 4) + 1) (by omega), tgm_succ W i (4 * (i / 4) + 2) (by omega), e0, new, low i (by omega)]
    omega
/-- The reference's state: the tags' row, the row of the rest, the dictionary. -/
structure Cr (B : Nat) (w0 wr : World) (bd T : Nat) (LT LR : List Int) (D : Nat → Int) (v : Value) : Prop where
  tg : wr.ownsRow B 5 1 (.slice (some ⟨T, 0, none⟩) 16 16) 16 (LT.map (Value.int .u8))
  rs : wr.ownsRow (T + 1) 5 1 v LR.length (LR.map (Value.int .u8))
  dic : Dct wr bd D
  bel : Below B w0 wr
  hB : B ≤ bd
  hT : bd < T
theorem Cr.low {B bd T : Nat} {w0 wr : World} {LT LR : List Int} {D : Nat → Int} {v : Value} (h : Cr B w0 wr bd T LT LR D v) : T < wr.heap.size := (h.tg.lt T rfl).2
theorem Cr.drew {B bd T : Nat} {w0 wr : World} {LT LR : List Int} {D : Nat → Int} {v : Value} (h : Cr B w0 wr bd T LT LR D v) : Cr B w0 wr.drew bd T LT LR D v := ⟨h.tg, h.rs, ⟨h.dic.obj⟩, h.bel.drew, h.hB, h.hT⟩
theorem Cr.drewN {B bd T : Nat} {w0 wr : World} {LT LR : List Int} {D : Nat → Int} {v : Value} (h : Cr B w0 wr bd T LT LR D v) (n : Nat) : Cr B w0 (wr.drewN n) bd T LT LR D v := ⟨h.tg, h.rs, ⟨h.dic.obj⟩, ⟨h.bel.os, h.bel.tape, h.bel.output, h.bel.size, h.bel.block⟩, h.hB, h.hT⟩
theorem Cr.alloc {B bd T : Nat} {w0 wr : World} {LT LR : List Int} {D : Nat → Int} {v : Value} (h : Cr B w0 wr bd T LT LR D v) (o : Obj) : Cr B w0 (wr.alloc o) bd T LT LR D v :=
  ⟨h.tg.alloc o, h.rs.alloc o, h.dic.chg (Chg.alloc (fun _ => False) wr o) (fun x => x), h.bel.alloc (by have := h.dic.lt; have := h.hB; omega) o, h.hB, h.hT⟩
theorem Cr.tset {B bd T : Nat} {w0 wr : World} {LT LR : List Int} {D : Nat → Int} {v : Value} (h : Cr B w0 wr bd T LT LR D v) (k : Nat) (x : Int) : Cr B w0 (wr.setCell ⟨T, k, none⟩ (.int .u8 x)) bd T (LT.set k x) LR D v := by
  obtain ⟨o, g⟩ := h.tg.stored k (.int .u8 x)
  rw [← List.map_set] at o
  refine ⟨o, own_chg h.rs (Chg.set wr T k _) (fun j hj e => by have := (h.rs.lt j hj).1; omega), h.dic.chg (Chg.set wr T k _) (fun e => by have := h.hT; omega), h.bel.grown g (by have := h.dic.lt; have := h.hB; omega) (fun j hj => by injection hj with hj; have := h.hT; have := h.hB; omega), h.hB, h.hT⟩
theorem Cr.dset {B bd T : Nat} {w0 wr : World} {LT LR : List Int} {D : Nat → Int} {v : Value} (h : Cr B w0 wr bd T LT LR D v) (k : Nat) (x : Int) : Cr B w0 (wr.setCell ⟨bd, k, none⟩ (.int .u32 x)) bd T LT LR (fun j => if j = k then x else D j) v :=
  ⟨own_chg h.tg (Chg.set wr bd k _) (fun j hj e => by injection hj with hj; have := h.hT; simp at hj; omega), own_chg h.rs (Chg.set wr bd k _) (fun j hj e => by have := (h.rs.lt j hj).1; have := h.hT; omega), h.dic.set k x, h.bel.grown (g_store wr bd k _) (by have := h.dic.lt; have := h.hB; omega) (fun j hj => by injection hj with hj; have := h.hB; omega), h.hB, h.hT⟩
theorem Cr.grow {B bd T m : Nat} {w0 wr w1 : World} {LT LR news : List Int} {D : Nat → Int} {v v' : Value} (h : Cr B w0 wr bd T LT LR D v) (hm : news.length = m) (hown : w1.ownsRow (T + 1) 5 1 v' (LR.length + m) (LR.map (Value.int .u8) ++ news.map (Value.int .u8)))
    (hg : wr.grownBy w1 v.ownBlock) : Cr B w0 w1 bd T LT (LR ++ news) D v' := by
  have hl : LR.length + m = (LR ++ news).length := by rw [List.length_append, hm]
  rw [hl, ← List.map_append] at hown
  exact ⟨own_chg h.tg (Chg.of_grown hg) (fun j hj e => by injection hj with hj; have := (h.rs.lt j e).1; simp at hj; omega), hown, h.dic.chg (Chg.of_grown hg) (fun e => by have := (h.rs.lt bd e).1; have := h.hT; omega), h.bel.grown hg (by have := h.dic.lt; have := h.hB; omega) (fun j hj => by have := (h.rs.lt j hj).1; have := h.hT; have := h.hB; omega), h.hB, h.hT⟩
theorem Dct.frozen' {w : World} {bd : Nat} {D : Nat → Int} (h : Dct w bd D) (j : Nat) : w.frozen? ⟨bd, j, none⟩ = false := h.frozen j
set_option maxRecDepth 20000 in
set_option maxHeartbeats 2000000 in
theorem rcmp_bad (s : ByteArray) (w : World) (h : s.size ≠ 256) : Calls Try.prog 12 #[.string s] w (CmP w (cmpR s)) := by
  have F : Hid (cmpR s = ({ data := #[] }, 1)) := by show _ = _; unfold cmpR; rw [if_neg h]
  go_enter Try.func12, Try.ntmps12
  go_wp2
  go_ret2
  rw [F.out]
  exact ⟨rfl, Below.refl _ _⟩
theorem cr_0 (W : Nat → Int) (w : World) : Cr w.heap.size w (((w.alloc
          (Obj.cells
            #[Value.int IntKind.u32 0, Value.int IntKind.u32 0, Value.int IntKind.u32 0, Value.int IntKind.u32 0,
              Value.int IntKind.u32 0, Value.int IntKind.u32 0, Value.int IntKind.u32 0, Value.int IntKind.u32 0,
              Value.int IntKind.u32 0, Value.int IntKind.u32 0, Value.int IntKind.u32 0, Value.int IntKind.u32 0,
              Value.int IntKind.u32 0, Value.int IntKind.u32 0, Value.int IntKind.u32 0, Value.int IntKind.u32 0]
            41)).alloc
      (Obj.cells (madeCells #[Value.int IntKind.u8 0] 16) 5))) w.heap.size (w.heap.size + 1) (tagL W 0) (bsl W 0) (dct W 0) (.slice none 0 0) := by
  have e0 : tagL W 0 = List.replicate 16 0 := by
    have := outL_0 W
    unfold outL at this
    injection this with _ this
  rw [e0]
  refine ⟨?_, World.ownsRow_nil _ _ _ _, ?_, bal (bal (Below.refl _ _) _) _, Nat.le_refl _, by omega⟩
  · have := World.ownsRow_lit (base := w.heap.size) (e := 5) (size := 1) (w.alloc
          (Obj.cells
            #[Value.int IntKind.u32 0, Value.int IntKind.u32 0, Value.int IntKind.u32 0, Value.int IntKind.u32 0,
              Value.int IntKind.u32 0, Value.int IntKind.u32 0, Value.int IntKind.u32 0, Value.int IntKind.u32 0,
              Value.int IntKind.u32 0, Value.int IntKind.u32 0, Value.int IntKind.u32 0, Value.int IntKind.u32 0,
              Value.int IntKind.u32 0, Value.int IntKind.u32 0, Value.int IntKind.u32 0, Value.int IntKind.u32 0]
            41)) (madeCells #[Value.int IntKind.u8 0] 16) 16 (by simp) (by unfold maxLen; omega) (by kernel_rfl)
    rw [toList_madeCells_one] at this
    rw [List.map_replicate]
    simpa using this
  · refine Dct.chg (S := fun _ => False) ⟨_, 41, heap_alloc_new w _, by decide, rfl, fun j hj => ?_⟩ (Chg.alloc _ _ _) (fun x => x)
    rcases (show j = 0 ∨ j = 1 ∨ j = 2 ∨ j = 3 ∨ j = 4 ∨ j = 5 ∨ j = 6 ∨ j = 7 ∨ j = 8 ∨ j = 9 ∨ j = 10 ∨ j = 11 ∨ j = 12 ∨ j = 13 ∨ j = 14 ∨ j = 15 by omega) with h | h | h | h | h | h | h | h | h | h | h | h | h | h | h | h <;> (subst h; rfl)
end Go.Proofs.Ytpfaicdoaldioaa
