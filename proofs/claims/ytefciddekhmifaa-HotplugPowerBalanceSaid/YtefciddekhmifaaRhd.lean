/- The reference's Handle; Advance of both; NewSlot of both; State. -/
import Derived.Test.YtefciddekhmifaaHnd
namespace Go.Proofs.Ytefciddekhmifaa
open Go.RowKit

theorem rh_no {t : TypeId} {w : World} {L st : Nat} {dl gd k : Int} (h : SlB t w L st dl gd) : HPost t w L st dl gd [] (withErr k) (.returned (.tuple #[.slice none 0 0, .int .i64 k])) w :=
  ⟨none, 0, rfl, il_nil _ _ _ _, h, World.grownBy.refl _ _⟩
theorem rh_set {t : TypeId} {w : World} {L st x : Nat} {dl gd y : Int} (h : SlB t w L st dl gd) (hy : y = (x : Int)) : HPost t w L x dl gd [] (withErr 0) (.returned (.tuple #[.slice none 0 0, .int .i64 0])) (w.setCell ⟨L, 0, none⟩ (.int .i64 y)) := by
  subst hy
  exact ⟨none, 0, rfl, il_nil _ _ _ _, h.set0 x, g_store _ _ _ _⟩
theorem slb_alloc {t : TypeId} {w : World} {L st : Nat} {dl gd : Int} (h : SlB t w L st dl gd) (o : Obj) : SlB t (w.alloc o) L st dl gd := b_blk ((Below.refl _ _).alloc (Nat.le_refl _) o) h
theorem g_alloc {a b : World} {L : Nat} (h : a.grownBy b (some L)) (o : Obj) : a.grownBy (b.alloc o) (some L) := g_below h ((Below.refl _ _).alloc (Nat.le_refl _) o)
theorem lit_1 {t : TypeId} {w w1 : World} {L st : Nat} {dl gd : Int} {R : Value → Value} {x : Int} {n c : Nat} (h : SlB t w1 L st dl gd) (g : w.grownBy w1 (some L)) (hn : n = w1.heap.size) :
    HPost t w L st dl gd [x] R (.returned (R (.slice (some ⟨n, 0, none⟩) 1 c))) (w1.alloc (.cells #[.int .i64 x] 3)) := by
  subst hn
  exact ⟨_, c, rfl, il_one (t := 3) (heap_alloc_new w1 _) g.size, slb_alloc h _, g_alloc g _⟩
theorem lit_2 {t : TypeId} {w w1 : World} {L st : Nat} {dl gd : Int} {R : Value → Value} {x y : Int} {n c : Nat} (h : SlB t w1 L st dl gd) (g : w.grownBy w1 (some L)) (hn : n = w1.heap.size) :
    HPost t w L st dl gd [x, y] R (.returned (R (.slice (some ⟨n, 0, none⟩) 2 c))) (w1.alloc (.cells #[.int .i64 x, .int .i64 y] 3)) := by
  subst hn
  exact ⟨_, c, rfl, il_two (t := 3) (heap_alloc_new w1 _) g.size, slb_alloc h _, g_alloc g _⟩
theorem rh_lit1 {t : TypeId} {w : World} {L st x : Nat} {dl gd y a : Int} (h : SlB t w L st dl gd) (hy : y = (x : Int)) : HPost t w L x dl gd [a] (withErr 0) (.returned (.tuple #[.slice (some ⟨w.heap.size, 0, none⟩) 1 1, .int .i64 0])) ((w.setCell ⟨L, 0, none⟩ (.int .i64 y)).alloc (.cells #[.int .i64 a] 3)) := by
  subst hy
  exact lit_1 (R := withErr 0) (h.set0 x) (g_store _ _ _ _) (by simp)
theorem rh_lit2 {t : TypeId} {w : World} {L st x : Nat} {dl gd y a b : Int} (h : SlB t w L st dl gd) (hy : y = (x : Int)) : HPost t w L x dl gd [a, b] (withErr 0) (.returned (.tuple #[.slice (some ⟨w.heap.size, 0, none⟩) 2 2, .int .i64 0])) ((w.setCell ⟨L, 0, none⟩ (.int .i64 y)).alloc (.cells #[.int .i64 a, .int .i64 b] 3)) := by
  subst hy
  exact lit_2 (R := withErr 0) (h.set0 x) (g_store _ _ _ _) (by simp)
set_option maxRecDepth 100000 in
set_option maxHeartbeats 8000000 in
theorem rhd_a (w : World) (L st : Nat) (dl gd ev now : Int) (h : SlB 39 w L st dl gd) (hs : okSt st) (he : ev = 1 ∨ ev = 2 ∨ ev = 4) :
    Calls Try.prog 13 #[.pointer (some ⟨L, 0, none⟩), .int .i64 ev, .int .u64 now] w (HPost 39 w L (hS st ev) dl (hG st ev dl gd now) (hA st ev) (withErr (hE st ev))) := by
  have c0 := h.c0
  have z0 := h.fz 0
  have hL := blk_lt h
  have H := Lib.hid h
  clear h
  rcases he with rfl | rfl | rfl <;> rcases hs with rfl | rfl | rfl | rfl | rfl | rfl
  all_goals
    go_enter Try.func13, Try.ntmps13
    go_wp2
    go_ret2
    first | exact rh_no H.out | exact rh_set H.out rfl | exact rh_lit1 H.out rfl | exact rh_lit2 H.out rfl
end Go.Proofs.Ytefciddekhmifaa
