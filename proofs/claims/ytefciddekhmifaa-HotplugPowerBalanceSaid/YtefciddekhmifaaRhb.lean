/- The reference's Handle: two more events. -/
import Derived.Test.YtefciddekhmifaaRhd
namespace Go.Proofs.Ytefciddekhmifaa
open Go.RowKit

set_option maxRecDepth 100000 in
set_option maxHeartbeats 8000000 in
theorem rhd_b (w : World) (L st : Nat) (dl gd ev now : Int) (h : SlB 39 w L st dl gd) (hs : okSt st) (he : ev = 5 ∨ ev = 6) :
    Calls Try.prog 13 #[.pointer (some ⟨L, 0, none⟩), .int .i64 ev, .int .u64 now] w (HPost 39 w L (hS st ev) dl (hG st ev dl gd now) (hA st ev) (withErr (hE st ev))) := by
  have c0 := h.c0
  have z0 := h.fz 0
  have hL := blk_lt h
  have H := Lib.hid h
  clear h
  rcases he with rfl | rfl <;> rcases hs with rfl | rfl | rfl | rfl | rfl | rfl
  all_goals
    go_enter Try.func13, Try.ntmps13
    go_wp2
    go_ret2
    first | exact rh_no H.out | exact rh_set H.out rfl | exact rh_lit1 H.out rfl | exact rh_lit2 H.out rfl | exact lit_1 (R := withErr 0) ((H.out.set0 1).set0 6) (g_then (g_store _ _ _ _) (g_store _ _ _ _)) (by simp) | exact lit_2 (R := withErr 0) ((H.out.set0 1).set0 6) (g_then (g_store _ _ _ _) (g_store _ _ _ _)) (by simp)
end Go.Proofs.Ytefciddekhmifaa
