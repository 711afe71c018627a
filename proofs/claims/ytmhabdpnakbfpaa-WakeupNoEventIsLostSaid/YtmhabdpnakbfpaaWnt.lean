/- A call of the reference. -/
import Derived.Test.YtmhabdpnakbfpaaRar
namespace Go.Proofs.Ytmhabdpnakbfpaa
open Go.ChangeShapes Go.WideShapes Go.ChangeAt Go.RowKit Go.Deep Go.Joins

theorem RoP.up {w w1 w' : World} {y : Ry} {s' : WS} {v : Value} {e : Ending} (hb : Below w.heap.size w w1) (h : RoP w1 y s' v e w') : RoP w y s' v e w' := ⟨h.1, h.2.1, (Chg.of_below hb _).trans h.2.2⟩
section
variable {w : World} {s : WS} {y : Ry}
set_option maxRecDepth 20000 in
set_option maxHeartbeats 16000000 in
theorem want_any (h : Rk w s y) (k : Int) (x : Ar) (ho : 0 ≤ x.o) : Calls Try.prog 16 #[.pointer (some ⟨y.L, 0, none⟩), .int .i64 k, .agg x.cells] w (RoP w y (doK s (modOf k 9) x).1 (.int .i64 (doK s (modOf k 9) x).2)) := by
  have hm := (modOf_spec k 9 (by decide) (by decide)).2
  have M := Lib.hid (fun W => mod_any k 9 (by decide) (by decide) W)
  generalize modOf k 9 = m at *
  have b1 : Below w.heap.size w (w.alloc (.cells x.cells 34)) := bal (Below.refl _ _) _
  have h1 := h.below b1
  have z0 : (w.alloc (.cells x.cells 34)).cell? ⟨w.heap.size, 0, none⟩ = some (.int .i64 x.s) := (new_c w _ 34 0).trans rfl
  have z1 : (w.alloc (.cells x.cells 34)).cell? ⟨w.heap.size, 1, none⟩ = some (.int .u64 x.t) := (new_c w _ 34 1).trans rfl
  have z2 : (w.alloc (.cells x.cells 34)).cell? ⟨w.heap.size, 2, none⟩ = some (.int .u64 x.o) := (new_c w _ 34 2).trans rfl
  have z3 : (w.alloc (.cells x.cells 34)).cell? ⟨w.heap.size, 3, none⟩ = some (.int .i64 x.e) := (new_c w _ 34 3).trans rfl
  have hz : w.heap.size < (w.alloc (.cells x.cells 34)).heap.size := by simp
  have UP := Lib.hid (fun (s' : WS) (v : Value) (e : Ending) (w' : World) (hp : RoP (w.alloc (.cells x.cells 34)) y s' v e w') => hp.up b1)
  clear b1 h
  unfold Ar.cells at *
  rcases (show m = 0 ∨ m = 1 ∨ m = 2 ∨ m = 3 ∨ m = 4 ∨ m = 5 ∨ m = 6 ∨ m = 7 ∨ m = 8 by omega) with rfl | rfl | rfl | rfl | rfl | rfl | rfl | rfl | rfl
  · have E : doK s 0 x = actS s x.s x.t := rfl
    have P := ract_any h1 x.s x.t
    rw [E]
    clear E hm
    go_enter Try.func16, Try.ntmps16
    go_upto_region 1 with fail
    generalize w.alloc (.cells #[.int .i64 x.s, .int .u64 x.t, .int .u64 x.o, .int .i64 x.e] 34) = w1 at *
    go_wp2_with fail
    refine (M.out _).mono ?_
    rintro e w2 ⟨rfl, rfl⟩
    go_wp2_with fail
    refine P.mono ?_
    intro e w5 hp
    obtain ⟨he, hW5, hC5⟩ := UP.out _ _ _ _ hp
    subst he
    have F : Hid (RoP w y (actS s x.s x.t).1 (.int .i64 (actS s x.s x.t).2) (.returned (.int .i64 (actS s x.s x.t).2)) w5) := ⟨rfl, hW5, hC5⟩
    clear hp hW5 hC5 P UP z0 z1 z2 z3 h1
    generalize actS s x.s x.t = R at *
    go_wp2
    go_ret
    exact F.out
  · have E : doK s 1 x = actS s x.s x.t := rfl
    have P := ract_any h1 x.s x.t
    rw [E]
    clear E hm
    go_enter Try.func16, Try.ntmps16
    go_upto_region 1 with fail
    generalize w.alloc (.cells #[.int .i64 x.s, .int .u64 x.t, .int .u64 x.o, .int .i64 x.e] 34) = w1 at *
    go_wp2_with fail
    refine (M.out _).mono ?_
    rintro e w2 ⟨rfl, rfl⟩
    go_wp2_with fail
    refine P.mono ?_
    intro e w5 hp
    obtain ⟨he, hW5, hC5⟩ := UP.out _ _ _ _ hp
    subst he
    have F : Hid (RoP w y (actS s x.s x.t).1 (.int .i64 (actS s x.s x.t).2) (.returned (.int .i64 (actS s x.s x.t).2)) w5) := ⟨rfl, hW5, hC5⟩
    clear hp hW5 hC5 P UP z0 z1 z2 z3 h1
    generalize actS s x.s x.t = R at *
    go_wp2
    go_ret
    exact F.out
  · have E : doK s 2 x = deaS s x.s x.t := rfl
    have P := rdea_any h1 x.s x.t
    rw [E]
    clear E hm
    go_enter Try.func16, Try.ntmps16
    go_upto_region 1 with fail
    generalize w.alloc (.cells #[.int .i64 x.s, .int .u64 x.t, .int .u64 x.o, .int .i64 x.e] 34) = w1 at *
    go_wp2_with fail
    refine (M.out _).mono ?_
    rintro e w2 ⟨rfl, rfl⟩
    go_wp2_with fail
    refine P.mono ?_
    intro e w5 hp
    obtain ⟨he, hW5, hC5⟩ := UP.out _ _ _ _ hp
    subst he
    have F : Hid (RoP w y (deaS s x.s x.t).1 (.int .i64 (deaS s x.s x.t).2) (.returned (.int .i64 (deaS s x.s x.t).2)) w5) := ⟨rfl, hW5, hC5⟩
    clear hp hW5 hC5 P UP z0 z1 z2 z3 h1
    generalize deaS s x.s x.t = R at *
    go_wp2
    go_ret
    exact F.out
  · have E : doK s 3 x = pulS s x.s x.t x.o := rfl
    have P := rpul_any h1 x.s x.t x.o ho
    rw [E]
    clear E hm
    go_enter Try.func16, Try.ntmps16
    go_upto_region 1 with fail
    generalize w.alloc (.cells #[.int .i64 x.s, .int .u64 x.t, .int .u64 x.o, .int .i64 x.e] 34) = w1 at *
    go_wp2_with fail
    refine (M.out _).mono ?_
    rintro e w2 ⟨rfl, rfl⟩
    go_wp2_with fail
    refine P.mono ?_
    intro e w5 hp
    obtain ⟨he, hW5, hC5⟩ := UP.out _ _ _ _ hp
    subst he
    have F : Hid (RoP w y (pulS s x.s x.t x.o).1 (.int .i64 (pulS s x.s x.t x.o).2) (.returned (.int .i64 (pulS s x.s x.t x.o).2)) w5) := ⟨rfl, hW5, hC5⟩
    clear hp hW5 hC5 P UP z0 z1 z2 z3 h1
    generalize pulS s x.s x.t x.o = R at *
    go_wp2
    go_ret
    exact F.out
  · have E : doK s 4 x = pulS s x.s x.t x.o := rfl
    have P := rpul_any h1 x.s x.t x.o ho
    rw [E]
    clear E hm
    go_enter Try.func16, Try.ntmps16
    go_upto_region 1 with fail
    generalize w.alloc (.cells #[.int .i64 x.s, .int .u64 x.t, .int .u64 x.o, .int .i64 x.e] 34) = w1 at *
    go_wp2_with fail
    refine (M.out _).mono ?_
    rintro e w2 ⟨rfl, rfl⟩
    go_wp2_with fail
    refine P.mono ?_
    intro e w5 hp
    obtain ⟨he, hW5, hC5⟩ := UP.out _ _ _ _ hp
    subst he
    have F : Hid (RoP w y (pulS s x.s x.t x.o).1 (.int .i64 (pulS s x.s x.t x.o).2) (.returned (.int .i64 (pulS s x.s x.t x.o).2)) w5) := ⟨rfl, hW5, hC5⟩
    clear hp hW5 hC5 P UP z0 z1 z2 z3 h1
    generalize pulS s x.s x.t x.o = R at *
    go_wp2
    go_ret
    exact F.out
  · have E : doK s 5 x = salS s x.t x.o := rfl
    have P := rsal_any h1 x.t x.o
    rw [E]
    clear E hm
    go_enter Try.func16, Try.ntmps16
    go_upto_region 1 with fail
    generalize w.alloc (.cells #[.int .i64 x.s, .int .u64 x.t, .int .u64 x.o, .int .i64 x.e] 34) = w1 at *
    go_wp2_with fail
    refine (M.out _).mono ?_
    rintro e w2 ⟨rfl, rfl⟩
    go_wp2_with fail
    refine P.mono ?_
    intro e w5 hp
    obtain ⟨he, hW5, hC5⟩ := UP.out _ _ _ _ hp
    subst he
    have F : Hid (RoP w y (salS s x.t x.o).1 (.int .i64 (salS s x.t x.o).2) (.returned (.int .i64 (salS s x.t x.o).2)) w5) := ⟨rfl, hW5, hC5⟩
    clear hp hW5 hC5 P UP z0 z1 z2 z3 h1
    generalize salS s x.t x.o = R at *
    go_wp2
    go_ret
    exact F.out
  · have E : doK s 6 x = avS s x.t := rfl
    have P := ravc_any h1 x.t
    rw [E]
    clear E hm
    go_enter Try.func16, Try.ntmps16
    go_upto_region 1 with fail
    generalize w.alloc (.cells #[.int .i64 x.s, .int .u64 x.t, .int .u64 x.o, .int .i64 x.e] 34) = w1 at *
    go_wp2_with fail
    refine (M.out _).mono ?_
    rintro e w2 ⟨rfl, rfl⟩
    go_wp2_with fail
    refine P.mono ?_
    intro e w5 hp
    obtain ⟨he, hW5, hC5⟩ := UP.out _ _ _ _ hp
    subst he
    have F : Hid (RoP w y (avS s x.t).1 (.int .i64 (avS s x.t).2) (.returned (.int .i64 (avS s x.t).2)) w5) := ⟨rfl, hW5, hC5⟩
    clear hp hW5 hC5 P UP z0 z1 z2 z3 h1
    generalize avS s x.t = R at *
    go_wp2
    go_ret
    exact F.out
  · have E : doK s 7 x = armS s x.e x.t := rfl
    have P := rarm_any h1 x.e x.t
    rw [E]
    clear E hm
    go_enter Try.func16, Try.ntmps16
    go_upto_region 1 with fail
    generalize w.alloc (.cells #[.int .i64 x.s, .int .u64 x.t, .int .u64 x.o, .int .i64 x.e] 34) = w1 at *
    go_wp2_with fail
    refine (M.out _).mono ?_
    rintro e w2 ⟨rfl, rfl⟩
    go_wp2_with fail
    refine P.mono ?_
    intro e w5 hp
    obtain ⟨he, hW5, hC5⟩ := UP.out _ _ _ _ hp
    subst he
    have F : Hid (RoP w y (armS s x.e x.t).1 (.int .i64 (armS s x.e x.t).2) (.returned (.int .i64 (armS s x.e x.t).2)) w5) := ⟨rfl, hW5, hC5⟩
    clear hp hW5 hC5 P UP z0 z1 z2 z3 h1
    generalize armS s x.e x.t = R at *
    go_wp2
    go_ret
    exact F.out
  · have E : doK s 8 x = (dis s, 0) := rfl
    have P := rdis_any h1
    rw [E]
    clear E hm
    go_enter Try.func16, Try.ntmps16
    go_upto_region 1 with fail
    generalize w.alloc (.cells #[.int .i64 x.s, .int .u64 x.t, .int .u64 x.o, .int .i64 x.e] 34) = w1 at *
    go_wp2_with fail
    refine (M.out _).mono ?_
    rintro e w2 ⟨rfl, rfl⟩
    go_wp2_with fail
    refine P.mono ?_
    intro e w5 hp
    obtain ⟨he, hW5, hC5⟩ := UP.out _ _ _ _ hp
    subst he
    have F : Hid (RoP w y (dis s) (.int .i64 0) (.returned (.int .i64 0)) w5) := ⟨rfl, hW5, hC5⟩
    clear hp hW5 hC5 P UP z0 z1 z2 z3 h1
    generalize dis s = R at *
    go_wp2
    go_ret
    exact F.out
end
end Go.Proofs.Ytmhabdpnakbfpaa
