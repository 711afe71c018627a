/- A call of the law. -/
import Derived.Test.YtmhabdpnakbfpaaAtt
namespace Go.Proofs.Ytmhabdpnakbfpaa
open Go.ChangeShapes Go.WideShapes Go.ChangeAt Go.RowKit Go.Deep Go.Joins

theorem loc_same {s t : WS} (h : Sm s t) : t.loc s.L s.X s.A s.c = t := by
  obtain ⟨L, X, A, c, n, q, ev, al, a, ar, rm, ck⟩ := t
  obtain ⟨h1, h2, h3, h4, h5⟩ := h
  simp only at h1 h2 h3 h4 h5
  subst h1 h2 h3 h4 h5
  rfl
theorem opq_of {w w' : World} {s : WS} {r : WS × Int} {e : Ending} (hS : Sm s r.1) (h : OpP w s r.1 (.int .i64 r.2) e w') : OpQ w s r e w' :=
  ⟨s.X, s.A, s.c, h.1, by rw [loc_same hS]; exact h.2.1, h.2.2, .inl rfl⟩
theorem OpQ.up {w w1 w' : World} {s : WS} {r : WS × Int} {e : Ending} (hb : Below w.heap.size w w1) (h : OpQ w1 s r e w') : OpQ w s r e w' := by
  obtain ⟨X, A, c, h1, h2, h3, h4⟩ := h
  refine ⟨X, A, c, h1, h2, (Chg.of_below hb _).trans h3, ?_⟩
  have := hb.size
  rcases h4 with h4 | h4
  · exact .inl h4
  · exact .inr (by omega)
theorem sm_act (s : WS) (i now : Int) : Sm s (actS s i now).1 := by
  unfold actS
  split
  · exact (sm_adv s now).trans ⟨rfl, rfl, rfl, rfl, rfl⟩
  · exact Sm.refl s
theorem sm_dea (s : WS) (i now : Int) : Sm s (deaS s i now).1 := by
  unfold deaS
  split
  · show Sm s (if _ then _ else _)
    split
    · exact (sm_adv s now).trans (sm_endS _ _)
    · exact sm_adv s now
  · exact Sm.refl s
theorem sm_sal (s : WS) (now a : Int) : Sm s (salS s now a).1 := by
  unfold salS
  split
  · exact ((sm_adv s now).trans (⟨rfl, rfl, rfl, rfl, rfl⟩ : Sm (adv s now) { adv s now with al := true, a := a })).trans (sm_adv _ now)
  · exact Sm.refl s
theorem sm_pul (s : WS) (i now hold : Int) : Sm s (pulS s i now hold).1 := by
  unfold pulS
  split
  · exact ((sm_adv s now).trans (sm_pulQ _ _ _)).trans (sm_adv _ now)
  · exact Sm.refl s
theorem sm_av (s : WS) (now : Int) : Sm s (avS s now).1 := by
  unfold avS
  split
  · exact sm_adv s now
  · exact Sm.refl s
/-- A call of kind m (below 9). -/
def doK (s : WS) (m : Nat) (x : Ar) : WS × Int :=
  if m = 0 ∨ m = 1 then actS s x.s x.t else if m = 2 then deaS s x.s x.t else if m = 3 ∨ m = 4 then pulS s x.s x.t x.o else if m = 5 then salS s x.t x.o else if m = 6 then avS s x.t else if m = 7 then armS s x.e x.t else (dis s, 0)
section
variable {w : World} {s : WS}
set_option maxRecDepth 20000 in
set_option maxHeartbeats 16000000 in
theorem do_any (h : Wk w s) (k : Int) (x : Ar) : Calls Try.prog 15 #[.pointer (some ⟨s.L, 0, none⟩), .int .i64 k, .agg x.cells] w (OpQ w s (doK s (modOf k 9) x)) := by
  have hm := (modOf_spec k 9 (by decide) (by decide)).2
  have M := Lib.hid (fun W => mod_any k 9 (by decide) (by decide) W)
  generalize modOf k 9 = m at *
  have b1 : Below w.heap.size w (w.alloc (.cells x.cells 34)) := bal (Below.refl _ _) _
  have h1 := h.below b1
  have z0 : (w.alloc (.cells x.cells 34)).cell? ⟨w.heap.size, 0, none⟩ = some (.int .i64 x.s) := (new_c w _ 34 0).trans rfl
  have z1 : (w.alloc (.cells x.cells 34)).cell? ⟨w.heap.size, 1, none⟩ = some (.int .u64 x.t) := (new_c w _ 34 1).trans rfl
  have z2 : (w.alloc (.cells x.cells 34)).cell? ⟨w.heap.size, 2, none⟩ = some (.int .u64 x.o) := (new_c w _ 34 2).trans rfl
  have z3 : (w.alloc (.cells x.cells 34)).cell? ⟨w.heap.size, 3, none⟩ = some (.int .i64 x.e) := (new_c w _ 34 3).trans rfl
  have hz : w.heap.size < (w.alloc (.cells x.cells 34)).heap.size := by simp
  have UP := Lib.hid (fun (r : WS × Int) (e : Ending) (w' : World) (hp : OpQ (w.alloc (.cells x.cells 34)) s r e w') => hp.up b1)
  clear b1 h
  unfold Ar.cells at *
  rcases (show m = 0 ∨ m = 1 ∨ m = 2 ∨ m = 3 ∨ m = 4 ∨ m = 5 ∨ m = 6 ∨ m = 7 ∨ m = 8 by omega) with rfl | rfl | rfl | rfl | rfl | rfl | rfl | rfl | rfl
  · have E : doK s 0 x = actS s x.s x.t := rfl
    have P := act_any h1 x.s x.t
    rw [E]
    clear E hm
    go_enter Try.func15, Try.ntmps15
    go_upto_region 1 with fail
    generalize w.alloc (.cells #[.int .i64 x.s, .int .u64 x.t, .int .u64 x.o, .int .i64 x.e] 34) = w1 at *
    go_wp2_with fail
    refine (M.out _).mono ?_
    rintro e w2 ⟨rfl, rfl⟩
    go_wp2_with fail
    refine P.mono ?_
    rintro e w5 ⟨rfl, hW5, hC5⟩
    have F : Hid (OpQ w s (actS s x.s x.t) (.returned (.int .i64 (actS s x.s x.t).2)) w5) := UP.out _ _ _ (opq_of (sm_act s _ _) ⟨rfl, hW5, hC5⟩)
    clear hW5 hC5 P UP z0 z1 z2 z3 h1
    generalize actS s x.s x.t = R at *
    go_wp2
    go_ret
    exact F.out
  · have E : doK s 1 x = actS s x.s x.t := rfl
    have P := act_any h1 x.s x.t
    rw [E]
    clear E hm
    go_enter Try.func15, Try.ntmps15
    go_upto_region 1 with fail
    generalize w.alloc (.cells #[.int .i64 x.s, .int .u64 x.t, .int .u64 x.o, .int .i64 x.e] 34) = w1 at *
    go_wp2_with fail
    refine (M.out _).mono ?_
    rintro e w2 ⟨rfl, rfl⟩
    go_wp2_with fail
    refine P.mono ?_
    rintro e w5 ⟨rfl, hW5, hC5⟩
    have F : Hid (OpQ w s (actS s x.s x.t) (.returned (.int .i64 (actS s x.s x.t).2)) w5) := UP.out _ _ _ (opq_of (sm_act s _ _) ⟨rfl, hW5, hC5⟩)
    clear hW5 hC5 P UP z0 z1 z2 z3 h1
    generalize actS s x.s x.t = R at *
    go_wp2
    go_ret
    exact F.out
  · have E : doK s 2 x = deaS s x.s x.t := rfl
    have P := dea_any h1 x.s x.t
    rw [E]
    clear E hm
    go_enter Try.func15, Try.ntmps15
    go_upto_region 1 with fail
    generalize w.alloc (.cells #[.int .i64 x.s, .int .u64 x.t, .int .u64 x.o, .int .i64 x.e] 34) = w1 at *
    go_wp2_with fail
    refine (M.out _).mono ?_
    rintro e w2 ⟨rfl, rfl⟩
    go_wp2_with fail
    refine P.mono ?_
    rintro e w5 ⟨rfl, hW5, hC5⟩
    have F : Hid (OpQ w s (deaS s x.s x.t) (.returned (.int .i64 (deaS s x.s x.t).2)) w5) := UP.out _ _ _ (opq_of (sm_dea s _ _) ⟨rfl, hW5, hC5⟩)
    clear hW5 hC5 P UP z0 z1 z2 z3 h1
    generalize deaS s x.s x.t = R at *
    go_wp2
    go_ret
    exact F.out
  · have E : doK s 3 x = pulS s x.s x.t x.o := rfl
    have P := pul_any h1 x.s x.t x.o
    rw [E]
    clear E hm
    go_enter Try.func15, Try.ntmps15
    go_upto_region 1 with fail
    generalize w.alloc (.cells #[.int .i64 x.s, .int .u64 x.t, .int .u64 x.o, .int .i64 x.e] 34) = w1 at *
    go_wp2_with fail
    refine (M.out _).mono ?_
    rintro e w2 ⟨rfl, rfl⟩
    go_wp2_with fail
    refine P.mono ?_
    rintro e w5 ⟨rfl, hW5, hC5⟩
    have F : Hid (OpQ w s (pulS s x.s x.t x.o) (.returned (.int .i64 (pulS s x.s x.t x.o).2)) w5) := UP.out _ _ _ (opq_of (sm_pul s _ _ _) ⟨rfl, hW5, hC5⟩)
    clear hW5 hC5 P UP z0 z1 z2 z3 h1
    generalize pulS s x.s x.t x.o = R at *
    go_wp2
    go_ret
    exact F.out
  · have E : doK s 4 x = pulS s x.s x.t x.o := rfl
    have P := pul_any h1 x.s x.t x.o
    rw [E]
    clear E hm
    go_enter Try.func15, Try.ntmps15
    go_upto_region 1 with fail
    generalize w.alloc (.cells #[.int .i64 x.s, .int .u64 x.t, .int .u64 x.o, .int .i64 x.e] 34) = w1 at *
    go_wp2_with fail
    refine (M.out _).mono ?_
    rintro e w2 ⟨rfl, rfl⟩
    go_wp2_with fail
    refine P.mono ?_
    rintro e w5 ⟨rfl, hW5, hC5⟩
    have F : Hid (OpQ w s (pulS s x.s x.t x.o) (.returned (.int .i64 (pulS s x.s x.t x.o).2)) w5) := UP.out _ _ _ (opq_of (sm_pul s _ _ _) ⟨rfl, hW5, hC5⟩)
    clear hW5 hC5 P UP z0 z1 z2 z3 h1
    generalize pulS s x.s x.t x.o = R at *
    go_wp2
    go_ret
    exact F.out
  · have E : doK s 5 x = salS s x.t x.o := rfl
    have P := sal_any h1 x.t x.o
    rw [E]
    clear E hm
    go_enter Try.func15, Try.ntmps15
    go_upto_region 1 with fail
    generalize w.alloc (.cells #[.int .i64 x.s, .int .u64 x.t, .int .u64 x.o, .int .i64 x.e] 34) = w1 at *
    go_wp2_with fail
    refine (M.out _).mono ?_
    rintro e w2 ⟨rfl, rfl⟩
    go_wp2_with fail
    refine P.mono ?_
    rintro e w5 ⟨rfl, hW5, hC5⟩
    have F : Hid (OpQ w s (salS s x.t x.o) (.returned (.int .i64 (salS s x.t x.o).2)) w5) := UP.out _ _ _ (opq_of (sm_sal s _ _) ⟨rfl, hW5, hC5⟩)
    clear hW5 hC5 P UP z0 z1 z2 z3 h1
    generalize salS s x.t x.o = R at *
    go_wp2
    go_ret
    exact F.out
  · have E : doK s 6 x = avS s x.t := rfl
    have P := avc_any h1 x.t
    rw [E]
    clear E hm
    go_enter Try.func15, Try.ntmps15
    go_upto_region 1 with fail
    generalize w.alloc (.cells #[.int .i64 x.s, .int .u64 x.t, .int .u64 x.o, .int .i64 x.e] 34) = w1 at *
    go_wp2_with fail
    refine (M.out _).mono ?_
    rintro e w2 ⟨rfl, rfl⟩
    go_wp2_with fail
    refine P.mono ?_
    rintro e w5 ⟨rfl, hW5, hC5⟩
    have F : Hid (OpQ w s (avS s x.t) (.returned (.int .i64 (avS s x.t).2)) w5) := UP.out _ _ _ (opq_of (sm_av s _) ⟨rfl, hW5, hC5⟩)
    clear hW5 hC5 P UP z0 z1 z2 z3 h1
    generalize avS s x.t = R at *
    go_wp2
    go_ret
    exact F.out
  · have E : doK s 7 x = armS s x.e x.t := rfl
    have P := arm_any h1 x.e x.t
    rw [E]
    clear E hm
    go_enter Try.func15, Try.ntmps15
    go_upto_region 1 with fail
    generalize w.alloc (.cells #[.int .i64 x.s, .int .u64 x.t, .int .u64 x.o, .int .i64 x.e] 34) = w1 at *
    go_wp2_with fail
    refine (M.out _).mono ?_
    rintro e w2 ⟨rfl, rfl⟩
    go_wp2_with fail
    refine P.mono ?_
    rintro e w5 ⟨X, A, cc, rfl, hW5, hC5, hX5⟩
    have F : Hid (OpQ w s (armS s x.e x.t) (.returned (.int .i64 (armS s x.e x.t).2)) w5) := UP.out _ _ _ ⟨X, A, cc, rfl, hW5, hC5, hX5⟩
    clear hW5 hC5 hX5 P UP z0 z1 z2 z3 h1
    generalize armS s x.e x.t = R at *
    go_wp2
    go_ret
    exact F.out
  · have E : doK s 8 x = (dis s, 0) := rfl
    have P := dis_any h1
    rw [E]
    clear E hm
    go_enter Try.func15, Try.ntmps15
    go_upto_region 1 with fail
    generalize w.alloc (.cells #[.int .i64 x.s, .int .u64 x.t, .int .u64 x.o, .int .i64 x.e] 34) = w1 at *
    go_wp2_with fail
    refine (M.out _).mono ?_
    rintro e w2 ⟨rfl, rfl⟩
    go_wp2_with fail
    refine P.mono ?_
    rintro e w5 ⟨rfl, hW5, hC5⟩
    have F : Hid (OpQ w s (dis s, 0) (.returned (.int .i64 0)) w5) := UP.out _ _ _ (opq_of (r := (dis s, 0)) ⟨rfl, rfl, rfl, rfl, rfl⟩ ⟨rfl, hW5, hC5⟩)
    clear hW5 hC5 P UP z0 z1 z2 z3 h1
    generalize dis s = R at *
    go_wp2
    go_ret
    exact F.out
end
end Go.Proofs.Ytmhabdpnakbfpaa
