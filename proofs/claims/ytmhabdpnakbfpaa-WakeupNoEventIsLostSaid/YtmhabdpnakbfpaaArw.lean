/- Arm: the walk. -/
import Derived.Test.YtmhabdpnakbfpaaArm
namespace Go.Proofs.Ytmhabdpnakbfpaa
open Go.ChangeShapes Go.WideShapes Go.ChangeAt Go.RowKit Go.Deep Go.Joins

/-- The world in which the sources at u are copied to the place L. -/
def cpy (w : World) (L : Nat) (u : WS) : World := ((((((w.setCell ⟨L, 0, none⟩ (.slice u.A u.n u.c)).setCell ⟨L, 1, none⟩ (.int .i64 u.ev)).setCell ⟨L, 2, none⟩ (.bool u.al)).setCell ⟨L, 3, none⟩ (.int .u64 u.a)).setCell ⟨L, 4, none⟩ (.bool u.ar)).setCell ⟨L, 5, none⟩ (.int .i64 u.rm)).setCell ⟨L, 6, none⟩ (.int .u64 u.ck)
set_option maxHeartbeats 2000000 in
theorem set7 (w : World) (L : Nat) (v0 v1 v2 v3 v4 v5 v6 u0 u1 u2 u3 u4 u5 u6 : Value) (h0 : w.cell? ⟨L, 0, none⟩ = some u0) (h1 : w.cell? ⟨L, 1, none⟩ = some u1) (h2 : w.cell? ⟨L, 2, none⟩ = some u2) (h3 : w.cell? ⟨L, 3, none⟩ = some u3) (h4 : w.cell? ⟨L, 4, none⟩ = some u4) (h5 : w.cell? ⟨L, 5, none⟩ = some u5) (h6 : w.cell? ⟨L, 6, none⟩ = some u6) (W : World)
    (hW : W = ((((((w.setCell ⟨L, 0, none⟩ v0).setCell ⟨L, 1, none⟩ v1).setCell ⟨L, 2, none⟩ v2).setCell ⟨L, 3, none⟩ v3).setCell ⟨L, 4, none⟩ v4).setCell ⟨L, 5, none⟩ v5).setCell ⟨L, 6, none⟩ v6) :
    W.cell? ⟨L, 0, none⟩ = some v0 ∧ W.cell? ⟨L, 1, none⟩ = some v1 ∧ W.cell? ⟨L, 2, none⟩ = some v2 ∧ W.cell? ⟨L, 3, none⟩ = some v3 ∧ W.cell? ⟨L, 4, none⟩ = some v4 ∧ W.cell? ⟨L, 5, none⟩ = some v5 ∧ W.cell? ⟨L, 6, none⟩ = some v6 := by
  have st : ∀ (w : World) (k : Nat) (v u : Value) (g : Nat → Value), w.cell? ⟨L, k, none⟩ = some u → (∀ j, j < 7 → w.cell? ⟨L, j, none⟩ = some (g j)) → ∀ j, j < 7 → (w.setCell ⟨L, k, none⟩ v).cell? ⟨L, j, none⟩ = some (if j = k then v else g j) := fun w k v u g hk hg j hj => by
    by_cases e : j = k
    · rw [if_pos e, e]; exact set_same w L k v u hk
    · rw [if_neg e]; exact set_off w L k j v (g j) e (hg j hj)
  have a0 : ∀ j, j < 7 → w.cell? ⟨L, j, none⟩ = some ((fun j => if j = 0 then u0 else if j = 1 then u1 else if j = 2 then u2 else if j = 3 then u3 else if j = 4 then u4 else if j = 5 then u5 else u6) j) := fun j hj => by
    rcases (show j = 0 ∨ j = 1 ∨ j = 2 ∨ j = 3 ∨ j = 4 ∨ j = 5 ∨ j = 6 by omega) with rfl | rfl | rfl | rfl | rfl | rfl | rfl <;> assumption
  generalize (fun j => if j = 0 then u0 else if j = 1 then u1 else if j = 2 then u2 else if j = 3 then u3 else if j = 4 then u4 else if j = 5 then u5 else u6) = g0 at a0
  have a1 := st _ 0 v0 _ _ (a0 0 (by decide)) a0
  have a2 := st _ 1 v1 _ _ (a1 1 (by decide)) a1
  have a3 := st _ 2 v2 _ _ (a2 2 (by decide)) a2
  have a4 := st _ 3 v3 _ _ (a3 3 (by decide)) a3
  have a5 := st _ 4 v4 _ _ (a4 4 (by decide)) a4
  have a6 := st _ 5 v5 _ _ (a5 5 (by decide)) a5
  have a7 := st _ 6 v6 _ _ (a6 6 (by decide)) a6
  rw [← hW] at a7
  exact ⟨a7 0 (by decide), a7 1 (by decide), a7 2 (by decide), a7 3 (by decide), a7 4 (by decide), a7 5 (by decide), a7 6 (by decide)⟩
theorem far_eq (w : World) (b j x i : Nat) (v : Value) (h : x ≠ b) : (w.setCell ⟨b, j, none⟩ v).cell? ⟨x, i, none⟩ = w.cell? ⟨x, i, none⟩ := World.cell?_setCell_other w _ _ _ (fun e => h (by injection e with e2 _; exact e2.symm))
theorem far7 (w : World) (L b j : Nat) (v0 v1 v2 v3 v4 v5 v6 : Value) (h : b ≠ L) (W : World) (hW : W = ((((((w.setCell ⟨L, 0, none⟩ v0).setCell ⟨L, 1, none⟩ v1).setCell ⟨L, 2, none⟩ v2).setCell ⟨L, 3, none⟩ v3).setCell ⟨L, 4, none⟩ v4).setCell ⟨L, 5, none⟩ v5).setCell ⟨L, 6, none⟩ v6) : W.cell? ⟨b, j, none⟩ = w.cell? ⟨b, j, none⟩ := by
  rw [hW, far_eq _ _ _ _ _ _ h, far_eq _ _ _ _ _ _ h, far_eq _ _ _ _ _ _ h, far_eq _ _ _ _ _ _ h, far_eq _ _ _ _ _ _ h, far_eq _ _ _ _ _ _ h, far_eq _ _ _ _ _ _ h]
theorem wk_cpy {w : World} {s u : WS} (hs : Wk w s) (hu : Wk w u) (hX : 0 < u.n → u.X ≠ s.L) : Wk (cpy w s.L u) (u.loc s.L u.X u.A u.c) := by
  have F : ∀ a, (cpy w s.L u).frozen? a = w.frozen? a := fun a => by
    unfold cpy
    simp only [World.frozen?_setCell]
  have S : (cpy w s.L u).heap.size = w.heap.size := by unfold cpy; simp
  have C : ∀ b j, b ≠ s.L → (cpy w s.L u).cell? ⟨b, j, none⟩ = w.cell? ⟨b, j, none⟩ := fun b j hb => far7 w s.L b j _ _ _ _ _ _ _ hb _ rfl
  obtain ⟨d0, d1, d2, d3, d4, d5, d6⟩ := set7 w s.L _ _ _ _ _ _ _ _ _ _ _ _ _ _ hs.c0 hs.c1 hs.c2 hs.c3 hs.c4 hs.c5 hs.c6 (cpy w s.L u) rfl
  refine ⟨d0, d1, d2, d3, d4, d5, d6, fun j => (F _).trans (hs.fL j), fun h0 j => (F _).trans (hu.fX h0 j), (by show s.L < _; rw [S]; exact hs.lL), (fun h0 => by show u.X < _; rw [S]; exact hu.lX h0), hX, hu.hn, hu.row, fun i hi => ?_⟩
  · have hi : i < u.n := hi
    have hb := hX (Nat.zero_lt_of_lt hi)
    obtain ⟨x0, x1, x2⟩ := hu.src i hi
    exact ⟨(C _ _ hb).trans x0, (C _ _ hb).trans x1, (C _ _ hb).trans x2⟩
theorem cw_cpy {w w' : World} {s : WS} (h : CW s w w') (u : WS) : CW s w (cpy w' s.L u) := cw_setL _ _ (cw_setL _ _ (cw_setL _ _ (cw_setL _ _ (cw_setL _ _ (cw_setL _ _ (cw_setL _ _ h))))))
section
variable {w : World} {s : WS}
/-- The copy, once its slice is stored. -/
theorem wk_later {w1 w2 : World} (h1 : Wk w1 s) (Y : Nat) (hY : Y < w1.heap.size) {X : Nat} {A : Option Addr} {c : Nat} (hb : Below w1.heap.size w1 w2)
    (z : ∀ j, w1.frozen? ⟨Y, j, none⟩ = false) (z0 : w1.cell? ⟨Y, 0, none⟩ = some (.slice s.A s.n s.c)) (z1 : w1.cell? ⟨Y, 1, none⟩ = some (.int .i64 s.ev)) (z2 : w1.cell? ⟨Y, 2, none⟩ = some (.bool s.al)) (z3 : w1.cell? ⟨Y, 3, none⟩ = some (.int .u64 s.a)) (z4 : w1.cell? ⟨Y, 4, none⟩ = some (.bool s.ar)) (z5 : w1.cell? ⟨Y, 5, none⟩ = some (.int .i64 s.rm)) (z6 : w1.cell? ⟨Y, 6, none⟩ = some (.int .u64 s.ck))
    (hr : A = some ⟨X, 0, none⟩ ∨ (s.n = 0 ∧ A = none ∧ c = 0))
    (hq : 0 < s.n → w1.heap.size ≤ X ∧ X < w2.heap.size ∧ (∀ j, w2.frozen? ⟨X, j, none⟩ = false) ∧ ∀ i, i < s.n → w2.cell? ⟨X, i * 3, none⟩ = some (.bool (s.q i).on) ∧ w2.cell? ⟨X, i * 3 + 1, none⟩ = some (.bool (s.q i).hd) ∧ w2.cell? ⟨X, i * 3 + 2, none⟩ = some (.int .u64 (s.q i).t)) :
    Wk (w2.setCell ⟨Y, 0, none⟩ (.slice A s.n c)) (s.loc Y X A c) := by
  have cy : ∀ j v, w1.cell? ⟨Y, j, none⟩ = some v → w2.cell? ⟨Y, j, none⟩ = some v := fun j v hv => (hb.cell (p := ⟨Y, j, none⟩) (by exact hY)).trans hv
  have hXY : 0 < s.n → X ≠ Y := fun h0 => by have := (hq h0).1; omega
  refine ⟨set_same _ _ _ _ _ (cy _ _ z0), set_off _ _ _ _ _ _ (by decide) (cy _ _ z1), set_off _ _ _ _ _ _ (by decide) (cy _ _ z2), set_off _ _ _ _ _ _ (by decide) (cy _ _ z3), set_off _ _ _ _ _ _ (by decide) (cy _ _ z4), set_off _ _ _ _ _ _ (by decide) (cy _ _ z5), set_off _ _ _ _ _ _ (by decide) (cy _ _ z6),
    fun j => (World.frozen?_setCell _ _ _ _).trans ((hb.frozen (p := ⟨Y, j, none⟩) (by exact hY)).trans (z j)), fun h0 j => (World.frozen?_setCell _ _ _ _).trans ((hq h0).2.2.1 j), ?_, fun h0 => ?_, hXY, h1.hn, hr, fun i hi => ?_⟩
  · show Y < _; have := hb.size; simp; omega
  · show X < _; have := (hq h0).2.1; simpa using this
  · have hi : i < s.n := hi
    obtain ⟨x0, x1, x2⟩ := (hq (by omega)).2.2.2 i hi
    have hb' := hXY (by omega)
    exact ⟨set_far _ _ _ _ _ _ _ hb' x0, set_far _ _ _ _ _ _ _ hb' x1, set_far _ _ _ _ _ _ _ hb' x2⟩
set_option maxRecDepth 20000 in
set_option maxHeartbeats 8000000 in
theorem arm_any (h : Wk w s) (ev now : Int) : Calls Try.prog 25 #[.pointer (some ⟨s.L, 0, none⟩), .int .i64 ev, .int .u64 now] w (OpQ w s (armS s ev now)) := by
  have P := Lib.hid (vt_any h now)
  have H := Lib.hid h
  cases hv : vtB s now with
  | false =>
    have E0 : armS s ev now = (s, 1) := by unfold armS; rw [hv]; rfl
    rw [hv] at P
    have F : Hid (OpQ w s (armS s ev now) (.returned (.int .i64 1)) w) := by rw [E0]; exact ⟨s.X, s.A, s.c, rfl, h, cw_refl, .inl rfl⟩
    generalize armS s ev now = R at *
    clear h hv E0 H
    go_enter Try.func25, Try.ntmps25
    go_wp2_with fail
    refine P.out.mono ?_
    clear P
    rintro e w2 ⟨rfl, rfl⟩
    go_wp2
    go_ret
    exact F.out
  | true =>
    have EB : Hid (¬ ((adv s now).ev = ev ∧ cnt (adv s now) = 0) → armS s ev now = (s, 17)) := fun e => by unfold armS; rw [hv, if_pos rfl, if_neg e]
    have EY : Hid ((adv s now).ev = ev ∧ cnt (adv s now) = 0 → armS s ev now = ({ adv s now with ar := true, rm := ev }, 0)) := fun e => by unfold armS; rw [hv, if_pos rfl, if_pos e]
    rw [hv] at P
    generalize armS s ev now = R at *
    have c0 := h.c0
    have c1 := h.c1
    have c2 := h.c2
    have c3 := h.c3
    have c4 := h.c4
    have c5 := h.c5
    have c6 := h.c6
    have lL := h.lL
    have b1 : Below w.heap.size w (w.alloc (.cells #[.slice s.A s.n s.c, .int .i64 s.ev, .bool s.al, .int .u64 s.a, .bool s.ar, .int .i64 s.rm, .int .u64 s.ck] 60)) := bal (Below.refl _ _) _
    have z : ∀ j, (w.alloc (.cells #[.slice s.A s.n s.c, .int .i64 s.ev, .bool s.al, .int .u64 s.a, .bool s.ar, .int .i64 s.rm, .int .u64 s.ck] 60)).cell? ⟨w.heap.size, j, none⟩ = (#[.slice s.A s.n s.c, .int .i64 s.ev, .bool s.al, .int .u64 s.a, .bool s.ar, .int .i64 s.rm, .int .u64 s.ck] : Array Value)[j]? := fun j => new_c w _ 60 j
    have zf : ∀ j, (w.alloc (.cells #[.slice s.A s.n s.c, .int .i64 s.ev, .bool s.al, .int .u64 s.a, .bool s.ar, .int .i64 s.rm, .int .u64 s.ck] 60)).frozen? ⟨w.heap.size, j, none⟩ = false := fun j => World.frozen?_alloc_new w _ _ j
    have hY : w.heap.size < (w.alloc (.cells #[.slice s.A s.n s.c, .int .i64 s.ev, .bool s.al, .int .u64 s.a, .bool s.ar, .int .i64 s.rm, .int .u64 s.ck] 60)).heap.size := by simp
    have z0 := (z 0).trans rfl
    have LT := Lib.hid (fun X A c w2 (hb : Below _ _ w2) hr hq => wk_later (X := X) (A := A) (c := c) (h.below b1) w.heap.size hY hb zf ((z 0).trans rfl) ((z 1).trans rfl) ((z 2).trans rfl) ((z 3).trans rfl) ((z 4).trans rfl) ((z 5).trans rfl) ((z 6).trans rfl) hr hq)
    have H1 := Lib.hid (h.below b1)
    have HB1 := Lib.hid b1
    have ZF := Lib.hid zf
    clear h hv z zf b1
    go_enter Try.func25, Try.ntmps25
    go_wp2_with fail
    refine P.out.mono ?_
    clear P
    rintro e w2 ⟨rfl, rfl⟩
    go_upto_region 4 with fail
    generalize w.alloc (.cells #[.slice s.A s.n s.c, .int .i64 s.ev, .bool s.al, .int .u64 s.a, .bool s.ar, .int .i64 s.rm, .int .u64 s.ck] 60) = w1 at *
    generalize hYe : w.heap.size = Y at z0 hY LT ZF ⊢
    have HYE := Lib.hid hYe
    clear c0 c1 c2 c3 c4 c5 c6 hYe
    have c0 := H1.out.c0
    have lL1 := H1.out.lL
    go_wp2_with (at_builtin; refine wpList_copyQ rfl (.const (.slice none 0 0)) (.tmp 20) rfl s rfl rfl H1.out ?_)
    rintro v' w2 ⟨X, A, c, rfl, hb2, hr, hX0, hq⟩
    have W3 := LT.out X A c w2 hb2 hr hq
    have z0 := (hb2.cell (p := ⟨Y, 0, none⟩) (by exact hY)).trans z0
    have zf := (hb2.frozen (p := ⟨Y, 0, none⟩) (by exact hY)).trans (ZF.out 0)
    have hY2 : Y < w2.heap.size := by have := hb2.size; omega
    have B3 : Below w.heap.size w (w2.setCell ⟨Y, 0, none⟩ (.slice A s.n c)) := bel_only (bel2 HB1.out hb2) (g_store _ _ _ _) (by have := HYE.out; omega)
    have XB := Lib.hid (show X = s.X ∧ s.n = 0 ∨ 0 < s.n ∧ Y < X by
      rcases Nat.eq_zero_or_pos s.n with h0 | h0
      · exact .inl ⟨hX0 h0, h0⟩
      · exact .inr ⟨h0, by have := (hq h0).1; omega⟩)
    have HB3 := Lib.hid B3
    have HW3 := Lib.hid W3
    clear hb2 hr hX0 hq W3 B3 c0 lL1 H1 HB1 LT ZF hY
    go_upto_region 5 with fail
    generalize w2.setCell ⟨Y, 0, none⟩ (.slice A s.n c) = w3 at *
    clear z0 zf hY2
    have PA := adv_any HW3.out now
    rw [adv_loc] at PA
    have PA : Calls Try.prog 37 #[.pointer (some ⟨Y, 0, none⟩), .int .u64 now] w3 (OpP w3 (s.loc Y X A c) ((adv s now).loc Y X A c) (.tuple #[])) := PA
    have S := Lib.hid (sm_adv s now)
    generalize adv s now = t at *
    go_wp2_with fail
    refine PA.mono ?_
    clear PA
    rintro e w4 ⟨rfl, hW4, hC4⟩
    have B4 : Hid (Below w.heap.size w w4) := Below.chg HB3.out hC4 HB3.out.size (fun b hb => by
      rcases hb with hb | ⟨hb, h0⟩
      · have : b = Y := hb
        have := HYE.out; omega
      · have hb : b = X := hb
        have h0 : 0 < s.n := h0
        have := HYE.out
        rcases XB.out with ⟨_, h1⟩ | ⟨_, h1⟩ <;> omega)
    have HW4 := Lib.hid hW4
    have PC := cnt_any hW4
    have PC : Calls Try.prog 17 #[.pointer (some ⟨Y, 0, none⟩)] w4 (QuP w4 (.tuple #[.int .i64 t.ev, .int .i64 (cnt (t.loc Y X A c))])) := PC
    rw [show cnt (t.loc Y X A c) = cnt t from cnt_loc t Y X A c] at PC
    clear hW4 hC4 HW3 HB3
    generalize hct : cnt t = ct at *
    go_wp2_with fail
    refine PC.mono ?_
    clear PC
    rintro e w5 ⟨rfl, hb5⟩
    have B5 := Lib.hid (bel2 B4.out hb5)
    have HW5 := Lib.hid (HW4.out.below hb5)
    clear hb5 B4 HW4 hct
    have HS5 := Lib.hid (H.out.below B5.out)
    have FB : Hid (R = (s, 17) → OpQ w s R (.returned (.int .i64 17)) w5) := fun e => by rw [e]; exact ⟨s.X, s.A, s.c, rfl, HS5.out, Chg.of_below B5.out _, .inl rfl⟩
    by_cases he : t.ev = ev
    · have q1 : (t.ev != ev) = false := by rw [he]; exact bne_self_eq_false ev
      by_cases h0 : ct = 0
      · have ER := Lib.hid (EY.out ⟨he, h0⟩)
        have q2 : ¬ (0 : Int) < (ct : Int) := by omega
        clear EY EB FB
        have d4 := HW5.out.c4
        have d5 := HW5.out.c5
        have f4 := HW5.out.fL 4
        have f5 := HW5.out.fL 5
        have lY := HW5.out.lL
        have d4 : w5.cell? ⟨Y, 4, none⟩ = some (.bool t.ar) := d4
        have d5 : w5.cell? ⟨Y, 5, none⟩ = some (.int .i64 t.rm) := d5
        have f4 : w5.frozen? ⟨Y, 4, none⟩ = false := f4
        have f5 : w5.frozen? ⟨Y, 5, none⟩ = false := f5
        have lY : Y < w5.heap.size := lY
        have W6 := (HW5.out.setL 4 (.bool true) { t.loc Y X A c with ar := true } ⟨rfl, rfl, rfl, rfl, rfl, rfl⟩ (by decide) rfl rfl rfl rfl rfl rfl).setL 5 (.int .i64 ev) { t.loc Y X A c with ar := true, rm := ev } ⟨rfl, rfl, rfl, rfl, rfl, rfl⟩ (by decide) rfl rfl rfl rfl rfl rfl
        have W6 : Wk ((w5.setCell ⟨Y, 4, none⟩ (.bool true)).setCell ⟨Y, 5, none⟩ (.int .i64 ev)) { t.loc Y X A c with ar := true, rm := ev } := W6
        have B6 : Below w.heap.size w ((w5.setCell ⟨Y, 4, none⟩ (.bool true)).setCell ⟨Y, 5, none⟩ (.int .i64 ev)) := bel_only B5.out (g_then (g_store _ _ _ _) (g_store _ _ _ _)) (by have := HYE.out; omega)
        have HB6 := Lib.hid B6
        have HW6 := Lib.hid W6
        clear W6 B6 HW5 HS5 B5 he h0
        go_upto_region 10 with fail
        generalize (w5.setCell ⟨Y, 4, none⟩ (.bool true)).setCell ⟨Y, 5, none⟩ (.int .i64 ev) = w6 at *
        clear d4 d5 f4 f5 lY q1 q2
        have HS6 := H.out.below HB6.out
        have F : Hid (OpQ w s R (.returned (.int .i64 0)) (cpy w6 s.L { t.loc Y X A c with ar := true, rm := ev })) := by
          rw [ER.out]
          have hXL : 0 < t.n → X ≠ s.L := fun h1 => by
            have hn : t.n = s.n := S.out.n
            have := HYE.out
            rcases XB.out with ⟨_, h2⟩ | ⟨_, h2⟩ <;> omega
          refine ⟨X, A, c, rfl, wk_cpy HS6 HW6.out hXL, cw_cpy (Chg.of_below HB6.out _) _, ?_⟩
          have := HYE.out
          rcases XB.out with ⟨h2, _⟩ | ⟨_, h2⟩
          · exact .inl h2
          · exact .inr (by omega)
        have y0 : w6.cell? ⟨Y, 0, none⟩ = some (.slice A t.n c) := HW6.out.c0
        have y1 : w6.cell? ⟨Y, 1, none⟩ = some (.int .i64 t.ev) := HW6.out.c1
        have y2 : w6.cell? ⟨Y, 2, none⟩ = some (.bool t.al) := HW6.out.c2
        have y3 : w6.cell? ⟨Y, 3, none⟩ = some (.int .u64 t.a) := HW6.out.c3
        have y4 : w6.cell? ⟨Y, 4, none⟩ = some (.bool true) := HW6.out.c4
        have y5 : w6.cell? ⟨Y, 5, none⟩ = some (.int .i64 ev) := HW6.out.c5
        have y6 : w6.cell? ⟨Y, 6, none⟩ = some (.int .u64 t.ck) := HW6.out.c6
        have x0 := HS6.c0
        have x1 := HS6.c1
        have x2 := HS6.c2
        have x3 := HS6.c3
        have x4 := HS6.c4
        have x5 := HS6.c5
        have x6 := HS6.c6
        have g0 := HS6.fL 0
        have g1 := HS6.fL 1
        have g2 := HS6.fL 2
        have g3 := HS6.fL 3
        have g4 := HS6.fL 4
        have g5 := HS6.fL 5
        have g6 := HS6.fL 6
        have l6 := HS6.lL
        have lY : Y < w6.heap.size := HW6.out.lL
        unfold cpy at F
        have F : Hid (OpQ w s R (.returned (.int .i64 0)) (((((((w6.setCell ⟨s.L, 0, none⟩ (.slice A t.n c)).setCell ⟨s.L, 1, none⟩ (.int .i64 t.ev)).setCell ⟨s.L, 2, none⟩ (.bool t.al)).setCell ⟨s.L, 3, none⟩ (.int .u64 t.a)).setCell ⟨s.L, 4, none⟩ (.bool true)).setCell ⟨s.L, 5, none⟩ (.int .i64 ev)).setCell ⟨s.L, 6, none⟩ (.int .u64 t.ck))) := F.out
        clear HS6 HW6 HB6 H S HYE XB ER
        go_wp2
        go_ret
        exact F.out
      · have F := Lib.hid (FB.out (EB.out (fun e => h0 e.2)))
        have q2 : (0 : Int) < (ct : Int) := by omega
        clear EY EB FB HW5 HS5 B5 he h0
        go_wp2
        go_ret
        exact F.out
    · have F := Lib.hid (FB.out (EB.out (fun e => he e.1)))
      have q1 : (t.ev != ev) = true := by simpa using he
      clear EY EB FB HW5 HS5 B5 he
      go_wp2
      go_ret
      exact F.out
end
end Go.Proofs.Ytmhabdpnakbfpaa
