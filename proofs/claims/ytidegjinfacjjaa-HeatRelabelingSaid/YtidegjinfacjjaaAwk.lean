/- awake. -/
import Derived.Test.YtidegjinfacjjaaInv
namespace Go.Proofs.Ytidegjinfacjjaa
open Go.ChangeShapes Go.WideShapes Go.ChangeAt Go.RowKit Go.Deep Go.Joins

theorem inv_new {h : Mo} {top : Int} (g : Gd h.n h.m h.D h.K) (hE : h.E = fun i => (h.D i).c * h.s) (ht : h.s ≤ top) : Inv h top := by
  refine ⟨g, ht, fun i hi => ?_⟩
  have c1 : 1 ≤ (h.D i).c := by
    have := g.d i hi
    have := ldK_a g h.m i (Nat.le_refl _)
    omega
  rw [hE]
  refine ⟨Int.le_refl _, ?_⟩
  show (h.D i).c * h.s < (h.D i).c * (top + 1)
  exact Int.mul_lt_mul_of_pos_left (by omega) (by omega)
/-- One domain, no links. -/
theorem one_E {h : Mo} {Z : Nat → Int} (hm : h.m = 0) : (h.stp Z).E 0 = h.E 0 + (Z 0 - (h.D 0).a * (h.E 0 / (h.D 0).c - h.s)) := by
  show h.e1 Z 0 + h.flK h.m 0 = _
  rw [hm]
  show h.E 0 + (Z 0 - (h.D 0).a * (h.E 0 / (h.D 0).c - h.s)) + 0 = _
  omega
theorem one_o {h : Mo} {Z : Nat → Int} (hn : h.n = 1) : (h.stp Z).o = h.o + (h.D 0).a * (h.E 0 / (h.D 0).c - h.s) := by
  show h.o + h.ouK h.n = _
  rw [hn]
  show h.o + (0 + (h.D 0).a * (h.E 0 / (h.D 0).c - h.s)) = _
  omega
def Dw : Nat → Dm := fun _ => ⟨10, 1⟩
def Kw : Nat → Lk := fun _ => ⟨0, 0, 0⟩
theorem gdw : Gd 1 0 Dw Kw := ⟨fun j _ => by show 1 ≤ (1 : Int) ∧ (1 : Int) ≤ 6 ∧ (1 : Int) ≤ 10 ∧ (10 : Int) ≤ 13 + 10 * ((0 : Nat) : Int); omega, fun l hl => by omega, fun l l2 h1 h2 => by omega⟩
def Zw : Nat → Int := fun _ => 15
theorem fl_one {w : World} {b t : Nat} {x : Int} (h : w.heap[b]? = some (.cells #[.int .i64 x] t (0, 0))) {E : Nat → Int} (e : E 0 = x) : Fl w (some ⟨b, 0, none⟩) 1 1 (eV E) :=
  ⟨by omega, .inr ⟨b, 0, rfl, blk_lt h, fun j hj => by
    obtain rfl : j = 0 := by omega
    rw [cells_at h]
    show some (Value.int .i64 x) = some (.int .i64 (E 0))
    rw [e]⟩⟩
theorem fl_dom {w : World} {b t : Nat} {x y : Int} (h : w.heap[b]? = some (.cells #[.int .i64 x, .int .i64 y] t (0, 0))) {D : Nat → Dm} (e : D 0 = ⟨x, y⟩) : Fl w (some ⟨b, 0, none⟩) 2 1 (dV D) :=
  ⟨by omega, .inr ⟨b, 0, rfl, blk_lt h, fun j hj => by
    rcases (show j = 0 ∨ j = 1 by omega) with rfl | rfl
    · rw [cells_at h]
      show some (Value.int .i64 x) = some (.int .i64 (D 0).c)
      rw [e]
    · rw [cells_at h]
      show some (Value.int .i64 y) = some (.int .i64 (D 0).a)
      rw [e]⟩⟩
theorem fl_nil (w : World) (k : Nat) (V : Nat → Value) : Fl w none k 0 V := ⟨by omega, .inl rfl⟩
theorem StP.bel {w w0 : World} {h h' : Mo} {e : Ending} {w' : World} (hs : StP w h h' e w') (hb : Below w0.heap.size w0 w) (hu : ∀ b, h.wr b → w0.heap.size ≤ b) : Below w0.heap.size w0 w' := by
  obtain ⟨v, _, _, _, hc⟩ := hs
  exact Below.chg hb hc hb.size hu
set_option maxRecDepth 20000 in
set_option maxHeartbeats 16000000 in
theorem awake_any (w : World) : Calls Try.prog 11 #[] w (LawPost w) := by
  have b0 : Below w.heap.size w (w.alloc (.cells #[.int .i64 10, .int .i64 1] 31)) := bal (Below.refl _ _) _
  have NW := new_any (gdw.va (s := 20) (by omega) (by omega) (by omega) (by omega) (by omega)) (some ⟨w.heap.size, 0, none⟩) 1 none 0 (w.alloc (.cells #[.int .i64 10, .int .i64 1] 31)) (fl_dom (heap_alloc_new w _) rfl) (fl_nil _ _ _) (fun _ => ⟨rfl, rfl⟩)
  go_enter Try.func11, Try.ntmps11
  go_wp2_with fail
  refine NW.mono ?_
  clear NW
  rintro e w1 ⟨h, rfl, hH, en, eD, em, eK, es, eE, eo, hu, hb⟩
  have hub : ∀ b, h.wr b → w.heap.size ≤ b := fun b hb' => by
    have := (hu b (by rcases hb' with x | x; exact .inl x; exact .inr (.inl x))).1
    have := b0.size
    omega
  have B1 := Lib.hid (bel2 b0 hb)
  have HU := Lib.hid hub
  have I0 : Inv h 40 := inv_new (by rw [en, em, eD, eK]; exact gdw) (by rw [eE, eD, es]) (by omega)
  have eE0 : h.E 0 = 200 := by rw [eE]; rfl
  have dc : (h.D 0).c = 10 := by rw [eD]; rfl
  have da : (h.D 0).a = 1 := by rw [eD]; rfl
  have zz : ∀ i, i < h.n → 0 ≤ Zw i ∧ Zw i ≤ 16777216 := fun i _ => by show 0 ≤ (15 : Int) ∧ (15 : Int) ≤ 16777216; omega
  have z2 : ∀ g : Mo, g.D = Dw → g.s = 20 → ∀ i, i < g.n → 0 ≤ Zw i ∧ Zw i ≤ (g.D i).a * (40 - g.s) := fun g h1 h2 i _ => by
    rw [h1, h2]
    show 0 ≤ (15 : Int) ∧ (15 : Int) ≤ 1 * (40 - 20)
    omega
  have I1 : Inv (h.stp Zw) 40 := I0.step (z2 h eD es)
  have E1 : (h.stp Zw).E 0 = 215 := by rw [one_E em, eE0, dc, da, es]; rfl
  have O1 : (h.stp Zw).o = 0 := by rw [one_o en, eE0, dc, da, es, eo]; rfl
  have T1 : (h.stp Zw).T 0 = 21 := by
    show (h.stp Zw).E 0 / (h.D 0).c = 21
    rw [E1, dc]; rfl
  have E2 : ((h.stp Zw).stp Zw).E 0 = 229 := by
    rw [one_E (h := h.stp Zw) em, E1]
    show 215 + (15 - (h.D 0).a * (215 / (h.D 0).c - h.s)) = 229
    rw [dc, da, es]; rfl
  have O2 : ((h.stp Zw).stp Zw).o = 1 := by
    rw [one_o (h := h.stp Zw) en, E1, O1]
    show 0 + (h.D 0).a * (215 / (h.D 0).c - h.s) = 1
    rw [dc, da, es]; rfl
  have T2 : ((h.stp Zw).stp Zw).T 0 = 22 := by
    show ((h.stp Zw).stp Zw).E 0 / (h.D 0).c = 22
    rw [E2, dc]; rfl
  have R0 := I0.rg (Z := Zw) (by omega) (by omega) (by omega) (by omega) zz (by omega) (by omega)
  have R1 : Rg (h.stp Zw) Zw := I1.rg (by show -100 ≤ h.s; omega) (by show h.s ≤ 70000; omega) (by show 40 ≤ h.s + 2000; omega) (by show h.m ≤ 12; omega) zz (by rw [O1]; decide) (by rw [O1]; decide)
  have EN := eng_any hH 0
  rw [show h.Ev 0 = 200 from (if_pos (by omega)).trans eE0] at EN
  have lL := hH.lL
  have lX := hH.lX
  have HH := Lib.hid hH
  have R0 := Lib.hid R0
  have R1 := Lib.hid R1
  have V1 : Hid (((h.stp Zw).stp Zw).Ev 0 = 229) := (if_pos (by show 0 ≤ (0 : Int) ∧ (0 : Int) < h.n; omega)).trans E2
  have T1 := Lib.hid T1
  have T2 := Lib.hid T2
  have O2 := Lib.hid O2
  have EN1 := Lib.hid en
  clear I0 I1 z2 zz E1 E2 O1 eE eo eD em eK es hu hb hub hH eE0 dc da b0 en
  go_wp2_with (go_at_call 24; refine EN.mono ?_; rintro e w' ⟨rfl, rfl⟩)
  clear EN
  have b1 : Below w1.heap.size w1 (w1.alloc (.cells #[.int .i64 15] 2)) := bal (Below.refl _ _) _
  have K1 := HH.out.below b1
  have F1 := fl_one (w := w1.alloc (.cells #[.int .i64 15] 2)) (heap_alloc_new w1 _) (E := Zw) rfl
  have S1 := stp_any K1 (some ⟨w1.heap.size, 0, none⟩) 1 Zw (by rw [EN1.out]; exact F1) R0.out (fun a e => by injection e with e; subst e; show ¬ (w1.heap.size = h.L ∨ w1.heap.size = h.X); omega)
  rw [EN1.out] at S1
  have B2 := Lib.hid (bel2 B1.out b1)
  clear K1 F1 HH R0 B1 b1
  go_wp2_with fail
  refine S1.mono ?_
  clear S1
  intro e w2 hs
  have B3 := Lib.hid (hs.bel B2.out HU.out)
  obtain ⟨v, rfl, hT, hK, -⟩ := hs
  obtain ⟨A, ca, rfl, hF, hfb⟩ := hT
  have FB : Hid (∀ a, A = some a → a.block ≠ h.L ∧ a.block ≠ h.X) := fun a e => by
    have := (hfb a e).1
    have s1 : w1.heap.size + 1 = (w1.alloc (.cells #[.int .i64 15] 2)).heap.size := by simp
    omega
  clear hfb
  have lL2 := hK.lL
  have lX2 := hK.lX
  rw [EN1.out] at hF
  have b2 : Below w2.heap.size w2 (w2.alloc (.cells #[.int .i64 15] 2)) := bal (Below.refl _ _) _
  have K1 := hK.below b2
  have F1 := fl_one (w := w2.alloc (.cells #[.int .i64 15] 2)) (heap_alloc_new w2 _) (E := Zw) rfl
  have S1 := stp_any K1 (some ⟨w2.heap.size, 0, none⟩) 1 Zw (by show Fl _ _ 1 h.n _; rw [EN1.out]; exact F1) R1.out (fun a e => by
    injection e with e; subst e
    show ¬ (w2.heap.size = h.L ∨ w2.heap.size = h.X)
    have l1 : h.L < w2.heap.size := lL2
    have l2 : h.X < w2.heap.size := lX2
    omega)
  have S1 : Calls Try.prog 19 #[.pointer (some ⟨h.L, 0, none⟩), .slice (some ⟨w2.heap.size, 0, none⟩) (1 : Nat) 1] (w2.alloc (.cells #[.int .i64 15] 2)) (StP (w2.alloc (.cells #[.int .i64 15] 2)) (h.stp Zw) ((h.stp Zw).stp Zw)) := by
    have := S1
    rw [show (h.stp Zw).n = 1 from EN1.out] at this
    exact this
  have B4 := Lib.hid (bel2 B3.out b2)
  have F2 := Lib.hid (hF.below' b2)
  clear K1 F1 R1 B2 b2 hF hK B3
  go_wp2_with fail
  refine S1.mono ?_
  clear S1
  intro e w3 hs
  have B5 := Lib.hid (hs.bel B4.out HU.out)
  obtain ⟨v, rfl, hT, hK, hC⟩ := hs
  obtain ⟨A2, ca2, rfl, hF2, -⟩ := hT
  have hF2 : Fl w3 A2 1 h.n (eV ((h.stp Zw).stp Zw).T) := hF2
  rw [EN1.out] at hF2
  have F1b : Fl w3 A 1 1 (eV (h.stp Zw).T) := F2.out.chg hC (fun a e _ => by
    have := FB.out a e
    show ¬ (a.block = h.L ∨ a.block = h.X)
    omega)
  obtain ⟨pb, po, rfl, -⟩ := F1b.addr (by omega)
  obtain ⟨qb, qo, rfl, -⟩ := hF2.addr (by omega)
  obtain ⟨l1, c1⟩ := F1b.eat' (i := 0) rfl (by omega)
  obtain ⟨l2, c2⟩ := hF2.eat' (i := 0) rfl (by omega)
  rw [T1.out] at c1
  rw [T2.out] at c2
  have EN := eng_any hK 0
  rw [V1.out] at EN
  have RL := rel_any hK
  rw [O2.out] at RL
  have EN : Calls Try.prog 24 #[.pointer (some ⟨h.L, 0, none⟩), .int .i64 0] w3 (PuP w3 (.int .i64 229)) := EN
  have RL : Calls Try.prog 22 #[.pointer (some ⟨h.L, 0, none⟩)] w3 (PuP w3 (.int .i64 1)) := RL
  rw [Nat.add_zero] at c1 c2
  clear hK hC F1b hF2 F2 B4 T1 T2 O2 V1 HU FB
  have e1 := EN1.out
  have e2 : (h.stp Zw).n = 1 := EN1.out
  go_wp2_with (first | (go_at_call 24; refine EN.mono ?_; rintro e w' ⟨rfl, rfl⟩) | (go_at_call 22; refine RL.mono ?_; rintro e w' ⟨rfl, rfl⟩))
  go_ret
  exact ⟨rfl, B5.out⟩
end Go.Proofs.Ytidegjinfacjjaa
