/- OvershootIsBounded: the walk. -/
import Derived.Test.YtbblachhijpgeaaOvp
import Derived.Test.YtbblachhijpgeaaAwk
import Derived.Test.YtbblachhijpgeaaHSmw
import Derived.Test.YtbblachhijpgeaaHOpn
namespace Go.Proofs.Ytbblachhijpgeaa
open Go.ChangeShapes Go.WideShapes Go.ChangeAt Go.RowKit Go.Deep Go.Joins

set_option maxRecDepth 20000 in
set_option maxHeartbeats 32000000 in
theorem ov_any (dc da am uab uhi lvs uhy sts : Int) (w : World) (wa : (Lit.int .u16 uab).wf = true) (wh : (Lit.int .u16 uhi).wf = true) (wy : (Lit.int .u8 uhy).wf = true) : Calls Try.prog 4 #[.agg #[.int .i64 dc, .int .i64 da], .int .i64 am, .int .u16 uab, .int .u16 uhi, .int .i64 lvs, .int .u8 uhy, .int .i64 sts] w (LawPost w) := by
  have AW := Lib.hid (fun W => awake_any W)
  have ba : 0 ≤ uab := by simp [Lit.wf, IntKind.min, IntKind.max, IntKind.signed, IntKind.bits] at wa; omega
  have bh : 0 ≤ uhi := by simp [Lit.wf, IntKind.min, IntKind.max, IntKind.signed, IntKind.bits] at wh; omega
  have bY : 0 ≤ uhy := by simp [Lit.wf, IntKind.min, IntKind.max, IntKind.signed, IntKind.bits] at wy; omega
  clear wa wh wy
  have M8 := Lib.hid (fun W => mod_q lvs 8 (by omega) (by omega) W)
  have M2 := Lib.hid (fun W => mod_q sts 200 (by omega) (by omega) W)
  have m8 := (modOf_spec lvs 8 (by omega) (by omega)).2
  have HB0 := Lib.hid (bal (Below.refl w.heap.size w) (Obj.cells #[.int .i64 dc, .int .i64 da] 23))
  obtain ⟨z0, z1⟩ := bx2 w (.int .i64 dc) (.int .i64 da) 23
  have lS0 : w.heap.size < (w.alloc (.cells #[.int .i64 dc, .int .i64 da] 23)).heap.size := by simp
  generalize modOf lvs 8 = k8 at *
  have k2 := (modOf_spec sts 200 (by omega) (by omega)).2
  generalize modOf sts 200 = k200 at *
  go_enter Try.func4, Try.ntmps4
  go_upto_region 1 with fail
  generalize w.alloc (.cells #[.int .i64 dc, .int .i64 da] 23) = w1 at *
  have SO := som_any (some ⟨w1.heap.size, 0, none⟩) 1 1 (fun _ => ⟨dc, da⟩) none 0 0 K00 am _ (fl1 w1 dc da) (fl_nil _ _)
  have HB1 := Lib.hid (bel2 HB0.out (bal (Below.refl w1.heap.size w1) (.cells #[.int .i64 dc, .int .i64 da] 23)))
  clear HB0
  go_wp2_with fail
  generalize w1.alloc (.cells #[.int .i64 dc, .int .i64 da] 23) = w2 at *
  clear z0 z1 lS0
  refine SO.mono ?_
  clear SO
  rintro e w3 ⟨n, D, m, K, amb, A1, B1, cb, rfl, hF1, hF2, hbn, hG, n1, n5, m12, hn, hm0, a1, a2, hb3⟩
  obtain rfl : n = 1 := hn rfl
  obtain rfl : m = 0 := by omega
  have hx : Below w3.heap.size w3 (w3.alloc (.cells #[.slice (some A1) 1 1, .slice B1 0 cb, .int .i64 amb] 29)) := bal (Below.refl _ _) _
  obtain ⟨s0, s1, s2⟩ := bx3 w3 (.slice (some A1) 1 1) (.slice B1 0 cb) (.int .i64 amb) 29
  have HB4 := Lib.hid (bel2 (bel2 HB1.out hb3) hx)
  have lS : w3.heap.size < (w3.alloc (.cells #[.slice (some A1) 1 1, .slice B1 0 cb, .int .i64 amb] 29)).heap.size := by simp
  have hG1 := hF1.below' hx
  obtain ⟨ab, ao, hA1, lA, -⟩ := hG1.dat (show 0 < 1 by omega)
  injection hA1 with hA1
  subst hA1
  obtain ⟨-, d0, d1⟩ := hG1.dat' rfl (show 0 < 1 by omega)
  rw [Nat.zero_mul, Nat.add_zero] at d0 d1
  obtain ⟨g1, g2, g3, g4⟩ := hG.d 0 (by omega)
  have g3 : (D 0).a ≤ (D 0).c := g3
  have HF1 := Lib.hid hG1
  clear hb3 hx hF1 hF2 hbn hG hG1 HB1
  generalize hdc : (D 0).c = Dc at *
  generalize hda : (D 0).a = Da at *
  go_upto_region 2 with fail
  generalize w3.alloc (.cells #[.slice (some ⟨ab, ao, none⟩) 1 1, .slice B1 0 cb, .int .i64 amb] 29) = w4 at *
  generalize w3.heap.size = S at *
  clear w3
  have hx5 : Below w4.heap.size w4 (w4.alloc (.cells #[.int .i64 Dc, .int .i64 Da] 23)) := bal (Below.refl _ _) _
  obtain ⟨x0, x1⟩ := bx2 w4 (.int .i64 Dc) (.int .i64 Da) 23
  have lX : w4.heap.size < (w4.alloc (.cells #[.int .i64 Dc, .int .i64 Da] 23)).heap.size := by simp
  have B5 := Lib.hid (bel2 HB4.out hx5)
  have s0' := (hx5.cell (p := ⟨S, 0, none⟩) lS).trans s0
  have s2' := (hx5.cell (p := ⟨S, 2, none⟩) lS).trans s2
  have lS5 := Nat.lt_of_lt_of_le lS hx5.size
  have HF5 := Lib.hid (HF1.out.below' hx5)
  clear HB4 hx5 HF1
  have ub : 0 ≤ uab % 60 ∧ uab % 60 < 60 := by omega
  have hb : 0 ≤ uhi % 500 ∧ uhi % 500 < 500 := by omega
  have yb : 0 ≤ uhy % 20 ∧ uhy % 20 < 20 := by omega
  go_upto_region 5 with (go_at_call 14; refine (M8.out _).mono ?_; rintro e w9 ⟨rfl, rfl⟩)
  generalize w4.alloc (.cells #[.int .i64 Dc, .int .i64 Da] 23) = w5 at *
  generalize w4.heap.size = XB at *
  clear d0 d1 s0 s1 s2 lS lA
  clear w4
  obtain ⟨trip, htrip⟩ : ∃ t, amb + uab % 60 = t := ⟨_, rfl⟩
  obtain ⟨nn, hnn⟩ : ∃ t, (1 : Int) + (k8 : Int) = t := ⟨_, rfl⟩
  have t0 : amb ≤ trip := by omega
  have t1 : trip ≤ amb + 59 := by omega
  have n1 : 1 ≤ nn := by omega
  have n8 : nn ≤ 8 := by omega
  rw [htrip, hnn]
  clear htrip hnn ub m8 M8
  have NZ := nz_any (some ⟨w5.heap.size, 0, none⟩) 1 1 (fun _ => ⟨2, trip, uhy % 20⟩) nn _ (sl1 w5 2 trip (uhy % 20) (by omega) (by omega) (by omega)) (fun h => by cases h)
  have hx6 : Below w5.heap.size w5 (w5.alloc (Obj.cells #[.int .i64 2, .int .i64 trip, .int .i64 (uhy % 20)] 48)) := bal (Below.refl _ _) _
  have OKZ : Hid (okZ 1 (fun _ => (⟨2, trip, uhy % 20⟩ : St)) nn = true) := by
    show (vT 1 _ && decide (0 ≤ nn ∧ nn ≤ 64)) = true
    unfold vT
    rw [allTo_of fun k _ => ?_, decide_eq_true (by omega), decide_eq_true (by omega)]
    · rfl
    · show decide (1 ≤ (2 : Int) ∧ (2 : Int) ≤ 3 ∧ -67108864 ≤ trip ∧ trip ≤ 67108864 ∧ 0 ≤ uhy % 20 ∧ uhy % 20 ≤ 16777216) = true
      exact decide_eq_true (by omega)
  have GTT : Hid (∀ a, 0 ≤ a → a ≤ nn → GT 1 (fun _ => (⟨2, trip, uhy % 20⟩ : St)) nn a) := fun a h1 h2 => ⟨by omega, fun k _ => by show 1 ≤ (2 : Int) ∧ (2 : Int) ≤ 3 ∧ -67108864 ≤ trip ∧ trip ≤ 67108864 ∧ 0 ≤ uhy % 20 ∧ uhy % 20 ≤ 16777216; omega, h1, h2, by omega⟩
  have HX6 := Lib.hid hx6
  clear hx6
  go_wp2_with fail
  generalize w5.alloc (Obj.cells #[.int .i64 2, .int .i64 trip, .int .i64 (uhy % 20)] 48) = w6 at *
  refine NZ.mono ?_
  clear NZ
  rintro e w7 ⟨hb7, hor⟩
  rcases hor with ⟨h, _⟩ | ⟨_, Z, O, TA, tc, rfl, hZ, hz1, hz2, hz3⟩
  · rw [OKZ.out] at h; cases h
  have hb57 := bel2 HX6.out hb7
  have B7 := Lib.hid (bel2 B5.out hb57)
  have HF7 := Lib.hid (HF5.out.below' hb57)
  have s0 := (hb57.cell (p := ⟨S, 0, none⟩) lS5).trans s0'
  have s2 := (hb57.cell (p := ⟨S, 2, none⟩) lS5).trans s2'
  have x0' := (hb57.cell (p := ⟨XB, 0, none⟩) lX).trans x0
  have x1' := (hb57.cell (p := ⟨XB, 1, none⟩) lX).trans x1
  have lS7 := Nat.lt_of_lt_of_le lS5 hb57.size
  have lX7 := Nat.lt_of_lt_of_le lX hb57.size
  have HZ7 := Lib.hid hZ
  have zl : Hid (Z < w7.heap.size ∧ O < w7.heap.size ∧ (∀ a, TA = some a → a.block < w7.heap.size)) := ⟨hZ.row.lt, hZ.orow.lt, fun a e => by
    rcases hZ.tr.row with h0 | ⟨b, off, e2, h1, _⟩
    · omega
    · rw [e] at e2; injection e2 with e2; subst e2; exact h1⟩
  have zg : Hid (w5.heap.size ≤ Z ∧ w5.heap.size ≤ O) := by have := HX6.out.size; exact ⟨by omega, by omega⟩
  have w5s := B5.out.size
  clear hb7 hz1 hz2 hz3 hZ hb57 s0' s2' x0 x1 lS5 lX HF5 HX6
  have V9 : Va 1 D 0 K00 amb := ⟨by omega, by omega, by omega, by omega, fun i hi => dd0 (fun i => 1 ≤ (D i).a ∧ (D i).a ≤ 16777216 ∧ (D i).c ≤ 16777216) _ hi (by show 1 ≤ (D 0).a ∧ (D 0).a ≤ 16777216 ∧ (D 0).c ≤ 16777216; rw [hdc, hda]; omega), fun l hl => by omega, fun l l2 h1 h2 => by omega, fun i hi => dd0 (fun i => ldK D K00 0 i ≤ (D i).c) _ hi (by show (D 0).a ≤ (D 0).c; rw [hdc, hda]; exact g3)⟩
  have G9 : Gd 1 0 D K00 := ⟨fun i hi => dd0 (fun i => 1 ≤ (D i).a ∧ (D i).a ≤ 6 ∧ ldK D K00 0 i ≤ (D i).c ∧ (D i).c ≤ 13 + 10 * ((0 : Nat) : Int)) _ hi (by show 1 ≤ (D 0).a ∧ (D 0).a ≤ 6 ∧ (D 0).a ≤ (D 0).c ∧ _; rw [hdc, hda]; omega), fun l hl => by omega, fun l l2 h1 h2 => by omega⟩
  have NW := new_any V9 (some ⟨ab, ao, none⟩) 1 none 0 w7 HF7.out (fl_nil _ _) (fun _ => ⟨rfl, rfl⟩)
  have HGG := Lib.hid G9
  clear V9 G9
  go_wp2_with fail
  refine NW.mono ?_
  clear NW
  rintro e w10 ⟨h, rfl, hH, hn, hD, hmm, hK, hs, hE, ho, hu, hb10⟩
  have G9 : Gd h.n h.m h.D h.K := by rw [hn, hD, hmm, hK]; exact HGG.out
  have I0 : Hid (Inv h (trip + 500)) := inv_new (top := trip + 500) G9 (by rw [hE, hD, hs]) (by omega)
  have hwr : ∀ b, h.wr b → w7.heap.size ≤ b := fun b hb => (hu b (by rcases hb with x | x; exact .inl x; exact .inr (.inl x))).1
  have E0 : Hid (h.E 0 = Dc * amb) := by rw [hE]; show (D 0).c * amb = _; rw [hdc]
  have HW := Lib.hid hwr
  have HH := Lib.hid hH
  have HO := Lib.hid ho
  have HN := Lib.hid hn
  have HDD := Lib.hid hD
  have HS := Lib.hid hs
  have HM := Lib.hid hmm
  have B10 := Lib.hid (bel2 B7.out hb10)
  have Z10 := Lib.hid (HZ7.out.below hb10)
  have UZ : Hid (∀ E o b, (h.at E o).uses b → ¬ ZO Z O b) := fun E o b hb hz => by
    have hb : h.uses b := hb
    have := (hu b hb).1
    have := zl.out
    rcases hz with e | e <;> omega
  have s2 := (hb10.cell (p := ⟨S, 2, none⟩) lS7).trans s2
  have x0 := (hb10.cell (p := ⟨XB, 0, none⟩) lX7).trans x0'
  have x1 := (hb10.cell (p := ⟨XB, 1, none⟩) lX7).trans x1'
  have lS10 := Nat.lt_of_lt_of_le lS7 hb10.size
  have lX10 := Nat.lt_of_lt_of_le lX7 hb10.size
  have B7s := B7.out.size
  clear hH hn hD hmm hK hs hE ho hu hb10 hwr G9 s0 x0' x1' HGG B7 HF7 HZ7 lS7 lX7
  have mb0 : 0 ≤ Da * (trip - amb) := Int.mul_nonneg (by omega) (by omega)
  obtain ⟨low, hlow⟩ : ∃ p, Da * (trip - amb) = p := ⟨_, rfl⟩
  have mb := mul_bd (a := Da) (b := trip - amb) (A := 6) (B := 60) (by omega) (by omega) (by omega) (by omega)
  have SU := sus_any Dc Da amb trip low g1 (by omega) g3 (by omega) a1 a2 (by omega) (by omega) hlow w10
  have p0 : ¬ low < 0 := by omega
  have p1 : low ≤ 360 := by omega
  have HLOW := Lib.hid hlow
  clear mb mb0 hlow
  go_wp2_with fail
  refine SU.mono ?_
  clear SU
  rintro e w11 ⟨rfl, hb11⟩
  have x0' := (hb11.cell (p := ⟨XB, 0, none⟩) lX10).trans x0
  have x1' := (hb11.cell (p := ⟨XB, 1, none⟩) lX10).trans x1
  have lX11 := Nat.lt_of_lt_of_le lX10 hb11.size
  have B11 := Lib.hid (bel2 B10.out hb11)
  have H11 := Lib.hid (HH.out.below hb11)
  have Z11 := Lib.hid (Z10.out.below hb11)
  clear hb11 x0 x1 s2 lX10 lS10 B10 HH Z10
  obtain ⟨tp, htp⟩ : ∃ t, low + uhi % 500 = t := ⟨_, rfl⟩
  have tp0 : low ≤ tp := by omega
  have tp1 : tp ≤ low + 499 := by omega
  have HTP := Lib.hid htp
  clear htp
  go_upto_region 11 with fail
  rw [HTP.out]
  obtain ⟨n1n, hn1n⟩ : ∃ t, nn + 1 = t := ⟨_, rfl⟩
  have mb2 := mul_bd (a := n1n) (b := tp) (A := 10) (B := 1000) (by omega) (by omega) (by omega) (by omega)
  have mb3 : 0 ≤ n1n * tp := Int.mul_nonneg (by omega) (by omega)
  obtain ⟨X1, hX1⟩ : ∃ t, n1n * tp = t := ⟨_, rfl⟩
  have WH := Lib.hid (both (x := n1n * tp) (y := X1) (by omega) hX1)
  have HX1 := Lib.hid hX1
  have HN1 := Lib.hid hn1n
  have xx : 0 ≤ X1 + Da := by omega
  have xb : X1 + Da ≤ 20000 := by omega
  have dz : (Dc == 0) = false := beq_eq_false_iff_ne.2 (by omega)
  have q0 : 0 ≤ (X1 + Da) / Dc := Int.ediv_nonneg xx (by omega)
  have q1 : (X1 + Da) / Dc ≤ 20000 := by
    have : (X1 + Da) / Dc ≤ X1 + Da := Int.ediv_le_self _ xx
    omega
  clear mb2 mb3 hX1
  obtain ⟨W1, W1w⟩ := WH.out
  go_upto_region 12 with fail
  obtain ⟨bnd, hbnd⟩ : ∃ t, trip + (X1 + Da) / Dc + 1 = t := ⟨_, rfl⟩
  rw [hbnd]
  have HBND : Hid (trip + ((nn + 1) * tp + Da) / Dc + 1 = bnd) := by
    show _ = _
    rw [HN1.out, HX1.out]
    exact hbnd
  have WG : Hid (∀ b, (h.wr b ∨ ZO Z O b) → w.heap.size ≤ b) := fun b hb => by
    have := zg.out
    rcases hb with e | e
    · have := HW.out b e
      omega
    · rcases e with e | e <;> omega
  have ZW : Hid (¬ h.wr Z ∧ ¬ h.wr O ∧ ∀ a, TA = some a → ¬ h.wr a.block) := by
    obtain ⟨l1, l2, l3⟩ := zl.out
    exact ⟨fun e => by have := HW.out _ e; omega, fun e => by have := HW.out _ e; omega, fun a e e2 => by have := HW.out _ e2; have := l3 a e; omega⟩
  clear xx xb dz q0 q1 W1 W1w WH hbnd HN1 HX1 x0' x1' lX11
  obtain ⟨G, hG⟩ : ∃ t, tp - low = t := ⟨_, rfl⟩
  have G0 : 0 ≤ G := by omega
  have G1 : G ≤ 499 := by omega
  have HGE := Lib.hid hG
  clear hG
  go_wp2_with (go_at_call 14; refine (M2.out _).mono ?_; rintro e w9 ⟨rfl, rfl⟩)
  go_loopw [27, 118] (fun v27 v118 wr => ∃ (j : Nat) (lv : Int) (E : Nat → Int) (o : Int) (on : Nat → Bool), v27 = .int .i64 lv ∧ v118 = .int .i64 j ∧ j ≤ k200 ∧ 0 ≤ lv ∧ lv ≤ nn ∧ Hm wr (h.at E o) ∧ Inv (h.at E o) (trip + 500) ∧ 0 ≤ o ∧ o ≤ 12000 * (j : Int) ∧ Zn 93 wr Z O TA tc 1 (fun _ => ⟨2, trip, uhy % 20⟩) nn lv on ∧ Ovi Dc Da trip G (E 0) lv ∧ Chg (fun b => h.wr b ∨ ZO Z O b) w9 wr) (fun _ v118 _ => k200 - (intOf v118).toNat)
  case atStart => exact ⟨0, 0, h.E, h.o, _, rfl, rfl, Nat.zero_le _, Int.le_refl _, by omega, H11.out, I0.out, by rw [HO.out]; exact Int.le_refl _, by rw [HO.out]; show (0 : Int) ≤ _; omega, Z11.out, fun _ => by
    rw [E0.out]
    have : Dc * amb ≤ Dc * trip := Int.mul_le_mul_of_nonneg_left t0 (by omega)
    omega, Chg.refl _ _⟩
  case round =>
    obtain ⟨j, lv, E, o, on, rfl, rfl, hj, l0, ln, hH, hI, o1, o2, hZ, hO, hC⟩ := hrel
    have BW : Hid (Below w.heap.size w wr) := Below.chg B11.out hC B11.out.size WG.out
    have HK := Lib.hid hH
    have HI := Lib.hid hI
    have CC := Lib.hid hC
    have HZ := Lib.hid hZ
    have HOV := Lib.hid hO
    clear hH hI hC hZ hO
    by_cases hlt : j < k200
    · have PI := pow_in (G := G) (lv := lv) (n := nn) G0 l0 ln n1
      obtain ⟨Y1, hY1⟩ : ∃ t, G * lv = t := ⟨_, rfl⟩
      have Y0 : 0 ≤ Y1 := by rw [← hY1]; exact Int.mul_nonneg G0 l0
      have mb := mul_bd (a := G) (b := lv) (A := 500) (B := 10) (by omega) (by omega) (by omega) (by omega)
      have WHY := Lib.hid (both (x := G * lv) (y := Y1) (by omega) hY1)
      have WHG := Lib.hid (both (x := tp - low) (y := G) (by omega) HGE.out)
      rw [hY1] at PI
      obtain ⟨qq, hqq⟩ : ∃ t, Y1 / nn = t := ⟨_, rfl⟩
      rw [hqq] at PI
      obtain ⟨q0, q1⟩ := PI
      have HQQ := Lib.hid hqq
      have HYB : Y1 ≤ 5000 := by omega
      have nz : (nn == 0) = false := beq_eq_false_iff_ne.2 (by omega)
      clear hY1 mb hqq
      obtain ⟨W1, W1w⟩ := WHY.out
      obtain ⟨W2, W2w⟩ := WHG.out
      clear WHY WHG
      by_cases hln : lv = nn
      · subst hln
        go_upto_region 18 with fail
        clear HQQ q0 q1 Y0 HYB
        clear W1 W1w W2 W2w nz
        have hx : Below wr.heap.size wr (wr.alloc (.cells #[.int .i64 low] 2)) := bal (Below.refl _ _) _
        have C14 := Lib.hid (CC.out.trans (Chg.of_below hx _))
        have K14 := Lib.hid (HK.out.below hx)
        have Z14 := Lib.hid (HZ.out.below hx)
        have l1 : h.L < wr.heap.size := HK.out.lL
        have l2 : h.X < wr.heap.size := HK.out.lX
        have zz : tp ≤ (h.D 0).a * (trip + 500 - h.s) := by
          rw [HDD.out, HS.out, hda]
          have e : Da * (trip + 500 - amb) = Da * (trip - amb) + Da * 500 := by rw [← Int.mul_add]; congr 1; omega
          rw [e, HLOW.out]
          omega
        have ST := step1x (c := 1) (z := low) HN.out HM.out (by rw [HS.out]; exact a1) (by rw [HS.out]; exact a2) (by rw [HS.out]; omega) K14.out HI.out o1 (by omega) (fle1 wr low) (by omega) (by omega) (by omega) (fun q => by have q : wr.heap.size = h.L ∨ wr.heap.size = h.X := q; omega)
        have OU := ov_up (c := Dc) (a := Da) (s := amb) (trip := trip) (low := low) (top := tp) (n := lv) (lv := lv) (p := low) (E := E 0) g1 g3 HLOW.out.symm tp0 l0 (by omega) (by intro _; rfl) n1 (by omega) (by rw [HGE.out]; exact HOV.out)
        have OB := ov_bound (n := lv) (lv := lv) g1 g3 (by omega) tp0 n1 OU
        rw [HBND.out] at OB
        rw [HGE.out] at OU
        have HOU := Lib.hid OU
        clear hx K14 zz OU
        go_wp2_with fail
        refine ST.mono ?_
        clear ST
        rintro e w15 ⟨tb, tw, tc', E', o', rfl, c0, tlt, tl, tu, hE', hK7, hI7, e1, e2, hC7⟩
        rw [HDD.out, HS.out, hdc, hda] at hE'
        rw [HDD.out, hdc] at c0 tl tu
        rw [HS.out] at tl
        have OV2 : trip ≤ E' 0 / Dc → E' 0 - Dc * trip ≤ Da - 1 + (min (lv + 1) lv) * G := fun _ => by rw [hE']; exact HOU.out
        rw [← hE'] at OB
        have HOU2 : Hid (E' 0 - Dc * trip ≤ Da - 1 + (min (lv + 1) lv) * G) := by show _ ≤ _; rw [hE']; exact HOU.out
        have C15 := Lib.hid (C14.out.trans (hC7.mono (fun _ _ e => .inl e)))
        have Z15 := Z14.out.chg hC7 ZW.out.1 ZW.out.2.1 (fun a e _ => ZW.out.2.2 a e)
        have K15 := Lib.hid hK7
        have I15 := Lib.hid hI7
        generalize hT : E' 0 / Dc = T at *
        have HTE := Lib.hid hT
        have qt : ¬ bnd < T := by omega
        have UP := upd_any Z O TA tc 1 (fun _ => ⟨2, trip, uhy % 20⟩) lv lv on T w15 Z15 (GTT.out lv l0 ln) (by omega) (by omega)
        have GN := (GTT.out lv l0 ln).nxt (pasK (fun _ => (⟨2, trip, uhy % 20⟩ : St)) (updO T (fun _ => (⟨2, trip, uhy % 20⟩ : St)) on) 2 1)
        have HLV : trip ≤ T → nxt (pasK (fun _ => (⟨2, trip, uhy % 20⟩ : St)) (updO T (fun _ => (⟨2, trip, uhy % 20⟩ : St)) on) 2 1) lv lv = min (lv + 1) lv := fun hh => by
          have e : pasK (fun _ => (⟨2, trip, uhy % 20⟩ : St)) (updO T (fun _ => (⟨2, trip, uhy % 20⟩ : St)) on) 2 1 = true := by simp [pasK, updO, hh]
          rw [e]
          rfl
        unfold UpP at UP
        generalize nxt (pasK (fun _ => (⟨2, trip, uhy % 20⟩ : St)) (updO T (fun _ => (⟨2, trip, uhy % 20⟩ : St)) on) 2 1) lv lv = lv2 at *
        have v0 : ¬ lv2 < 0 := by have := GN.a0; omega
        have v1 : ¬ lv < lv2 := by have := GN.al; omega
        have NOV : Hid (Ovi Dc Da trip G (E' 0) lv2) := ovi_next (n := lv) (lv := lv) (by omega) HOU2.out (fun hh => HLV (by rw [HTE.out] at hh; exact hh))
        clear hK7 hI7 hC7 hT OV2 hE' HOU HOU2 GN HLV Z15 C14 Z14 OB
        go_wp2_with fail
        refine UP.mono ?_
        clear UP
        rintro e w16 ⟨rfl, hZ16, hC16⟩
        have K16 := Lib.hid (K15.out.keep hC16 (UZ.out E' o'))
        have C16 := Lib.hid (C15.out.trans (hC16.mono (fun _ _ e => .inr e)))
        have Z16 := Lib.hid hZ16
        clear hZ16 hC16 K15 C15
        go_wp2
        go_roundw
        case rel => exact ⟨j + 1, lv2, E', o', _, rfl, by go_num, by omega, by omega, by omega, K16.out, I15.out, by omega, by omega, Z16.out, NOV.out, C16.out⟩
        case measure => simp [intOf]; omega
      · have hlq : (lv == nn) = false := beq_eq_false_iff_ne.2 hln
        have q0x : 0 ≤ Y1 / nn := by rw [HQQ.out]; exact q0
        have q1x : Y1 / nn ≤ 499 := by rw [HQQ.out]; omega
        have zz0 : 0 ≤ tp - qq := by have := HGE.out; omega
        go_upto_region 18 with fail
        rw [HQQ.out]
        clear q0x q1x
        clear W1 W1w W2 W2w nz
        have hx : Below wr.heap.size wr (wr.alloc (.cells #[.int .i64 (tp - qq)] 2)) := bal (Below.refl _ _) _
        have C14 := Lib.hid (CC.out.trans (Chg.of_below hx _))
        have K14 := Lib.hid (HK.out.below hx)
        have Z14 := Lib.hid (HZ.out.below hx)
        have l1 : h.L < wr.heap.size := HK.out.lL
        have l2 : h.X < wr.heap.size := HK.out.lX
        have zz : tp ≤ (h.D 0).a * (trip + 500 - h.s) := by
          rw [HDD.out, HS.out, hda]
          have e : Da * (trip + 500 - amb) = Da * (trip - amb) + Da * 500 := by rw [← Int.mul_add]; congr 1; omega
          rw [e, HLOW.out]
          omega
        have ST := step1x (c := 1) (z := (tp - qq)) HN.out HM.out (by rw [HS.out]; exact a1) (by rw [HS.out]; exact a2) (by rw [HS.out]; omega) K14.out HI.out o1 (by omega) (fle1 wr (tp - qq)) (by omega) (by omega) (by omega) (fun q => by have q : wr.heap.size = h.L ∨ wr.heap.size = h.X := q; omega)
        have OU := ov_up (c := Dc) (a := Da) (s := amb) (trip := trip) (low := low) (top := tp) (n := nn) (lv := lv) (p := (tp - qq)) (E := E 0) g1 g3 HLOW.out.symm tp0 l0 (by omega) (by intro e; exact absurd e hln) n1 (by omega) (by rw [HGE.out]; exact HOV.out)
        have OB := ov_bound (n := nn) (lv := lv) g1 g3 (by omega) tp0 n1 OU
        rw [HBND.out] at OB
        rw [HGE.out] at OU
        have HOU := Lib.hid OU
        clear hx K14 zz OU
        go_wp2_with fail
        refine ST.mono ?_
        clear ST
        rintro e w15 ⟨tb, tw, tc', E', o', rfl, c0, tlt, tl, tu, hE', hK7, hI7, e1, e2, hC7⟩
        rw [HDD.out, HS.out, hdc, hda] at hE'
        rw [HDD.out, hdc] at c0 tl tu
        rw [HS.out] at tl
        have OV2 : trip ≤ E' 0 / Dc → E' 0 - Dc * trip ≤ Da - 1 + (min (lv + 1) nn) * G := fun _ => by rw [hE']; exact HOU.out
        rw [← hE'] at OB
        have HOU2 : Hid (E' 0 - Dc * trip ≤ Da - 1 + (min (lv + 1) nn) * G) := by show _ ≤ _; rw [hE']; exact HOU.out
        have C15 := Lib.hid (C14.out.trans (hC7.mono (fun _ _ e => .inl e)))
        have Z15 := Z14.out.chg hC7 ZW.out.1 ZW.out.2.1 (fun a e _ => ZW.out.2.2 a e)
        have K15 := Lib.hid hK7
        have I15 := Lib.hid hI7
        generalize hT : E' 0 / Dc = T at *
        have HTE := Lib.hid hT
        have qt : ¬ bnd < T := by omega
        have UP := upd_any Z O TA tc 1 (fun _ => ⟨2, trip, uhy % 20⟩) nn lv on T w15 Z15 (GTT.out lv l0 ln) (by omega) (by omega)
        have GN := (GTT.out lv l0 ln).nxt (pasK (fun _ => (⟨2, trip, uhy % 20⟩ : St)) (updO T (fun _ => (⟨2, trip, uhy % 20⟩ : St)) on) 2 1)
        have HLV : trip ≤ T → nxt (pasK (fun _ => (⟨2, trip, uhy % 20⟩ : St)) (updO T (fun _ => (⟨2, trip, uhy % 20⟩ : St)) on) 2 1) lv nn = min (lv + 1) nn := fun hh => by
          have e : pasK (fun _ => (⟨2, trip, uhy % 20⟩ : St)) (updO T (fun _ => (⟨2, trip, uhy % 20⟩ : St)) on) 2 1 = true := by simp [pasK, updO, hh]
          rw [e]
          rfl
        unfold UpP at UP
        generalize nxt (pasK (fun _ => (⟨2, trip, uhy % 20⟩ : St)) (updO T (fun _ => (⟨2, trip, uhy % 20⟩ : St)) on) 2 1) lv nn = lv2 at *
        have v0 : ¬ lv2 < 0 := by have := GN.a0; omega
        have v1 : ¬ nn < lv2 := by have := GN.al; omega
        have NOV : Hid (Ovi Dc Da trip G (E' 0) lv2) := ovi_next (n := nn) (lv := lv) (by omega) HOU2.out (fun hh => HLV (by rw [HTE.out] at hh; exact hh))
        clear hK7 hI7 hC7 hT OV2 hE' HOU HOU2 GN HLV Z15 C14 Z14 OB
        go_wp2_with fail
        refine UP.mono ?_
        clear UP
        rintro e w16 ⟨rfl, hZ16, hC16⟩
        have K16 := Lib.hid (K15.out.keep hC16 (UZ.out E' o'))
        have C16 := Lib.hid (C15.out.trans (hC16.mono (fun _ _ e => .inr e)))
        have Z16 := Lib.hid hZ16
        clear hZ16 hC16 K15 C15
        go_wp2
        go_roundw
        case rel => exact ⟨j + 1, lv2, E', o', _, rfl, by go_num, by omega, by omega, by omega, K16.out, I15.out, by omega, by omega, Z16.out, NOV.out, C16.out⟩
        case measure => simp [intOf]; omega
    · obtain rfl : j = k200 := by omega
      have hq : ¬ (j : Int) < (j : Int) := by omega
      clear HK HI CC HZ HOV
      go_wp2_with (go_at_call 8; refine (AW.out _).mono ?_; rintro e w9 ⟨rfl, hb9⟩)
      go_ret
      exact ⟨rfl, bel2 BW.out hb9⟩
theorem ov_w (d : Dm) (am uab uhi lvs uhy sts : Int) (w : World) (_h0 : True) (_h1 : (Lit.int .i64 am).wf = true) (wa : (Lit.int .u16 uab).wf = true) (wh : (Lit.int .u16 uhi).wf = true) (_h4 : (Lit.int .i64 lvs).wf = true) (wy : (Lit.int .u8 uhy).wf = true) (_h6 : (Lit.int .i64 sts).wf = true) : Calls Try.prog 4 #[.agg #[.int .i64 d.c, .int .i64 d.a], .int .i64 am, .int .u16 uab, .int .u16 uhi, .int .i64 lvs, .int .u8 uhy, .int .i64 sts] w (LawPost w) := ov_any d.c d.a am uab uhi lvs uhy sts w wa wh wy
end Go.Proofs.Ytbblachhijpgeaa
