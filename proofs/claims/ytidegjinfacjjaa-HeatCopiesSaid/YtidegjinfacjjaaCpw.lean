/- HeatCopies: the walk. -/
import Derived.Test.YtidegjinfacjjaaCpm
import Derived.Test.YtidegjinfacjjaaAwk
import Derived.Test.YtidegjinfacjjaaTeq
import Derived.Test.YtidegjinfacjjaaSmw
namespace Go.Proofs.Ytidegjinfacjjaa
open Go.ChangeShapes Go.WideShapes Go.ChangeAt Go.RowKit Go.Deep Go.Joins

set_option maxRecDepth 20000 in
set_option maxHeartbeats 16000000 in
theorem cpw_any (A : Option Addr) (l c : Nat) (D0 : Nat → Dm) (B : Option Addr) (lk c2 : Nat) (K0 : Nat → Lk) (am : Int) (P : Option Addr) (pn pc : Nat) (g : Nat → Pw) (Q : Option Addr) (qn qc : Nat) (f : Nat → Pw) (w : World) (hA : Fl w A 2 l (dV D0)) (hB : Fl w B 3 lk (lV K0)) (_ham : (Lit.int .i64 am).wf = true) (hP : Pws w P pn g) (hQ : Pws w Q qn f) : Calls Try.prog 9 #[.slice A l c, .slice B lk c2, .int .i64 am, .slice P pn pc, .slice Q qn qc] w (LawPost w) := by
  have AW := Lib.hid (fun W => awake_any W)
  by_cases hmpn : 20 < pn
  · have qpn : (20 : Int) < (pn : Int) := by omega
    clear hA hB hP hQ
    go_enter Try.func9, Try.ntmps9
    go_wp2_with (go_at_call 11; refine (AW.out _).mono ?_; rintro e w9 ⟨rfl, hb9⟩)
    go_ret
    exact ⟨rfl, hb9⟩
  have qpn : ¬ (20 : Int) < (pn : Int) := by omega
  by_cases hmqn : 20 < qn
  · have qqn : (20 : Int) < (qn : Int) := by omega
    clear hA hB hP hQ
    go_enter Try.func9, Try.ntmps9
    go_wp2_with (go_at_call 11; refine (AW.out _).mono ?_; rintro e w9 ⟨rfl, hb9⟩)
    go_ret
    exact ⟨rfl, hb9⟩
  have qqn : ¬ (20 : Int) < (qn : Int) := by omega
  have HP := Lib.hid hP
  have HQ := Lib.hid hQ
  clear hP hQ
  have SO := som_any A l c D0 B lk c2 K0 am w hA hB
  clear hA hB
  go_enter Try.func9, Try.ntmps9
  go_wp2_with fail
  refine SO.mono ?_
  clear SO
  rintro e w1 ⟨n, D, m, K, amb, A1, B1, cb, rfl, hF1, hF2, hbn, hG, n1, n5, m12, a1, a2, hb1⟩
  have hx : Below w1.heap.size w1 (w1.alloc (.cells #[.slice (some A1) n n, .slice B1 m cb, .int .i64 amb] 27)) := bal (Below.refl _ _) _
  obtain ⟨s0, s1, s2⟩ := bx3 w1 (.slice (some A1) n n) (.slice B1 m cb) (.int .i64 amb) 27
  have hb2 := bel2 hb1 hx
  have lS : w1.heap.size < (w1.alloc (.cells #[.slice (some A1) n n, .slice B1 m cb, .int .i64 amb] 27)).heap.size := by simp
  have hG1 := hF1.below' hx
  have hG2 := hF2.below' hx
  have wS : w.heap.size ≤ w1.heap.size := hb1.size
  have NWH := Lib.hid (fun (W : World) (hb : Below (w1.alloc (.cells #[.slice (some A1) n n, .slice B1 m cb, .int .i64 amb] 27)).heap.size (w1.alloc (.cells #[.slice (some A1) n n, .slice B1 m cb, .int .i64 amb] 27)) W) => new_any (hG.va (s := amb) n1 n5 m12 a1 (by omega)) (some A1) n B1 cb W (hG1.below' hb) (hG2.below' hb) hbn)
  have NW := NWH.out _ (Below.refl _ _)
  clear hb1 hx hF1 hF2
  go_wp2_with fail
  generalize w1.alloc (.cells #[.slice (some A1) n n, .slice B1 m cb, .int .i64 amb] 27) = w2 at *
  generalize w1.heap.size = S at *
  clear w1
  refine NW.mono ?_
  clear NW
  rintro e w3 ⟨h, rfl, hH, rfl, rfl, rfl, rfl, rfl, hE, ho, hu, hb3⟩
  have X2 : Sx w w2 h S A1 B1 cb := ⟨s0, s1, s2, hG1, hG2, hbn, lS, hG, n1, n5, m12, a1, a2, hb2⟩
  have X3 := Lib.hid (X2.below hb3)
  have I0 := Lib.hid (inv_new (top := h.s + 200) hG hE (by omega))
  have hwr : ∀ b, h.wr b → w2.heap.size ≤ b := fun b hb => (hu b (by rcases hb with x | x; exact .inl x; exact .inr (.inl x))).1
  have HW := Lib.hid hwr
  have HU := Lib.hid hu
  have HH := Lib.hid hH
  have HE := Lib.hid hE
  have HO := Lib.hid ho
  have HB3 := Lib.hid hb3
  have X2 := Lib.hid X2
  have HG := Lib.hid hG
  have hLw : w2.heap.size ≤ h.L ∧ w2.heap.size ≤ h.X := ⟨hwr _ (.inl rfl), hwr _ (.inr rfl)⟩
  have t0 := X3.out.s0
  have t1 := X3.out.s1
  have t2 := X3.out.s2
  have lS3 := X3.out.lS
  clear hG1 hG2 hbn hG hH hE ho hu hwr hb2 s0 s1 s2
  have A0 := Lib.hid X3.out.dm
  have NW2 := new_any X3.out.va (some A1) h.n B1 cb w3 X3.out.dm X3.out.lk X3.out.bn
  go_wp2_with fail
  refine NW2.mono ?_
  clear NW2
  rintro e w4 ⟨b, rfl, hH2, en, eD, em, eK, es, eE, eo, hu2, hb4⟩
  have X4 := Lib.hid (X3.out.below hb4)
  have s0 := X4.out.s0
  have s1 := X4.out.s1
  have s2 := X4.out.s2
  have lS4 := X4.out.lS
  have hbt := tw_self en eD em eK
  have HB : Hid (Hm w4 (h.tw b h.s h.E h.o)) := by
    have : b.E = h.E := by rw [eE, HE.out]
    show Hm w4 (h.tw b h.s h.E h.o)
    rw [← es, ← this, HO.out, ← eo, ← hbt]
    exact hH2
  have H4 := Lib.hid (HH.out.below hb4)
  have B4 := Lib.hid (bel2 HB3.out hb4)
  have sz34 := hb4.size
  have HUa : Hid (∀ x, h.uses x → w2.heap.size ≤ x ∧ x < w3.heap.size) := HU.out
  have HUb : Hid (∀ x, b.uses x → w3.heap.size ≤ x ∧ x < w4.heap.size) := hu2
  have uL := HUa.out _ (.inl rfl)
  have uX := HUa.out _ (.inr (.inl rfl))
  have vL := HUb.out _ (.inl rfl)
  have vX := HUb.out _ (.inr (.inl rfl))
  have sz23 := HB3.out.size
  have K0 : Hid (Ok h h.E h.o 0) := ⟨I0.out, by rw [HO.out]; exact Int.le_refl _, by rw [HO.out]; exact Int.le_refl _⟩
  clear hH2 en eD em eK es eE eo hu2 hb4 hbt t0 t1 t2 lS3 hb3
  have XX := Lib.hid (fun (W : World) (hc : Chg (fun x => h.wr x ∨ b.wr x) w4 W) => X2.out.chg ((Chg.of_below B4.out (fun x => h.wr x ∨ b.wr x)).trans hc) (fun x hx => by
      rcases hx with (hx | hx) | (hx | hx)
      · omega
      · omega
      · have hx : x = b.L := hx; omega
      · have hx : x = b.X := hx; omega))
  go_wp2_with fail
  go_loopw [17] (fun v17 wr => ∃ (j : Nat) (E : Nat → Int) (o : Int), v17 = .int .i64 j ∧ j ≤ pn ∧ Hm wr (h.at E o) ∧ Hm wr (h.tw b h.s E o) ∧ Ok h E o j ∧ Chg (fun x => h.wr x ∨ b.wr x) w4 wr) (fun v17 _ => pn - (intOf v17).toNat)
  case atStart => exact ⟨0, h.E, h.o, rfl, Nat.zero_le _, H4.out, HB.out, K0.out, Chg.refl _ _⟩
  case round =>
    obtain ⟨j, E, o, rfl, hj, hH, hHb, hI, hC⟩ := hrel
    have HK := Lib.hid hH
    have HKb := Lib.hid hHb
    have CC := Lib.hid hC
    have II := Lib.hid hI
    have BW : Hid (Below w.heap.size w wr) := (XX.out wr hC).bel
    by_cases hlt : j < pn
    · obtain ⟨pb, po, ga, gl, gc, rfl, PQ⟩ := HP.out.pw hlt (show h.n ≤ 1000 by omega)
      have PQ := Lib.hid PQ
      obtain ⟨hpb, p0, PW1⟩ := PQ.out wr BW.out
      have szr := hC.size
      have zb := Lib.hid (zq_b g j)
      have NX := Lib.hid (hI.step n5 (zq_b g j))
      generalize zq g j = Z at *
      clear hH hHb hI hC
      go_wp2_with fail
      refine PW1.mono ?_
      clear PW1
      rintro e w7 hp
      obtain ⟨Y, rfl, hY⟩ := PwP.lr hp
      clear hp
      have Y0 := hY.Y0
      have SP : Calls Try.prog 19 #[.pointer (some ⟨h.L, 0, none⟩), .slice (some ⟨Y, 0, none⟩) h.n h.n] w7 (StP w7 (h.at E o) (h.at ((h.at E o).stp Z).E ((h.at E o).stp Z).o)) := tws_any (g := h) II.out (by omega) a1 a2 m12 zb.out (HK.out.below hY.bel) (hY.fl (by omega)) (by omega)
      obtain ⟨E', hE'⟩ : ∃ E', E' = ((h.at E o).stp Z).E := ⟨_, rfl⟩
      obtain ⟨o', ho'⟩ : ∃ o', o' = ((h.at E o).stp Z).o := ⟨_, rfl⟩
      have SQ := Lib.hid (fun (W : World) (Y : Nat) (H : Hm W (h.tw b h.s E o)) (FY : Fl W (some ⟨Y, 0, none⟩) 1 h.n (eV Z)) (hY : Y ≠ b.L ∧ Y ≠ b.X) => tws_any (k := j) II.out (by omega) a1 a2 m12 zb.out H FY hY)
      rw [← hE', ← ho'] at SP NX SQ
      have BY := Lib.hid hY.bel
      have szy := hY.bel.size
      clear hE' ho' hY
      go_wp2_with fail
      refine SP.mono ?_
      clear SP
      rintro e w8 ⟨v, rfl, -, hK8, hC8⟩
      have hC8 : Chg h.wr w7 w8 := hC8
      have hKb8 : Hm w8 (h.tw b h.s E o) := (HKb.out.below BY.out).keep hC8 (fun x hx hw => by
        have h1 : b.uses x := hx
        have h2 := HUb.out x h1
        have h3 := HUa.out x (by rcases hw with q | q; exact .inl q; exact .inr (.inl q))
        omega)
      have K8 := Lib.hid hK8
      have KB8 := Lib.hid hKb8
      have C8 := Lib.hid (CC.out.trans ((Chg.of_below BY.out _).trans (hC8.mono (fun _ _ q => .inl q))))
      have sz8 := hC8.size
      obtain ⟨hpb, p0, PW2⟩ := PQ.out w8 (XX.out w8 C8.out).bel
      clear hK8 hC8 hKb8 HK HKb CC PQ BY
      go_wp2_with fail
      refine PW2.mono ?_
      clear PW2
      rintro e w9 hp
      obtain ⟨Y2, rfl, hY⟩ := PwP.lr hp
      clear hp
      have Y20 := hY.Y0
      have SP := SQ.out w9 Y2 (KB8.out.below hY.bel) (hY.fl (by omega)) (by omega)
      have BY := Lib.hid hY.bel
      clear SQ hY
      go_wp2_with fail
      refine SP.mono ?_
      clear SP
      rintro e w10 ⟨v, rfl, -, hK10, hC10⟩
      have hC10 : Chg b.wr w9 w10 := hC10
      have hKa : Hm w10 (h.at E' o') := (K8.out.below BY.out).keep hC10 (fun x hx hw => by
        have h1 : h.uses x := hx
        have h2 := HUa.out x h1
        have h3 := HUb.out x (by rcases hw with q | q; exact .inl q; exact .inr (.inl q))
        omega)
      have K10 := Lib.hid hK10
      have KA := Lib.hid hKa
      have C10 := Lib.hid (C8.out.trans ((Chg.of_below BY.out _).trans (hC10.mono (fun _ _ q => .inr q))))
      clear hK10 hKa hC10 C8 K8 KB8 BY p0
      go_wp2
      go_roundw
      case rel => exact ⟨j + 1, E', o', by go_num, by omega, KA.out, K10.out, NX.out, C10.out⟩
      case measure => simp [intOf]; omega
    · obtain rfl : j = pn := by omega
      have hq : ¬ (j : Int) < (j : Int) := by omega
      have zw := hC.size
      have hA1 : ∀ a, (h.at E o).A = some a → a.block < wr.heap.size := fun a e => by
        have := HUa.out a.block (.inr (.inr (.inl ⟨a, e, rfl⟩)))
        omega
      have hB1 : ∀ a, (h.at E o).B = some a → a.block < wr.heap.size := fun a e => by
        have := HUa.out a.block (.inr (.inr (.inr ⟨a, e, rfl⟩)))
        omega
      have CP := cpy_any hH hA1 hB1
      have aL := Lib.hid hH.aL
      have bL := Lib.hid hH.bL
      clear hH hHb hI hC hA1 hB1
      go_wp2_with fail
      refine CP.mono ?_
      clear CP
      rintro e w5 ⟨L, X, ce, rfl, hHc, c1, c2, c3, c4, hb5⟩
      obtain ⟨c, cL, cX, HUc, HC⟩ : ∃ c : Mo, c.L = L ∧ c.X = X ∧ Hid (∀ x, c.uses x → (w2.heap.size ≤ x ∧ x < w3.heap.size ∧ x ≠ h.L ∧ x ≠ h.X) ∨ wr.heap.size ≤ x) ∧ Hid (Hm w5 (h.tw c h.s E o)) := ⟨{ h with L := L, X := X, ce := ce }, rfl, rfl, fun x hx => by
        rcases hx with hx | hx | ⟨a, ha, hx⟩ | ⟨a, ha, hx⟩
        · have hx : x = L := hx; omega
        · have hx : x = X := hx; omega
        · have h1 := HUa.out a.block (.inr (.inr (.inl ⟨a, ha, rfl⟩)))
          have h2 : a.block ≠ h.L ∧ a.block ≠ h.X := aL.out a ha
          omega
        · have h1 := HUa.out a.block (.inr (.inr (.inr ⟨a, ha, rfl⟩)))
          have h2 : a.block ≠ h.L ∧ a.block ≠ h.X := bL.out a ha
          omega, hHc⟩
      subst cL cX
      have KA := Lib.hid (HK.out.below hb5)
      have KB := Lib.hid (HKb.out.below hb5)
      have C5 := Lib.hid (CC.out.trans (Chg.of_below hb5 _))
      have OKS := Lib.hid (fun i => II.out.ru n5 (zq_b f) i)
      have sz5 := hb5.size
      have PWQ := Lib.hid (fun i (hi : i < qn) => HQ.out.pw hi (show h.n ≤ 1000 by omega))
      clear hHc hb5 aL bL HK HKb CC HQ
      generalize wr.heap.size = wz at *
      have YY := Lib.hid (fun (W : World) (hc : Chg (fun x => (h.wr x ∨ b.wr x) ∨ c.wr x) w5 W) => X2.out.chg (((Chg.of_below B4.out (fun x => (h.wr x ∨ b.wr x) ∨ c.wr x)).trans (C5.out.mono (fun _ _ q => .inl q))).trans hc) (fun x hx => by
        rcases hx with (hx | hx) | hx
        · rcases hx with hx | hx
          · have hx : x = h.L := hx; omega
          · have hx : x = h.X := hx; omega
        · rcases hx with hx | hx
          · have hx : x = b.L := hx; omega
          · have hx : x = b.X := hx; omega
        · rcases hx with hx | hx
          · have hx : x = c.L := hx; omega
          · have hx : x = c.X := hx; omega))
      go_wp2_with fail
      go_loopw [19] (fun v19 wr => ∃ i : Nat, v19 = .int .i64 i ∧ i ≤ qn ∧ Hm wr (h.tw c h.s (h.ru E o (zq f) i).1 (h.ru E o (zq f) i).2) ∧ Hm wr (h.tw b h.s (h.ru E o (zq f) i).1 (h.ru E o (zq f) i).2) ∧ Chg (fun x => c.wr x ∨ b.wr x) w5 wr) (fun v19 _ => qn - (intOf v19).toNat)
      case atStart => exact ⟨0, rfl, Nat.zero_le _, HC.out, KB.out, Chg.refl _ _⟩
      case round =>
        obtain ⟨i, rfl, hi, hHc, hHb, hC⟩ := hrel
        have KC2 := Lib.hid hHc
        have KB2 := Lib.hid hHb
        have CC := Lib.hid hC
        have BW : Hid (Below w.heap.size w wr) := (YY.out wr (hC.mono (fun _ _ q => by rcases q with q | q; exact .inr q; exact .inl (.inr q)))).bel
        have szr := hC.size
        by_cases hlt2 : i < qn
        · obtain ⟨pb, po, ga, gl, gc, rfl, PQ⟩ := PWQ.out i hlt2
          obtain ⟨hpb, p0, PW1⟩ := PQ wr BW.out
          have zb := Lib.hid (zq_b f i)
          have Oi := Lib.hid (OKS.out i)
          have SQ : Hid (∀ (W : World) (g : Mo) (Y : Nat), Hm W (h.tw g h.s (h.ru E o (zq f) i).1 (h.ru E o (zq f) i).2) → Fl W (some ⟨Y, 0, none⟩) 1 h.n (eV (zq f i)) → Y ≠ g.L ∧ Y ≠ g.X → Calls Try.prog 19 #[.pointer (some ⟨g.L, 0, none⟩), .slice (some ⟨Y, 0, none⟩) h.n h.n] W (StP W (h.tw g h.s (h.ru E o (zq f) i).1 (h.ru E o (zq f) i).2) (h.tw g h.s (h.ru E o (zq f) (i + 1)).1 (h.ru E o (zq f) (i + 1)).2))) := fun W g Y H FY hY => tws_any (k := j + i) Oi.out (by omega) a1 a2 m12 zb.out H FY hY
          obtain ⟨E1, hE1⟩ : ∃ E1, E1 = (h.ru E o (zq f) i).1 := ⟨_, rfl⟩
          obtain ⟨o1, ho1⟩ : ∃ o1, o1 = (h.ru E o (zq f) i).2 := ⟨_, rfl⟩
          obtain ⟨E2, hE2⟩ : ∃ E2, E2 = (h.ru E o (zq f) (i + 1)).1 := ⟨_, rfl⟩
          obtain ⟨o2, ho2⟩ : ∃ o2, o2 = (h.ru E o (zq f) (i + 1)).2 := ⟨_, rfl⟩
          have HR1 := Lib.hid hE2
          have HR2 := Lib.hid ho2
          rw [← hE1, ← ho1, ← hE2, ← ho2] at SQ
          rw [← hE1, ← ho1] at KC2 KB2
          clear hE1 ho1 hE2 ho2 hHc hHb hC Oi zb PQ
          generalize zq f i = Z at *
          go_wp2_with fail
          refine PW1.mono ?_
          clear PW1
          rintro e w7 hp
          obtain ⟨Y, rfl, hY⟩ := PwP.lr hp
          clear hp
          have Y0 := hY.Y0
          have SP := SQ.out w7 c Y (KC2.out.below hY.bel) (hY.fl (by omega)) (by omega)
          have LY := Lib.hid hY
          have szy := hY.bel.size
          clear hY
          go_wp2_with fail
          refine SP.mono ?_
          clear SP
          rintro e w8 ⟨v, rfl, hT, hK8, hC8⟩
          have hC8 : Chg c.wr w7 w8 := hC8
          have hT : TmP w7 h.n (h.at E2 o2).T v w8 := hT
          obtain ⟨A6, c6, rfl, hF6, hA6⟩ := hT
          obtain ⟨tb, tf, rfl, -⟩ := hF6.addr n1
          have tb0 := (hA6 _ rfl).1
          have hKb8 : Hm w8 (h.tw b h.s E1 o1) := (KB2.out.below LY.out.bel).keep hC8 (fun x hx hw => by
            have h1 : b.uses x := hx
            have h2 := HUb.out x h1
            rcases hw with hw | hw
            · have hw : x = c.L := hw; omega
            · have hw : x = c.X := hw; omega)
          have LY8 : Fl w8 (some ⟨Y, 0, none⟩) 1 h.n (eV Z) := (LY.out.fl (by omega)).chg hC8 (fun a e _ => by injection e with e; subst e; show ¬ (Y = c.L ∨ Y = c.X); omega)
          have SP := SQ.out w8 b Y hKb8 LY8 (by omega)
          have F6 := Lib.hid hF6
          have K8 := Lib.hid hK8
          have C8 := Lib.hid (CC.out.trans ((Chg.of_below LY.out.bel _).trans (hC8.mono (fun _ _ q => .inl q))))
          have sz8 := hC8.size
          clear hF6 hK8 hC8 hKb8 LY8 hA6 KC2 KB2 CC LY SQ
          go_wp2_with fail
          refine SP.mono ?_
          clear SP
          rintro e w9 ⟨v, rfl, hT, hK9, hC9⟩
          have hC9 : Chg b.wr w8 w9 := hC9
          have hT : TmP w8 h.n (h.at E2 o2).T v w9 := hT
          obtain ⟨A7, c7, rfl, hF7, hA7⟩ := hT
          obtain ⟨ub, uf, rfl, -⟩ := hF7.addr n1
          have K8' : Hm w9 (h.tw c h.s E2 o2) := K8.out.keep hC9 (fun x hx hw => by
            have h1 : c.uses x := hx
            have h2 := HUc.out x h1
            rcases hw with hw | hw
            · have hw : x = b.L := hw; omega
            · have hw : x = b.X := hw; omega)
          have F6' : Fl w9 (some ⟨tb, tf, none⟩) 1 h.n (eV (h.at E2 o2).T) := F6.out.chg hC9 (fun a e _ => by injection e with e; subst e; show ¬ (tb = b.L ∨ tb = b.X); omega)
          have EQ := equ_any (some ⟨tb, tf, none⟩) (some ⟨ub, uf, none⟩) c6 c7 h.n (h.at E2 o2).T w9 F6' hF7
          have C9 := Lib.hid (C8.out.trans (hC9.mono (fun _ _ q => .inr q)))
          have KC9 := Lib.hid K8'
          have KB9 := Lib.hid hK9
          clear hK9 hC9 hF7 hA7 K8' F6' F6 K8 C8
          go_wp2_with fail
          refine EQ.mono ?_
          clear EQ
          rintro e w10 ⟨rfl, hb10⟩
          have KC := Lib.hid (KC9.out.below hb10)
          have KB := Lib.hid (KB9.out.below hb10)
          have CN := Lib.hid (C9.out.trans (Chg.of_below hb10 _))
          clear hb10 KC9 KB9 C9
          go_wp2
          go_roundw
          case rel => exact ⟨i + 1, by go_num, by omega, by rw [← HR1.out, ← HR2.out]; exact KC.out, by rw [← HR1.out, ← HR2.out]; exact KB.out, CN.out⟩
          case measure => simp [intOf]; omega
        · obtain rfl : i = qn := by omega
          have hq2 : ¬ (i : Int) < (i : Int) := by omega
          have KA2 := Lib.hid (KA.out.keep hC (fun x hx hw => by
            have h1 : h.uses x := hx
            have h2 := HUa.out x h1
            rcases hw with (hw | hw) | (hw | hw)
            · have hw : x = c.L := hw; omega
            · have hw : x = c.X := hw; omega
            · have hw : x = b.L := hw; omega
            · have hw : x = b.X := hw; omega))
          have YC : Hid (Chg (fun x => (h.wr x ∨ b.wr x) ∨ c.wr x) w5 wr) := hC.mono (fun _ _ q => by rcases q with q | q; exact .inr q; exact .inl (.inr q))
          clear hHc hHb hC CC BW KA KB C5 HC
          go_wp2_with fail
          generalize wr = w6 at *
          go_loopw [25] (fun v25 wr => ∃ k : Nat, v25 = .int .i64 k ∧ k ≤ i ∧ Hm wr (h.at (h.ru E o (zq f) k).1 (h.ru E o (zq f) k).2) ∧ Chg h.wr w6 wr) (fun v25 _ => i - (intOf v25).toNat)
          case atStart => exact ⟨0, rfl, Nat.zero_le _, KA2.out, Chg.refl _ _⟩
          case round =>
            obtain ⟨k, rfl, hk, hH, hC⟩ := hrel
            have KA := Lib.hid hH
            have CC := Lib.hid hC
            have BW := Lib.hid (YY.out wr (YC.out.trans (hC.mono (fun _ _ q => .inl (.inl q))))).bel
            have szr := hC.size
            by_cases hlt3 : k < i
            · obtain ⟨pb, po, ga, gl, gc, rfl, PQ⟩ := PWQ.out k hlt3
              obtain ⟨hpb, p0, PW1⟩ := PQ wr BW.out
              have zb := Lib.hid (zq_b f k)
              have Oi := Lib.hid (OKS.out k)
              have SQ : Hid (∀ (W : World) (g : Mo) (Y : Nat), Hm W (h.tw g h.s (h.ru E o (zq f) k).1 (h.ru E o (zq f) k).2) → Fl W (some ⟨Y, 0, none⟩) 1 h.n (eV (zq f k)) → Y ≠ g.L ∧ Y ≠ g.X → Calls Try.prog 19 #[.pointer (some ⟨g.L, 0, none⟩), .slice (some ⟨Y, 0, none⟩) h.n h.n] W (StP W (h.tw g h.s (h.ru E o (zq f) k).1 (h.ru E o (zq f) k).2) (h.tw g h.s (h.ru E o (zq f) (k + 1)).1 (h.ru E o (zq f) (k + 1)).2))) := fun W g Y H FY hY => tws_any (k := j + k) Oi.out (by omega) a1 a2 m12 zb.out H FY hY
              obtain ⟨E1, hE1⟩ : ∃ E1, E1 = (h.ru E o (zq f) k).1 := ⟨_, rfl⟩
              obtain ⟨o1, ho1⟩ : ∃ o1, o1 = (h.ru E o (zq f) k).2 := ⟨_, rfl⟩
              obtain ⟨E2, hE2⟩ : ∃ E2, E2 = (h.ru E o (zq f) (k + 1)).1 := ⟨_, rfl⟩
              obtain ⟨o2, ho2⟩ : ∃ o2, o2 = (h.ru E o (zq f) (k + 1)).2 := ⟨_, rfl⟩
              have HR1 := Lib.hid hE2
              have HR2 := Lib.hid ho2
              rw [← hE1, ← ho1, ← hE2, ← ho2] at SQ
              rw [← hE1, ← ho1] at KA
              clear hE1 ho1 hE2 ho2 hH hC Oi zb PQ
              generalize zq f k = Z at *
              go_wp2_with fail
              refine PW1.mono ?_
              clear PW1
              rintro e w7 hp
              obtain ⟨Y, rfl, hY⟩ := PwP.lr hp
              clear hp
              have Y0 := hY.Y0
              have SP : Calls Try.prog 19 #[.pointer (some ⟨h.L, 0, none⟩), .slice (some ⟨Y, 0, none⟩) h.n h.n] w7 (StP w7 (h.at E1 o1) (h.at E2 o2)) := SQ.out w7 h Y (KA.out.below hY.bel) (hY.fl (by omega)) (by omega)
              have BY := Lib.hid hY.bel
              clear hY SQ
              go_wp2_with fail
              refine SP.mono ?_
              clear SP
              rintro e w8 ⟨v, rfl, -, hK8, hC8⟩
              have K8 := Lib.hid hK8
              have C8 := Lib.hid (CC.out.trans ((Chg.of_below BY.out _).trans hC8))
              clear hK8 hC8 KA CC BY
              go_wp2
              go_roundw
              case rel => exact ⟨k + 1, by go_num, by omega, by rw [← HR1.out, ← HR2.out]; exact K8.out, C8.out⟩
              case measure => simp [intOf]; omega
            · obtain rfl : k = i := by omega
              have hq3 : ¬ (k : Int) < (k : Int) := by omega
              have KBf := Lib.hid (KB2.out.keep hC (fun x hx hw => by
                have h1 : b.uses x := hx
                have h2 := HUb.out x h1
                rcases hw with hw | hw
                · have hw : x = h.L := hw; omega
                · have hw : x = h.X := hw; omega))
              have KCf := Lib.hid (KC2.out.keep hC (fun x hx hw => by
                have h1 : c.uses x := hx
                have h2 := HUc.out x h1
                rcases hw with hw | hw
                · have hw : x = h.L := hw; omega
                · have hw : x = h.X := hw; omega))
              obtain ⟨E1, hE1⟩ : ∃ E1, E1 = (h.ru E o (zq f) k).1 := ⟨_, rfl⟩
              obtain ⟨o1, ho1⟩ : ∃ o1, o1 = (h.ru E o (zq f) k).2 := ⟨_, rfl⟩
              rw [← hE1, ← ho1] at KBf KCf KA
              clear hE1 ho1 hH hC CC KB2 KC2 KA2
              have RL1 : Calls Try.prog 22 #[.pointer (some ⟨h.L, 0, none⟩)] wr (PuP wr (.int .i64 o1)) := rel_any KA.out
              have RL2 : Calls Try.prog 22 #[.pointer (some ⟨b.L, 0, none⟩)] wr (PuP wr (.int .i64 o1)) := rel_any KBf.out
              have EA : Hid (∀ d : Nat, d < h.n → Calls Try.prog 24 #[.pointer (some ⟨h.L, 0, none⟩), .int .i64 d] wr (PuP wr (.int .i64 (E1 d)))) := fun d hd => by
                have := eng_any KA.out (d : Int)
                rw [show (h.at E1 o1).Ev (d : Int) = E1 d from if_pos (by show 0 ≤ (d : Int) ∧ (d : Int) < (h.n : Nat); omega)] at this
                exact this
              have EB : Hid (∀ d : Nat, d < h.n → Calls Try.prog 24 #[.pointer (some ⟨b.L, 0, none⟩), .int .i64 d] wr (PuP wr (.int .i64 (E1 d)))) := fun d hd => by
                have := eng_any KBf.out (d : Int)
                rw [show (h.tw b h.s E1 o1).Ev (d : Int) = E1 d from if_pos (by show 0 ≤ (d : Int) ∧ (d : Int) < (h.n : Nat); omega)] at this
                exact this
              have EC : Hid (∀ d : Nat, d < h.n → Calls Try.prog 24 #[.pointer (some ⟨c.L, 0, none⟩), .int .i64 d] wr (PuP wr (.int .i64 (E1 d)))) := fun d hd => by
                have := eng_any KCf.out (d : Int)
                rw [show (h.tw c h.s E1 o1).Ev (d : Int) = E1 d from if_pos (by show 0 ≤ (d : Int) ∧ (d : Int) < (h.n : Nat); omega)] at this
                exact this
              clear KA KBf KCf
              go_wp2_with fail
              go_loop [29] (fun v29 => ∃ d : Nat, v29 = .int .i64 d ∧ d ≤ h.n) (fun v29 => h.n - (intOf v29).toNat)
              case atStart => exact ⟨0, rfl, Nat.zero_le _⟩
              case round =>
                obtain ⟨d, rfl, hd⟩ := hrel
                by_cases hlt4 : d < h.n
                · have EA := EA.out d hlt4
                  have EB := EB.out d hlt4
                  have EC := EC.out d hlt4
                  generalize E1 d = ed at *
                  go_wp2_with (go_at_call 24; first | (refine Calls.mono (by with_reducible exact EA) ?_; rintro e w9 ⟨rfl, rfl⟩) | (refine Calls.mono (by with_reducible exact EB) ?_; rintro e w9 ⟨rfl, rfl⟩) | (refine Calls.mono (by with_reducible exact EC) ?_; rintro e w9 ⟨rfl, rfl⟩))
                  go_round
                  case rel => exact ⟨d + 1, by go_num, by omega⟩
                  case measure => simp [intOf]; omega
                · obtain rfl : d = h.n := by omega
                  have hq4 : ¬ (h.n : Int) < (h.n : Int) := by omega
                  go_wp2_with (first | (go_at_call 22; first | (refine Calls.mono (by with_reducible exact RL1) ?_; rintro e w9 ⟨rfl, rfl⟩) | (refine Calls.mono (by with_reducible exact RL2) ?_; rintro e w9 ⟨rfl, rfl⟩)) | (go_at_call 11; refine (AW.out _).mono ?_; rintro e w10 ⟨rfl, hb10⟩))
                  go_ret
                  exact ⟨rfl, bel2 BW.out hb10⟩
end Go.Proofs.Ytidegjinfacjjaa
