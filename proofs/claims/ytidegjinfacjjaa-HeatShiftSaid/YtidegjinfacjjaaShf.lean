/- HeatShift: the walk. -/
import Derived.Test.YtidegjinfacjjaaTwn
import Derived.Test.YtidegjinfacjjaaSmw
namespace Go.Proofs.Ytidegjinfacjjaa
open Go.ChangeShapes Go.WideShapes Go.ChangeAt Go.RowKit Go.Deep Go.Joins

set_option maxRecDepth 20000 in
set_option maxHeartbeats 16000000 in
theorem shf_any (A : Option Addr) (l c : Nat) (D0 : Nat → Dm) (B : Option Addr) (lk c2 : Nat) (K0 : Nat → Lk) (am : Int) (P : Option Addr) (pn pc : Nat) (g : Nat → Pw) (dg : Int) (w : World) (hA : Fl w A 2 l (dV D0)) (hB : Fl w B 3 lk (lV K0)) (_ham : (Lit.int .i64 am).wf = true) (hP : Pws w P pn g) (hdg : (Lit.int .u16 dg).wf = true) : Calls Try.prog 10 #[.slice A l c, .slice B lk c2, .int .i64 am, .slice P pn pc, .int .u16 dg] w (LawPost w) := by
  have AW := Lib.hid (fun W => awake_any W)
  have dgb : 0 ≤ dg ∧ dg ≤ 65535 := by have := bounds_u16 hdg; omega
  clear hdg
  by_cases hm : 30 < pn
  · have q : (30 : Int) < (pn : Int) := by omega
    clear hA hB hP
    go_enter Try.func10, Try.ntmps10
    go_wp2_with (go_at_call 11; refine (AW.out _).mono ?_; rintro e w9 ⟨rfl, hb9⟩)
    go_ret
    exact ⟨rfl, hb9⟩
  have q : ¬ (30 : Int) < (pn : Int) := by omega
  have HP := Lib.hid hP
  clear hP
  have SO := som_any A l c D0 B lk c2 K0 am w hA hB
  clear hA hB
  go_enter Try.func10, Try.ntmps10
  go_wp2_with fail
  refine SO.mono ?_
  clear SO
  rintro e w1 ⟨n, D, m, K, amb, A1, B1, cb, rfl, hF1, hF2, hbn, hG, n1, n5, m12, a1, a2, hb1⟩
  have hx : Below w1.heap.size w1 (w1.alloc (.cells #[.slice (some A1) n n, .slice B1 m cb, .int .i64 amb] 27)) := bal (Below.refl _ _) _
  obtain ⟨s0, s1, s2⟩ := bx3 w1 (.slice (some A1) n n) (.slice B1 m cb) (.int .i64 amb) 27
  have hb2 := bel2 hb1 hx
  have lS : w1.heap.size < (w1.alloc (.cells #[.slice (some A1) n n, .slice B1 m cb, .int .i64 amb] 27)).heap.size := by simp
  have hG1 := hF1.below' hx
  have hG2 := hF2.below' hx
  have wS : w.heap.size ≤ w1.heap.size := hb1.size
  have NWH := Lib.hid (fun (W : World) (hb : Below (w1.alloc (.cells #[.slice (some A1) n n, .slice B1 m cb, .int .i64 amb] 27)).heap.size (w1.alloc (.cells #[.slice (some A1) n n, .slice B1 m cb, .int .i64 amb] 27)) W) => new_any (hG.va (s := amb) n1 n5 m12 a1 (by omega)) (some A1) n B1 cb W (hG1.below' hb) (hG2.below' hb) hbn)
  have NW := NWH.out _ (Below.refl _ _)
  clear hb1 hx hF1 hF2
  go_wp2_with fail
  generalize w1.alloc (.cells #[.slice (some A1) n n, .slice B1 m cb, .int .i64 amb] 27) = w2 at *
  generalize w1.heap.size = S at *
  clear w1
  refine NW.mono ?_
  clear NW
  rintro e w3 ⟨h, rfl, hH, rfl, rfl, rfl, rfl, rfl, hE, ho, hu, hb3⟩
  have X2 : Sx w w2 h S A1 B1 cb := ⟨s0, s1, s2, hG1, hG2, hbn, lS, hG, n1, n5, m12, a1, a2, hb2⟩
  have X3 := Lib.hid (X2.below hb3)
  have I0 := Lib.hid (inv_new (top := h.s + 200) hG hE (by omega))
  have hwr : ∀ b, h.wr b → w2.heap.size ≤ b := fun b hb => (hu b (by rcases hb with x | x; exact .inl x; exact .inr (.inl x))).1
  have HW := Lib.hid hwr
  have HU := Lib.hid hu
  have HH := Lib.hid hH
  have HE := Lib.hid hE
  have HO := Lib.hid ho
  have HB3 := Lib.hid hb3
  have X2 := Lib.hid X2
  have HG := Lib.hid hG
  have hLw : w2.heap.size ≤ h.L ∧ w2.heap.size ≤ h.X := ⟨hwr _ (.inl rfl), hwr _ (.inr rfl)⟩
  have t0 := X3.out.s0
  have t1 := X3.out.s1
  have t2 := X3.out.s2
  have lS3 := X3.out.lS
  clear hG1 hG2 hbn hG hH hE ho hu hwr hb2 s0 s1 s2
  have va2 : Va h.n h.D h.m h.K (h.s + dg) := HG.out.va n1 n5 m12 (by omega) (by omega)
  have NW2 := new_any va2 (some A1) h.n B1 cb w3 X3.out.dm X3.out.lk X3.out.bn
  obtain ⟨dg1, dg2⟩ := dgb
  have WD : IntKind.i64.wrap dg = dg := IntWalk.i64_in _ (by omega)
  have wd : wrap64 dg = dg := IntWalk.wrap64_in _ (by omega)
  go_wp2_with fail
  refine NW2.mono ?_
  clear NW2 WD wd
  rintro e w4 ⟨b, rfl, hH2, en, eD, em, eK, es, eE, eo, hu2, hb4⟩
  have X4 := Lib.hid (X3.out.below hb4)
  have s0 := X4.out.s0
  have s1 := X4.out.s1
  have s2 := X4.out.s2
  have lS4 := X4.out.lS
  have hbt := tw_self en eD em eK
  have F0 : Hid (∀ i, i < h.n → b.E i = h.E i + (h.D i).c * dg) := fun i _ => by
    rw [eE, HE.out]
    show (h.D i).c * (h.s + dg) = (h.D i).c * h.s + (h.D i).c * dg
    rw [Int.mul_add]
  have HB : Hid (Hm w4 (h.tw b (h.s + dg) b.E b.o)) := by rw [← es, ← hbt]; exact hH2
  have IB : Hid (Inv (h.tw b (h.s + dg) b.E b.o) (h.s + dg + 200)) := inv_new (h := h.tw b (h.s + dg) b.E b.o) HG.out (by show b.E = _; rw [eE]; rfl) (by show h.s + dg ≤ _; omega)
  have HU2 := Lib.hid hu2
  have HO2 := Lib.hid eo
  have H4 := Lib.hid (HH.out.below hb4)
  have B4 := Lib.hid (bel2 HB3.out hb4)
  have sz34 := hb4.size
  have HUa : Hid (∀ x, h.uses x → w2.heap.size ≤ x ∧ x < w3.heap.size) := HU.out
  have HUb : Hid (∀ x, b.uses x → w3.heap.size ≤ x ∧ x < w4.heap.size) := HU2.out
  have uL := HUa.out _ (.inl rfl)
  have uX := HUa.out _ (.inr (.inl rfl))
  have vL := HUb.out _ (.inl rfl)
  have vX := HUb.out _ (.inr (.inl rfl))
  have sz23 := HB3.out.size
  clear hH2 en eD em eK es eE eo hu2 hb4 hbt t0 t1 t2 lS3 va2 hb3
  go_wp2_with fail
  go_loopw [18] (fun v18 wr => ∃ (j : Nat) (E F : Nat → Int) (o : Int), v18 = .int .i64 j ∧ j ≤ pn ∧ Hm wr (h.at E o) ∧ Hm wr (h.tw b (h.s + dg) F o) ∧ Inv (h.at E o) (h.s + 200) ∧ Inv (h.tw b (h.s + dg) F o) (h.s + dg + 200) ∧ (∀ i, i < h.n → F i = E i + (h.D i).c * dg) ∧ 0 ≤ o ∧ o ≤ 60000 * (j : Int) ∧ Chg (fun x => h.wr x ∨ b.wr x) w4 wr) (fun v18 _ => pn - (intOf v18).toNat)
  case atStart => exact ⟨0, h.E, b.E, h.o, rfl, Nat.zero_le _, H4.out, by rw [HO.out, ← HO2.out]; exact HB.out, I0.out, by rw [HO.out, ← HO2.out]; exact IB.out, F0.out, by rw [HO.out]; exact Int.le_refl _, by rw [HO.out]; show (0 : Int) ≤ _; omega, Chg.refl _ _⟩
  case round =>
    obtain ⟨j, E, F, o, rfl, hj, hH, hHb, hI, hIb, hF, o1, o2, hC⟩ := hrel
    have HK := Lib.hid hH
    have HKb := Lib.hid hHb
    have CC := Lib.hid hC
    have II := Lib.hid hI
    have IIb := Lib.hid hIb
    have HF := Lib.hid hF
    have XX := Lib.hid (fun (W : World) (hc : Chg (fun x => h.wr x ∨ b.wr x) w4 W) => X2.out.chg ((Chg.of_below B4.out (fun x => h.wr x ∨ b.wr x)).trans hc) (fun x hx => by
      rcases hx with (hx | hx) | (hx | hx)
      · omega
      · omega
      · have hx : x = b.L := hx; omega
      · have hx : x = b.X := hx; omega))
    have Xw := Lib.hid (XX.out wr hC)
    have BW : Hid (Below w.heap.size w wr) := Xw.out.bel
    by_cases hlt2 : j < pn
    · obtain ⟨pb, po, rfl, hpb, p0, pF⟩ := HP.out.at BW.out hlt2
      have PW1 := pow_any (g j).a (g j).l (g j).c (g j).z h.n 200 wr pF (by omega) (by omega)
      have zb := powZ_b (g j).l (g j).z 200 (by omega)
      generalize powZ (g j).l (g j).z 200 = Z at *
      generalize (g j).a = ga at *
      generalize (g j).l = gl at *
      generalize (g j).c = gc at *
      generalize (g j).z = gz at *
      have szr := hC.size
      clear hH hHb hI hIb hF hC pF
      go_wp2_with fail
      refine PW1.mono ?_
      clear PW1
      rintro e w7 hp
      obtain ⟨Y, rfl, hY⟩ := PwP.lr hp
      clear hp
      have Y0 := hY.Y0
      have LY := Lib.hid hY
      have ea : ∀ i, i < h.n → 200 ≤ (h.D i).a * 200 := fun i hi => by have := (HG.out.d i hi).1; omega
      have RG := II.out.rg (Z := Z) a1 (by show h.s ≤ 70000; omega) (by show h.s + 200 ≤ h.s + 2000; omega) m12 (fun i _ => by have := zb i; omega) (by show _ ≤ o; omega) (by show o ≤ _; omega)
      have RGb := IIb.out.rg (Z := Z) (by show -100 ≤ h.s + dg; omega) (by show h.s + dg ≤ 70000; omega) (by show h.s + dg + 200 ≤ h.s + dg + 2000; omega) m12 (fun i _ => by have := zb i; omega) (by show _ ≤ o; omega) (by show o ≤ _; omega)
      have SP : Calls Try.prog 19 #[.pointer (some ⟨h.L, 0, none⟩), .slice (some ⟨Y, 0, none⟩) h.n h.n] w7 (StP w7 (h.at E o) ((h.at E o).stp Z)) := stp_any (HK.out.below hY.bel) (some ⟨Y, 0, none⟩) h.n Z (hY.fl (by omega)) RG (fun a e => by injection e with e; subst e; show ¬ (Y = h.L ∨ Y = h.X); omega)
      have I2 := Lib.hid (II.out.step (Z := Z) (fun i hi => by
        have := zb i
        have := ea i hi
        show 0 ≤ Z i ∧ Z i ≤ (h.D i).a * (h.s + 200 - h.s)
        rw [show h.s + 200 - h.s = 200 by omega]
        omega))
      have I2b := Lib.hid (IIb.out.step (Z := Z) (fun i hi => by
        have := zb i
        have := ea i hi
        show 0 ≤ Z i ∧ Z i ≤ (h.D i).a * (h.s + dg + 200 - (h.s + dg))
        rw [show h.s + dg + 200 - (h.s + dg) = 200 by omega]
        omega))
      have OU := II.out.ou (by show h.s + 200 ≤ h.s + 2000; omega) h.n (Nat.le_refl _)
      obtain ⟨TS1, TS2⟩ := tw_step (g := b) (o := o) HG.out HF.out Z
      have TT := fun i (hi : i < h.n) => tw_T (g := b) (o := ((h.at E o).stp Z).o) (E := ((h.at E o).stp Z).E) (F := ((h.tw b (h.s + dg) F o).stp Z).E) HG.out TS1 hi
      rw [at_stp] at SP I2
      rw [tw_stp] at I2b
      obtain ⟨E', hE'⟩ : ∃ E', E' = ((h.at E o).stp Z).E := ⟨_, rfl⟩
      obtain ⟨o', ho'⟩ : ∃ o', o' = ((h.at E o).stp Z).o := ⟨_, rfl⟩
      obtain ⟨F', hF'⟩ : ∃ F', F' = ((h.tw b (h.s + dg) F o).stp Z).E := ⟨_, rfl⟩
      have OB : 0 ≤ o' ∧ o' ≤ 60000 * ((j : Int) + 1) := by
        rw [ho']
        show 0 ≤ o + (h.at E o).ouK h.n ∧ o + (h.at E o).ouK h.n ≤ _
        have : (h.n : Int) ≤ 5 := by omega
        omega
      have SZ2 := RG.szf (by show h.m ≤ 1000; omega)
      rw [TS2, ← ho', ← hF'] at I2b
      rw [← hE', ← ho'] at SP I2
      rw [← hF', ← hE'] at TS1
      have TT : Hid (∀ i, i < h.n → (h.tw b (h.s + dg) F' o').T i = (h.at E' o').T i + dg) := fun i hi => by
        have := TT i hi
        rw [← hF', ← hE', ← ho'] at this
        exact this
      have TS1 := Lib.hid TS1
      have hstb : ((h.tw b (h.s + dg) F o).stp Z) = h.tw b (h.s + dg) F' o' := by rw [tw_stp, TS2, ← ho', ← hF']
      have HSTB := Lib.hid hstb
      have RGB := Lib.hid RGb
      clear hE' ho' hF' RG RGb OU hY TS2 SZ2 ea hstb
      go_wp2_with fail
      refine SP.mono ?_
      clear SP
      rintro e w8 ⟨v, rfl, hT, hK8, hC8⟩
      obtain ⟨A6, c6, rfl, hF6, hA6⟩ := hT
      have hC8 : Chg h.wr w7 w8 := hC8
      have hF6 : Fl w8 A6 1 h.n (eV (h.at E' o').T) := hF6
      obtain ⟨tb, tf, rfl, -⟩ := hF6.addr n1
      have tb0 := (hA6 _ rfl).1
      have hKb8 : Hm w8 (h.tw b (h.s + dg) F o) := (HKb.out.below LY.out.bel).keep hC8 (fun x hx hw => by
        have h1 : b.uses x := hx
        have h2 := HUb.out x h1
        have h3 := HUa.out x (by rcases hw with q | q; exact .inl q; exact .inr (.inl q))
        omega)
      have LY8 : Fl w8 (some ⟨Y, 0, none⟩) 1 h.n (eV Z) := (LY.out.fl (by omega)).chg hC8 (fun a e _ => by injection e with e; subst e; show ¬ (Y = h.L ∨ Y = h.X); omega)
      have SP : Calls Try.prog 19 #[.pointer (some ⟨b.L, 0, none⟩), .slice (some ⟨Y, 0, none⟩) h.n h.n] w8 (StP w8 (h.tw b (h.s + dg) F o) (h.tw b (h.s + dg) F' o')) := by
        rw [← HSTB.out]
        exact stp_any hKb8 (some ⟨Y, 0, none⟩) h.n Z LY8 RGB.out (fun a e => by injection e with e; subst e; show ¬ (Y = b.L ∨ Y = b.X); omega)
      have F6 := Lib.hid hF6
      have K8 := Lib.hid hK8
      have C8 := Lib.hid (CC.out.trans ((Chg.of_below LY.out.bel _).trans (hC8.mono (fun _ _ q => .inl q))))
      have FY8 := Lib.hid LY8
      have sz8 := hC8.size
      have sz7 := LY.out.bel.size
      clear hK8 hC8 hF6 hA6 HK HKb CC hKb8 LY8 LY
      go_wp2_with fail
      refine SP.mono ?_
      clear SP
      rintro e w9 ⟨v, rfl, hT, hK9, hC9⟩
      obtain ⟨A7, c7, rfl, hF7, hA7⟩ := hT
      have hC9 : Chg b.wr w8 w9 := hC9
      have hF7 : Fl w9 A7 1 h.n (eV (h.tw b (h.s + dg) F' o').T) := hF7
      obtain ⟨ub, uf, rfl, -⟩ := hF7.addr n1
      have K8' : Hm w9 (h.at E' o') := K8.out.keep hC9 (fun x hx hw => by
        have h1 : h.uses x := hx
        have h2 := HUa.out x h1
        have h3 := HUb.out x (by rcases hw with q | q; exact .inl q; exact .inr (.inl q))
        omega)
      have F6' : Fl w9 (some ⟨tb, tf, none⟩) 1 h.n (eV (h.at E' o').T) := F6.out.chg hC9 (fun a e _ => by injection e with e; subst e; show ¬ (tb = b.L ∨ tb = b.X); omega)
      have FY9 : Fl w9 (some ⟨Y, 0, none⟩) 1 h.n (eV Z) := FY8.out.chg hC9 (fun a e _ => by injection e with e; subst e; show ¬ (Y = b.L ∨ Y = b.X); omega)
      have C9 := Lib.hid (C8.out.trans (hC9.mono (fun _ _ q => .inr q)))
      have X9 := Lib.hid (XX.out w9 C9.out)
      have s0 := X9.out.s0
      have s1 := X9.out.s1
      have s2 := X9.out.s2
      have lS9 := X9.out.lS
      have BN1 := bnd_any X9.out.va (some A1) h.n B1 cb (some ⟨Y, 0, none⟩) h.n Z w9 X9.out.dm X9.out.lk FY9 (fun i _ => by have := zb i; omega)
      have BN2 := Lib.hid (fun (W : World) (hb : Below w9.heap.size w9 W) => bnd_any (s := h.s + dg) (HG.out.va n1 n5 m12 (by omega) (by omega)) (some A1) h.n B1 cb (some ⟨Y, 0, none⟩) h.n Z W (X9.out.dm.below' hb) (X9.out.lk.below' hb) (FY9.below' hb) (fun i _ => by have := zb i; omega))
      have RB := riK_b (D := h.D) (Z := Z) (n := h.n) (t := 200) (fun i hi => (HG.out.d i hi).1) (fun i _ => zb i) (by omega) h.n (Nat.le_refl _)
      obtain ⟨r0, r1, -⟩ := RB
      generalize riK h.D Z h.n = rise at *
      have K9 := Lib.hid hK9
      have K8 := Lib.hid K8'
      have F6 := Lib.hid F6'
      have F7 := Lib.hid hF7
      clear hK9 hC9 hF7 hA7 K8' F6' FY9 FY8 C8
      go_wp2_with fail
      refine BN1.mono ?_
      clear BN1
      rintro e w10 ⟨rfl, hb10⟩
      have BN2 := BN2.out w10 hb10
      have X10 := X9.out.below hb10
      have s0 := X10.s0
      have s1 := X10.s1
      have s2 := X10.s2
      have lS9 := X10.lS
      have B10 := Lib.hid hb10
      have wdd : wrap64 (h.s + dg) = h.s + dg := IntWalk.wrap64_in _ (by omega)
      clear X10 hb10
      go_wp2_with fail
      refine BN2.mono ?_
      clear BN2 wdd
      rintro e w11 ⟨rfl, hb11⟩
      have B11 := Lib.hid (bel2 B10.out hb11)
      have RL1 : Calls Try.prog 22 #[.pointer (some ⟨h.L, 0, none⟩)] w11 (PuP w11 (.int .i64 o')) := rel_any (K8.out.below B11.out)
      have RL2 : Calls Try.prog 22 #[.pointer (some ⟨b.L, 0, none⟩)] w11 (PuP w11 (.int .i64 o')) := rel_any (K9.out.below B11.out)
      have hnn : (h.at E o).n = h.n := rfl
      have hnb : (h.tw b (h.s + dg) F o).n = h.n := rfl
      have bv : wrap64 (h.s + rise + dg) = h.s + dg + rise := (IntWalk.wrap64_in _ (by omega)).trans (by omega)
      have bv2 : ((h.s + dg + rise) != (h.s + rise + dg)) = false := bne_eq_false_iff_eq.2 (by omega)
      have C11 := Lib.hid (C9.out.trans (Chg.of_below B11.out _))
      have X11 := X9.out.below B11.out
      have lS11 := X11.lS
      have t0 := X11.s0
      have T0H := Lib.hid t0
      have DM := Lib.hid X11.dm
      have F6 := Lib.hid (F6.out.below' B11.out)
      have F7 := Lib.hid (F7.out.below' B11.out)
      have K8 := Lib.hid (K8.out.below B11.out)
      have K9 := Lib.hid (K9.out.below B11.out)
      obtain ⟨ab, ao, hA1, -⟩ := DM.out.addr n1
      have hA1 : A1 = ⟨ab, ao, none⟩ := by injection hA1
      subst hA1
      clear X11 t0 s0 s1 s2 lS9 hb11 X9 B11 B10
      go_upto_region 20 with (first | (go_at_call 22; refine RL1.mono ?_; rintro e w12 ⟨rfl, rfl⟩) | (go_at_call 22; refine RL2.mono ?_; rintro e w12 ⟨rfl, rfl⟩))
      clear RL1 RL2 bv bv2
      go_wp2_with fail
      go_loopw [28] (fun v28 wx => ∃ k : Nat, v28 = .int .i64 k ∧ k ≤ h.n ∧ Below w11.heap.size w11 wx) (fun v28 _ => h.n - (intOf v28).toNat)
      case atStart => exact ⟨0, rfl, Nat.zero_le _, Below.refl _ _⟩
      case round =>
        obtain ⟨k, rfl, hk, hB⟩ := hrel
        have BB := Lib.hid hB
        by_cases hlt4 : k < h.n
        · obtain ⟨tl, q0⟩ := (F6.out.below' hB).eat' rfl hlt4
          obtain ⟨ul, q1⟩ := (F7.out.below' hB).eat' rfl hlt4
          rw [TT.out k hlt4] at q1
          have s0 := (hB.cell (p := ⟨S, 0, none⟩) lS11).trans T0H.out
          have lS12 := Nat.lt_of_lt_of_le lS11 hB.size
          obtain ⟨dl, d0, -⟩ := (DM.out.below' hB).dat' rfl hlt4
          obtain ⟨T1, T2⟩ := I2.out.T (i := k) hlt4
          have T1 : h.s ≤ (h.at E' o').T k := T1
          have E1 := Lib.hid (fun nq => eng_any ((K8.out.below hB).below (bel_drewN (Below.refl wr.heap.size wr) nq)) (k : Int))
          have E2 := Lib.hid (fun nq => eng_any ((K9.out.below hB).below (bel_drewN (Below.refl wr.heap.size wr) nq)) (k : Int))
          have V1 : (h.at E' o').Ev (k : Int) = E' k := if_pos (by show 0 ≤ (k : Int) ∧ (k : Int) < (h.n : Nat); omega)
          have V2 : (h.tw b (h.s + dg) F' o').Ev (k : Int) = F' k := if_pos (by show 0 ≤ (k : Int) ∧ (k : Int) < (h.n : Nat); omega)
          rw [V1] at E1
          rw [V2] at E2
          have E1 : Hid (∀ nq, Calls Try.prog 24 #[.pointer (some ⟨h.L, 0, none⟩), .int .i64 k] (wr.drewN nq) (PuP (wr.drewN nq) (.int .i64 (E' k)))) := E1
          have E2 : Hid (∀ nq, Calls Try.prog 24 #[.pointer (some ⟨b.L, 0, none⟩), .int .i64 k] (wr.drewN nq) (PuP (wr.drewN nq) (.int .i64 (F' k)))) := E2
          have f1 := TS1.out k hlt4
          have eb := I2.out.eb a1 (by show h.s ≤ 70000; omega) (by show h.s + 200 ≤ h.s + 2000; omega) m12 k hlt4
          have eb : -200000000 ≤ E' k ∧ E' k ≤ 200000000 := eb
          obtain ⟨d1, d2, d3, d4⟩ := HG.out.d k hlt4
          have d5 := ldK_a HG.out h.m k (Nat.le_refl _)
          have mb := mul_bd (a := (h.D k).c) (b := dg) (A := 1000) (B := 100000) (by omega) (by omega) (by omega) (by omega)
          obtain ⟨cu, hcu⟩ : ∃ cu, cu = (h.D k).c * dg := ⟨_, rfl⟩
          obtain ⟨fk, hfk⟩ : ∃ fk, fk = F' k := ⟨_, rfl⟩
          obtain ⟨tu, htu⟩ : ∃ tu, tu = (h.at E' o').T k + dg := ⟨_, rfl⟩
          rw [← htu] at q1
          rw [← hfk] at E2 f1
          have WH1 := Lib.hid (both (x := (h.D k).c * dg) (y := cu) (by omega) hcu.symm)
          have WH2 := Lib.hid (both (x := E' k + cu) (y := fk) (by rw [hcu]; omega) (by rw [hcu, f1]))
          have WH3 := Lib.hid (both (x := (h.at E' o').T k + dg) (y := tu) (by omega) htu.symm)
          clear hB V1 V2 f1 eb d1 d2 d3 d4 d5 mb hcu hfk htu T1 T2
          generalize (h.at E' o').T k = tk at *
          generalize (h.D k).c = dc at *
          generalize E' k = ek at *
          obtain ⟨W1, W1w⟩ := WH1.out
          obtain ⟨W2, W2w⟩ := WH2.out
          obtain ⟨W3, W3w⟩ := WH3.out
          clear WH1 WH2 WH3
          go_upto_region 23 with fail
          have E1q : Hid (∀ nq, Calls Try.prog 24 #[.pointer (some ⟨h.L, 0, none⟩), .int .i64 k] (wr.drewN nq) fun e w' => e = .returned (.int .i64 ek) ∧ w' = wr.drewN nq) := fun nq => (E1.out nq).mono fun e w' h => ⟨h.1, h.2.symm⟩
          have E2q : Hid (∀ nq, Calls Try.prog 24 #[.pointer (some ⟨b.L, 0, none⟩), .int .i64 k] (wr.drewN nq) fun e w' => e = .returned (.int .i64 fk) ∧ w' = wr.drewN nq) := fun nq => (E2.out nq).mono fun e w' h => ⟨h.1, h.2.symm⟩
          clear E1 E2
          go_quiet ((go_at_call 24; (first | (with_reducible exact Calls.quiet_of_same (E1q.out _)) | (with_reducible exact Calls.quiet_of_same (E2q.out _)))))
          have NB := Lib.hid (bel_drewN BB.out nq)
          clear W1 W2 W3 W1w W2w W3w
          go_wp2
          go_roundw
          case rel => exact ⟨k + 1, by go_num, by omega, NB.out⟩
          case measure => simp [intOf]; omega
        · obtain rfl : k = h.n := by omega
          have hq4 : ¬ (h.n : Int) < (h.n : Int) := by omega
          have KN := Lib.hid (K8.out.below hB)
          have KM := Lib.hid (K9.out.below hB)
          have CN2 := Lib.hid (C11.out.trans (Chg.of_below hB _))
          clear hB BB
          go_wp2
          go_roundw
          case rel => exact ⟨j + 1, E', F', o', by go_num, by omega, KN.out, KM.out, I2.out, I2b.out, TS1.out, OB.1, by have := OB.2; omega, CN2.out⟩
          case measure => simp [intOf]; omega
    · have hq2 : ¬ (j : Int) < (pn : Int) := by omega
      clear hH hHb hI hIb hC HK HKb CC II IIb
      go_wp2_with (go_at_call 11; refine (AW.out _).mono ?_; rintro e w10 ⟨rfl, hb10⟩)
      go_ret
      exact ⟨rfl, bel2 BW.out hb10⟩
end Go.Proofs.Ytidegjinfacjjaa
