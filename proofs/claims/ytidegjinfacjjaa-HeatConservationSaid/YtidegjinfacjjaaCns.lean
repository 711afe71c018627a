/- HeatConservation: the walk. -/
import Derived.Test.YtidegjinfacjjaaSys
import Derived.Test.YtidegjinfacjjaaSmw
namespace Go.Proofs.Ytidegjinfacjjaa
open Go.ChangeShapes Go.WideShapes Go.ChangeAt Go.RowKit Go.Deep Go.Joins

set_option maxRecDepth 20000 in
set_option maxHeartbeats 16000000 in
theorem cns_any (A : Option Addr) (l c : Nat) (D0 : Nat → Dm) (B : Option Addr) (lk c2 : Nat) (K0 : Nat → Lk) (am : Int) (P : Option Addr) (pn pc : Nat) (g : Nat → Pw) (w : World) (hA : Fl w A 2 l (dV D0)) (hB : Fl w B 3 lk (lV K0)) (_ham : (Lit.int .i64 am).wf = true) (hP : Pws w P pn g) : Calls Try.prog 5 #[.slice A l c, .slice B lk c2, .int .i64 am, .slice P pn pc] w (LawPost w) := by
  have AW := Lib.hid (fun W => awake_any W)
  by_cases hm : 40 < pn
  · have q : (40 : Int) < (pn : Int) := by omega
    clear hA hB hP
    go_enter Try.func5, Try.ntmps5
    go_wp2_with (go_at_call 11; refine (AW.out _).mono ?_; rintro e w9 ⟨rfl, hb9⟩)
    go_ret
    exact ⟨rfl, hb9⟩
  have q : ¬ (40 : Int) < (pn : Int) := by omega
  have HP := Lib.hid hP
  clear hP
  have SO := som_any A l c D0 B lk c2 K0 am w hA hB
  clear hA hB
  go_enter Try.func5, Try.ntmps5
  go_wp2_with fail
  refine SO.mono ?_
  clear SO
  rintro e w1 ⟨n, D, m, K, amb, A1, B1, cb, rfl, hF1, hF2, hbn, hG, n1, n5, m12, a1, a2, hb1⟩
  have hx : Below w1.heap.size w1 (w1.alloc (.cells #[.slice (some A1) n n, .slice B1 m cb, .int .i64 amb] 27)) := bal (Below.refl _ _) _
  obtain ⟨s0, s1, s2⟩ := bx3 w1 (.slice (some A1) n n) (.slice B1 m cb) (.int .i64 amb) 27
  have hb2 := bel2 hb1 hx
  have lS : w1.heap.size < (w1.alloc (.cells #[.slice (some A1) n n, .slice B1 m cb, .int .i64 amb] 27)).heap.size := by simp
  have hG1 := hF1.below' hx
  have hG2 := hF2.below' hx
  have wS : w.heap.size ≤ w1.heap.size := hb1.size
  have NWH := Lib.hid (fun (W : World) (hb : Below (w1.alloc (.cells #[.slice (some A1) n n, .slice B1 m cb, .int .i64 amb] 27)).heap.size (w1.alloc (.cells #[.slice (some A1) n n, .slice B1 m cb, .int .i64 amb] 27)) W) => new_any (hG.va (s := amb) n1 n5 m12 a1 (by omega)) (some A1) n B1 cb W (hG1.below' hb) (hG2.below' hb) hbn)
  have NW := NWH.out _ (Below.refl _ _)
  clear hb1 hx hF1 hF2
  go_wp2_with fail
  generalize w1.alloc (.cells #[.slice (some A1) n n, .slice B1 m cb, .int .i64 amb] 27) = w2 at *
  generalize w1.heap.size = S at *
  clear w1
  refine NW.mono ?_
  clear NW
  rintro e w3 ⟨h, rfl, hH, rfl, rfl, rfl, rfl, rfl, hE, ho, hu, hb3⟩
  have X2 : Sx w w2 h S A1 B1 cb := ⟨s0, s1, s2, hG1, hG2, hbn, lS, hG, n1, n5, m12, a1, a2, hb2⟩
  have X3 := Lib.hid (X2.below hb3)
  have I0 := Lib.hid (inv_new (top := h.s + 1000) hG hE (by omega))
  have hwr : ∀ b, h.wr b → w2.heap.size ≤ b := fun b hb => (hu b (by rcases hb with x | x; exact .inl x; exact .inr (.inl x))).1
  have HW := Lib.hid hwr
  have HU := Lib.hid hu
  have HH := Lib.hid hH
  have HE := Lib.hid hE
  have HO := Lib.hid ho
  have HB3 := Lib.hid hb3
  have X2 := Lib.hid X2
  have HG := Lib.hid hG
  have hLw : w2.heap.size ≤ h.L ∧ w2.heap.size ≤ h.X := ⟨hwr _ (.inl rfl), hwr _ (.inr rfl)⟩
  have t0 := X3.out.s0
  have t1 := X3.out.s1
  have t2 := X3.out.s2
  have lS3 := X3.out.lS
  clear hG1 hG2 hbn hG hH hE ho hu hwr hb2 s0 s1 s2
  have A0 := Lib.hid X3.out.dm
  obtain ⟨ab, ao, hA1, -⟩ := A0.out.addr n1
  have HA1 := Lib.hid hA1
  have hA1 : A1 = ⟨ab, ao, none⟩ := by injection hA1
  subst hA1
  have SB : Hid (∀ i, i < h.n → -200000000 ≤ (h.D i).c * h.s ∧ (h.D i).c * h.s ≤ 200000000) := fun i hi => by
    have := I0.out.eb a1 (by omega) (by omega) m12 i hi
    rw [HE.out] at this
    exact this
  go_wp2_with fail
  go_loopw [13, 14] (fun v13 v14 wr => ∃ k : Nat, v13 = .int .i64 (sumK (fun i => (h.D i).c * h.s) k) ∧ v14 = .int .i64 k ∧ k ≤ h.n ∧ Below w3.heap.size w3 wr) (fun v13 v14 _ => h.n - (intOf v14).toNat)
  case atStart => exact ⟨0, rfl, rfl, Nat.zero_le _, Below.refl _ _⟩
  case round =>
    clear t0 t1 t2 lS3
    obtain ⟨k, rfl, rfl, hk, hB⟩ := hrel
    have Xr := Lib.hid (X3.out.below hB)
    have BB := Lib.hid hB
    have s0 := Xr.out.s0
    have s2 := Xr.out.s2
    have lS := Xr.out.lS
    by_cases hlt : k < h.n
    · obtain ⟨hb, d0, d1⟩ := Xr.out.dm.dat' rfl hlt
      have b1 := SB.out k hlt
      have b2 := sumK_b (k := k) (n := h.n) SB.out (by omega)
      obtain ⟨cs, hcs⟩ : ∃ cs, cs = (h.D k).c * h.s := ⟨_, rfl⟩
      obtain ⟨t, ht⟩ : ∃ t, t = sumK (fun i => (h.D i).c * h.s) k := ⟨_, rfl⟩
      obtain ⟨t', ht'⟩ : ∃ t', t' = t + cs := ⟨_, rfl⟩
      have WH1 := Lib.hid (both (x := (h.D k).c * h.s) (y := cs) (by omega) hcs.symm)
      have WH2 := Lib.hid (both (x := t + cs) (y := t') (by rw [ht, hcs]; omega) ht'.symm)
      have NX : Hid (t' = sumK (fun i => (h.D i).c * h.s) (k + 1)) := by show t' = sumK _ k + _; rw [ht', ht, hcs]
      rw [← ht]
      clear hcs ht ht' b1 b2 d1 hB
      obtain ⟨W1, W1w⟩ := WH1.out
      obtain ⟨W2, W2w⟩ := WH2.out
      clear WH1 WH2
      generalize (h.D k).c = dc at *
      go_upto_region 12 with fail
      go_quiet (fail)
      have NB := Lib.hid (bel_drewN BB.out nq)
      go_wp2
      go_roundw
      case rel => exact ⟨k + 1, by rw [NX.out], by go_num, by omega, NB.out⟩
      case measure => simp [intOf]; omega
    · obtain rfl : k = h.n := by omega
      have hq : ¬ (h.n : Int) < (h.n : Int) := by omega
      have T0 : Hid (sumK (fun i => (h.D i).c * h.s) h.n = sumK h.E h.n + h.o) := by
        show _ = _
        rw [HE.out, HO.out, Int.add_zero]
      rw [T0.out]
      have H1 := Lib.hid (HH.out.below hB)
      clear hB s0 s2 lS
      go_wp2_with fail
      generalize wr = w4 at *
      go_loopw [13, 15] (fun v13 v15 wr => ∃ (j : Nat) (E : Nat → Int) (o : Int), v13 = .int .i64 (sumK E h.n + o) ∧ v15 = .int .i64 j ∧ j ≤ pn ∧ Hm wr (h.at E o) ∧ Inv (h.at E o) (h.s + 1000) ∧ 0 ≤ o ∧ o ≤ 60000 * (j : Int) ∧ Chg h.wr w4 wr) (fun v13 v15 _ => pn - (intOf v15).toNat)
      case atStart => exact ⟨0, h.E, h.o, rfl, rfl, Nat.zero_le _, H1.out, I0.out, by rw [HO.out]; exact Int.le_refl _, by rw [HO.out]; show (0 : Int) ≤ _; omega, Chg.refl _ _⟩
      case round =>
        obtain ⟨j, E, o, rfl, rfl, hj, hH, hI, o1, o2, hC⟩ := hrel
        have HK := Lib.hid hH
        have CC := Lib.hid hC
        have II := Lib.hid hI
        have Xw := Lib.hid (X2.out.chg ((Chg.of_below (bel2 HB3.out BB.out) h.wr).trans hC) HW.out)
        have BW : Hid (Below w.heap.size w wr) := Xw.out.bel
        by_cases hlt2 : j < pn
        · obtain ⟨pb, po, rfl, hpb, p0, pF⟩ := HP.out.at BW.out hlt2
          have PW := Lib.hid (fun (W : World) (hb : Below wr.heap.size wr W) => pow_any (g j).a (g j).l (g j).c (g j).z h.n 1000 W (pF.below' hb) (by omega) (by omega))
          have PW1 := PW.out wr (Below.refl _ _)
          generalize (g j).a = ga at *
          generalize (g j).l = gl at *
          generalize (g j).c = gc at *
          generalize (g j).z = gz at *
          clear hH hI hC pF PW
          go_wp2_with fail
          refine PW1.mono ?_
          clear PW1
          rintro e w5 ⟨Y, rfl, hY, hY0, hY1, -, hb5⟩
          have zb := powZ_b gl gz 1000 (by omega)
          generalize powZ gl gz 1000 = Z at *
          have K5 := HK.out.below hb5
          have RG := II.out.rg (Z := Z) a1 (by show h.s ≤ 70000; omega) (by show h.s + 1000 ≤ h.s + 2000; omega) m12 (fun i _ => by have := zb i; omega) (by show _ ≤ o; omega) (by show o ≤ _; omega)
          have lLr := HK.out.lL
          have lXr := HK.out.lX
          have lLr : h.L < wr.heap.size := lLr
          have lXr : h.X < wr.heap.size := lXr
          have SP : Calls Try.prog 19 #[.pointer (some ⟨h.L, 0, none⟩), .slice (some ⟨Y, 0, none⟩) h.n h.n] w5 (StP w5 (h.at E o) ((h.at E o).stp Z)) := stp_any K5 (some ⟨Y, 0, none⟩) h.n Z hY RG (fun a e => by injection e with e; subst e; show ¬ (Y = h.L ∨ Y = h.X); omega)
          have I2 := Lib.hid (II.out.step (Z := Z) (fun i hi => by
            have := zb i
            have := (HG.out.d i hi).1
            show 0 ≤ Z i ∧ Z i ≤ (h.D i).a * (h.s + 1000 - h.s)
            have e : (h.D i).a * (h.s + 1000 - h.s) = (h.D i).a * 1000 := by rw [show h.s + 1000 - h.s = 1000 by omega]
            rw [e]
            omega))
          have OU := II.out.ou (by show h.s + 1000 ≤ h.s + 2000; omega) h.n (Nat.le_refl _)
          have BAL := balance (h := h.at E o) (Z := Z) HG.out
          rw [at_stp] at SP I2 BAL
          obtain ⟨E', hE'⟩ : ∃ E', E' = ((h.at E o).stp Z).E := ⟨_, rfl⟩
          obtain ⟨o', ho'⟩ : ∃ o', o' = ((h.at E o).stp Z).o := ⟨_, rfl⟩
          have BAL : sumK E' h.n + o' = sumK E h.n + o + sumK Z h.n := by rw [hE', ho']; exact BAL
          have OB : 0 ≤ o' ∧ o' ≤ 60000 * ((j : Int) + 1) := by
            rw [ho']
            show 0 ≤ o + (h.at E o).ouK h.n ∧ o + (h.at E o).ouK h.n ≤ _
            have : (h.n : Int) ≤ 5 := by omega
            omega
          rw [← hE', ← ho'] at SP I2
          have EB := Lib.hid (II.out.eb a1 (by show h.s ≤ 70000; omega) (by show h.s + 1000 ≤ h.s + 2000; omega) m12)
          have EB' := Lib.hid (I2.out.eb a1 (by show h.s ≤ 70000; omega) (by show h.s + 1000 ≤ h.s + 2000; omega) m12)
          have ZB : Hid (∀ i, i < h.n → -200000000 ≤ Z i ∧ Z i ≤ 200000000) := fun i _ => by have := zb i; omega
          have B5 := Lib.hid hb5
          have YF := Lib.hid hY
          clear hE' ho' RG K5 hb5 hY OU zb lLr lXr
          go_wp2_with fail
          refine SP.mono ?_
          clear SP
          rintro e w6 ⟨v, rfl, hT, hK6, hC6⟩
          obtain ⟨A6, c6, rfl, -, -⟩ := hT
          have hC6 : Chg h.wr w5 w6 := hC6
          have Y6 := YF.out.chg hC6 (fun a e _ => by injection e with e; subst e; show ¬ (Y = h.L ∨ Y = h.X); have := HK.out.lL; have := HK.out.lX; have l1 : h.L < wr.heap.size := HK.out.lL; have l2 : h.X < wr.heap.size := HK.out.lX; omega)
          have RL : Calls Try.prog 22 #[.pointer (some ⟨h.L, 0, none⟩)] w6 (PuP w6 (.int .i64 o')) := rel_any hK6
          have EN : Hid (∀ i : Nat, i < h.n → Calls Try.prog 24 #[.pointer (some ⟨h.L, 0, none⟩), .int .i64 i] w6 (PuP w6 (.int .i64 (E' i)))) := fun i hi => by
            have := eng_any hK6 (i : Int)
            rw [show (h.at E' o').Ev (i : Int) = E' i from if_pos (by show 0 ≤ (i : Int) ∧ (i : Int) < (h.n : Nat); omega)] at this
            exact this
          have K6 := Lib.hid hK6
          have CN := Lib.hid (CC.out.trans ((Chg.of_below B5.out _).trans hC6))
          have YF6 := Lib.hid Y6
          clear hK6 hC6 YF Y6 B5 HK CC
          go_wp2_with fail
          refine RL.mono ?_
          clear RL
          rintro e w7 ⟨rfl, rfl⟩
          have hbt : -(200000000 * (h.n : Int)) ≤ sumK E h.n ∧ sumK E h.n ≤ 200000000 * (h.n : Int) := sumK_b (k := h.n) (n := h.n) EB.out (Nat.le_refl _)
          generalize hT0 : sumK E h.n + o = T0 at *
          go_wp2_with fail
          go_loop [13, 19, 20] (fun v13 v19 v20 => ∃ k : Nat, v13 = .int .i64 (T0 + sumK Z k) ∧ v19 = .int .i64 (o' + sumK E' k) ∧ v20 = .int .i64 k ∧ k ≤ h.n) (fun v13 v19 v20 => h.n - (intOf v20).toNat)
          case atStart => exact ⟨0, by show _ = Value.int .i64 (T0 + 0); rw [Int.add_zero], by show _ = Value.int .i64 (o' + 0); rw [Int.add_zero], rfl, Nat.zero_le _⟩
          case round =>
            obtain ⟨k, rfl, rfl, rfl, hk2⟩ := hrel
            by_cases hlt3 : k < h.n
            · obtain ⟨yl, y0⟩ := YF6.out.eat' rfl hlt3
              rw [Nat.zero_add] at y0
              have ENk := EN.out k hlt3
              have b1 := sumK_b (k := k) (n := h.n) ZB.out (by omega)
              have b2 := sumK_b (k := k) (n := h.n) EB'.out (by omega)
              have b3 := ZB.out k hlt3
              have b4 : -200000000 ≤ E' k ∧ E' k ≤ 200000000 := EB'.out k hlt3
              obtain ⟨x, hx⟩ : ∃ x, x = T0 + sumK Z k := ⟨_, rfl⟩
              obtain ⟨y, hy⟩ : ∃ y, y = o' + sumK E' k := ⟨_, rfl⟩
              obtain ⟨x', hx'⟩ : ∃ x', x' = x + Z k := ⟨_, rfl⟩
              obtain ⟨y', hy'⟩ : ∃ y', y' = y + E' k := ⟨_, rfl⟩
              have WH1 := Lib.hid (both (x := x + Z k) (y := x') (by rw [hx, ← hT0]; omega) hx'.symm)
              have WH2 := Lib.hid (both (x := y + E' k) (y := y') (by rw [hy]; have b2 : -(200000000 * (k : Int)) ≤ sumK E' k ∧ sumK E' k ≤ 200000000 * (k : Int) := b2; omega) hy'.symm)
              have N1 : Hid (T0 + sumK Z (k + 1) = x') := by show T0 + (sumK Z k + Z k) = x'; rw [hx', hx]; omega
              have N2 : Hid (o' + sumK E' (k + 1) = y') := by show o' + (sumK E' k + E' k) = y'; rw [hy', hy]; omega
              rw [← hx, ← hy]
              clear b1 b2 b3 b4 hx hy hx' hy'
              obtain ⟨-, W1w⟩ := WH1.out
              obtain ⟨-, W2w⟩ := WH2.out
              clear WH1 WH2
              generalize Z k = zk at *
              generalize E' k = ek at *
              go_wp2_with (go_at_call 24; refine ENk.mono ?_; rintro e w8 ⟨rfl, rfl⟩)
              go_round
              case rel => exact ⟨k + 1, by rw [N1.out], by rw [N2.out, W2w], by go_num, by omega⟩
              case measure => simp [intOf]; omega
            · obtain rfl : k = h.n := by omega
              have hq3 : ¬ (h.n : Int) < (h.n : Int) := by omega
              have e1 : T0 + sumK Z h.n = sumK E' h.n + o' := by omega
              have e2 : o' + sumK E' h.n = sumK E' h.n + o' := by omega
              rw [e1, e2]
              clear e1 e2 BAL hbt
              generalize hfin : sumK E' h.n + o' = fin at *
              have HF := Lib.hid hfin
              clear hfin
              go_wp2
              go_roundw
              case rel => exact ⟨j + 1, E', o', by rw [HF.out], by go_num, by omega, K6.out, I2.out, OB.1, by have := OB.2; omega, CN.out⟩
              case measure => simp [intOf]; omega
        · have hq2 : ¬ (j : Int) < (pn : Int) := by omega
          clear hH hI hC HK CC II
          generalize sumK E h.n + o = T0 at *
          go_wp2_with (go_at_call 11; refine (AW.out _).mono ?_; rintro e w10 ⟨rfl, hb10⟩)
          go_ret
          exact ⟨rfl, bel2 BW.out hb10⟩
end Go.Proofs.Ytidegjinfacjjaa
