/- HeatBoundHolds: the walk. -/
import Derived.Test.YtidegjinfacjjaaBnd
import Derived.Test.YtidegjinfacjjaaTeq
import Derived.Test.YtidegjinfacjjaaSmw
namespace Go.Proofs.Ytidegjinfacjjaa
open Go.ChangeShapes Go.WideShapes Go.ChangeAt Go.RowKit Go.Deep Go.Joins

theorem PwP.lr {w : World} {n : Nat} {Z : Nat → Int} {e : Ending} {w' : World} (h : PwP w n Z e w') : ∃ Y, e = .returned (.slice (some ⟨Y, 0, none⟩) n n) ∧ Lr w w' Y n Z := by
  obtain ⟨Y, he, hF, h0, h1, hf, hb⟩ := h
  refine ⟨Y, he, hb, h1, h0, fun j hj => ?_, hf⟩
  have := (hF.eat' rfl hj).2
  rw [Nat.zero_add] at this
  exact this
theorem Lr.fl {w wr : World} {Y n : Nat} {T : Nat → Int} (h : Lr w wr Y n T) (hn : n ≤ 1000) : Fl wr (some ⟨Y, 0, none⟩) 1 n (eV T) := ⟨by omega, .inr ⟨Y, 0, rfl, h.lY, fun j hj => by rw [Nat.zero_add]; exact h.at_ j (by omega)⟩⟩
set_option maxRecDepth 20000 in
set_option maxHeartbeats 16000000 in
theorem bhw_any (A : Option Addr) (l c : Nat) (D0 : Nat → Dm) (B : Option Addr) (lk c2 : Nat) (K0 : Nat → Lk) (am : Int) (M : Option Addr) (ml mc : Nat) (mz : Nat → Int) (P : Option Addr) (pn pc : Nat) (g : Nat → Pw) (w : World) (hA : Fl w A 2 l (dV D0)) (hB : Fl w B 3 lk (lV K0)) (_ham : (Lit.int .i64 am).wf = true) (hM : Fl w M 1 ml (eV mz)) (hP : Pws w P pn g) : Calls Try.prog 6 #[.slice A l c, .slice B lk c2, .int .i64 am, .slice M ml mc, .slice P pn pc] w (LawPost w) := by
  have AW := Lib.hid (fun W => awake_any W)
  by_cases hm : 60 < pn
  · have q : (60 : Int) < (pn : Int) := by omega
    clear hA hB hP hM
    go_enter Try.func6, Try.ntmps6
    go_wp2_with (go_at_call 11; refine (AW.out _).mono ?_; rintro e w9 ⟨rfl, hb9⟩)
    go_ret
    exact ⟨rfl, hb9⟩
  have q : ¬ (60 : Int) < (pn : Int) := by omega
  have HP := Lib.hid hP
  clear hP
  have HM := Lib.hid hM
  clear hM
  have SO := som_any A l c D0 B lk c2 K0 am w hA hB
  clear hA hB
  go_enter Try.func6, Try.ntmps6
  go_wp2_with fail
  refine SO.mono ?_
  clear SO
  rintro e w1 ⟨n, D, m, K, amb, A1, B1, cb, rfl, hF1, hF2, hbn, hG, n1, n5, m12, a1, a2, hb1⟩
  have hx : Below w1.heap.size w1 (w1.alloc (.cells #[.slice (some A1) n n, .slice B1 m cb, .int .i64 amb] 27)) := bal (Below.refl _ _) _
  obtain ⟨s0, s1, s2⟩ := bx3 w1 (.slice (some A1) n n) (.slice B1 m cb) (.int .i64 amb) 27
  have hb2 := bel2 hb1 hx
  have lS : w1.heap.size < (w1.alloc (.cells #[.slice (some A1) n n, .slice B1 m cb, .int .i64 amb] 27)).heap.size := by simp
  have hG1 := hF1.below' hx
  have hG2 := hF2.below' hx
  have wS : w.heap.size ≤ w1.heap.size := hb1.size
  have NWH := Lib.hid (fun (W : World) (hb : Below (w1.alloc (.cells #[.slice (some A1) n n, .slice B1 m cb, .int .i64 amb] 27)).heap.size (w1.alloc (.cells #[.slice (some A1) n n, .slice B1 m cb, .int .i64 amb] 27)) W) => new_any (hG.va (s := amb) n1 n5 m12 a1 (by omega)) (some A1) n B1 cb W (hG1.below' hb) (hG2.below' hb) hbn)
  have NW := NWH.out _ (Below.refl _ _)
  clear hb1 hx hF1 hF2
  go_wp2_with fail
  generalize w1.alloc (.cells #[.slice (some A1) n n, .slice B1 m cb, .int .i64 amb] 27) = w2 at *
  generalize w1.heap.size = S at *
  clear w1
  refine NW.mono ?_
  clear NW
  rintro e w3 ⟨h, rfl, hH, rfl, rfl, rfl, rfl, rfl, hE, ho, hu, hb3⟩
  have X2 : Sx w w2 h S A1 B1 cb := ⟨s0, s1, s2, hG1, hG2, hbn, lS, hG, n1, n5, m12, a1, a2, hb2⟩
  have X3 := Lib.hid (X2.below hb3)
  have I0 := Lib.hid (inv_new (top := h.s + 300) hG hE (by omega))
  have hwr : ∀ b, h.wr b → w2.heap.size ≤ b := fun b hb => (hu b (by rcases hb with x | x; exact .inl x; exact .inr (.inl x))).1
  have HW := Lib.hid hwr
  have HU := Lib.hid hu
  have HH := Lib.hid hH
  have HE := Lib.hid hE
  have HO := Lib.hid ho
  have HB3 := Lib.hid hb3
  have X2 := Lib.hid X2
  have HG := Lib.hid hG
  have hLw : w2.heap.size ≤ h.L ∧ w2.heap.size ≤ h.X := ⟨hwr _ (.inl rfl), hwr _ (.inr rfl)⟩
  have t0 := X3.out.s0
  have t1 := X3.out.s1
  have t2 := X3.out.s2
  have lS3 := X3.out.lS
  clear hG1 hG2 hbn hG hH hE ho hu hwr hb2 s0 s1 s2
  have PWT := pow_any M ml mc mz h.n 300 w3 (HM.out.below' (bel2 (X2.out.bel) hb3)) (by omega) (by omega)
  have zt := powZ_b ml mz 300 (by omega)
  generalize powZ ml mz 300 = Zt at *
  go_wp2_with fail
  refine PWT.mono ?_
  clear PWT
  rintro e w4 hp
  obtain ⟨Yt, rfl, hLt⟩ := PwP.lr hp
  clear hp
  have hb4 := hLt.bel
  have X4 := Lib.hid (X3.out.below hb4)
  have BN := bnd_any X4.out.va (some A1) h.n B1 cb (some ⟨Yt, 0, none⟩) h.n Zt w4 X4.out.dm X4.out.lk (hLt.fl (by omega)) (fun i _ => by have := zt i; omega)
  have RB := riK_b (D := h.D) (Z := Zt) (n := h.n) (t := 300) (fun i hi => (HG.out.d i hi).1) (fun i _ => zt i) (by omega) h.n (Nat.le_refl _)
  have RQ := Lib.hid (fun i (hi : i < h.n) => riQ_b (D := h.D) (Z := Zt) (HG.out.d i hi).1 (zt i).1)
  have s0 := X4.out.s0
  have s1 := X4.out.s1
  have s2 := X4.out.s2
  have lS4 := X4.out.lS
  obtain ⟨r0, r1, r2⟩ := RB
  have R2 := Lib.hid r2
  generalize riK h.D Zt h.n = rise at *
  have I0 := Lib.hid (inv_new (h := h) (top := h.s + rise) HG.out HE.out (by omega))
  have H4 := Lib.hid (HH.out.below hb4)
  have LT := Lib.hid hLt
  clear t0 t1 t2 lS3 hLt r2
  go_wp2_with fail
  refine BN.mono ?_
  clear BN
  rintro e w5 ⟨rfl, hb5⟩
  have H5 := Lib.hid (H4.out.below hb5)
  have B5 := Lib.hid (bel2 HB3.out (bel2 hb4 hb5))
  have LT5 := Lib.hid (LT.out.below hb5)
  have sb1 : -100 ≤ h.s := a1
  clear s0 s1 s2 lS4 hb4 hb5 H4 LT
  obtain ⟨bd, hbd⟩ : ∃ bd, bd = h.s + rise := ⟨_, rfl⟩
  have HBD := Lib.hid hbd
  rw [← hbd] at I0 ⊢
  clear hbd
  go_wp2_with fail
  generalize w5 = w6 at *
  go_loopw [18] (fun v18 wr => ∃ (j : Nat) (E : Nat → Int) (o : Int), v18 = .int .i64 j ∧ j ≤ pn ∧ Hm wr (h.at E o) ∧ Inv (h.at E o) bd ∧ 0 ≤ o ∧ o ≤ 60000 * (j : Int) ∧ Chg h.wr w6 wr) (fun v18 _ => pn - (intOf v18).toNat)
  case atStart => exact ⟨0, h.E, h.o, rfl, Nat.zero_le _, H5.out, I0.out, by rw [HO.out]; exact Int.le_refl _, by rw [HO.out]; show (0 : Int) ≤ _; omega, Chg.refl _ _⟩
  case round =>
    obtain ⟨j, E, o, rfl, hj, hH, hI, o1, o2, hC⟩ := hrel
    have HK := Lib.hid hH
    have CC := Lib.hid hC
    have II := Lib.hid hI
    have Xw := Lib.hid (X2.out.chg ((Chg.of_below B5.out h.wr).trans hC) HW.out)
    have BW : Hid (Below w.heap.size w wr) := Xw.out.bel
    have hbd2 : h.s ≤ bd ∧ bd ≤ h.s + 300 := by have := HBD.out; omega
    by_cases hlt2 : j < pn
    · obtain ⟨pb, po, rfl, hpb, p0, pF⟩ := HP.out.at BW.out hlt2
      have PW1 := pow_any (g j).a (g j).l (g j).c (g j).z h.n 300 wr pF (by omega) (by omega)
      have zb := powZ_b (g j).l (g j).z 300 (by omega)
      generalize powZ (g j).l (g j).z 300 = Z at *
      generalize (g j).a = ga at *
      generalize (g j).l = gl at *
      generalize (g j).c = gc at *
      generalize (g j).z = gz at *
      have lLr : h.L < wr.heap.size := hH.lL
      have lXr : h.X < wr.heap.size := hH.lX
      have FTr := Lib.hid ((LT5.out.fl (by omega)).chg hC (fun a e _ => by
        injection e with e; subst e
        have := LT5.out.Y0
        have l1 : h.L < w3.heap.size := HH.out.lL
        have l2 : h.X < w3.heap.size := HH.out.lX
        show ¬ (Yt = h.L ∨ Yt = h.X)
        omega))
      clear hH hI hC pF
      go_wp2_with fail
      refine PW1.mono ?_
      clear PW1
      rintro e w7 hp
      obtain ⟨Y, rfl, hY⟩ := PwP.lr hp
      clear hp
      have LY := Lib.hid hY
      have Y0 := hY.Y0
      have MZ : Hid (∀ i, i < h.n → 0 ≤ (if Zt i < Z i then Zt i else Z i) ∧ (if Zt i < Z i then Zt i else Z i) ≤ Zt i) := fun i _ => by have := zb i; have := zt i; split <;> omega
      have L0 : Hid (Lr wr w7 Y h.n (fun i => if i < 0 then (if Zt i < Z i then Zt i else Z i) else Z i)) := hY.congr (fun i _ => if_neg (by omega))
      clear hY LY
      go_wp2_with fail
      obtain ⟨wo, rfl⟩ : ∃ wo : World, wo = wr := ⟨_, rfl⟩
      go_loopw [20] (fun v20 wx => ∃ k : Nat, v20 = .int .i64 k ∧ k ≤ h.n ∧ Lr wo wx Y h.n (fun i => if i < k then (if Zt i < Z i then Zt i else Z i) else Z i)) (fun v20 _ => h.n - (intOf v20).toNat)
      case atStart => exact ⟨0, rfl, Nat.zero_le _, L0.out⟩
      case round =>
        clear L0
        obtain ⟨k, rfl, hk, hL⟩ := hrel
        have LL := Lib.hid hL
        by_cases hlt3 : k < h.n
        · have y0 := hL.at_ k hlt3
          rw [if_neg (Nat.lt_irrefl k)] at y0
          obtain ⟨tl, t0⟩ := (FTr.out.below' hL.bel).eat' rfl hlt3
          rw [Nat.zero_add] at t0
          have fy := hL.frz k
          have lY := hL.lY
          have NX : Hid (∀ x, x = (if Zt k < Z k then Zt k else Z k) → Lr wo (wr.setCell ⟨Y, k, none⟩ (.int .i64 x)).drew Y h.n (fun i => if i < k + 1 then (if Zt i < Z i then Zt i else Z i) else Z i)) := fun x hx => ((hL.set k hlt3 x).below (Below.refl _ _).drew).congr (fun i _ => by
            by_cases e : i = k
            · subst e; rw [if_pos (by omega), if_pos rfl, hx]
            · rw [if_neg e]
              by_cases e2 : i < k
              · rw [if_pos (by omega), if_pos e2]
              · rw [if_neg (by omega), if_neg e2])
          have hways : Zt k < Z k ∨ ¬ Zt k < Z k := by omega
          clear hL LL
          rcases hways with hw | hw
          · have NY := Lib.hid (NX.out (Zt k) (by rw [if_pos hw]))
            clear NX
            generalize Z k = zk at *
            generalize Zt k = ztk at *
            go_upto_region 17 with fail
            go_still_tail 12, (by kernel_rfl)
            go_wp2
            go_roundw
            case rel => exact ⟨k + 1, by go_num, by omega, NY.out⟩
            case measure => simp [intOf]; omega
          · have NY := Lib.hid (NX.out (Z k) (by rw [if_neg hw]))
            clear NX
            generalize Z k = zk at *
            generalize Zt k = ztk at *
            go_upto_region 17 with fail
            go_still_tail 12, (by kernel_rfl)
            go_wp2
            go_roundw
            case rel => exact ⟨k + 1, by go_num, by omega, NY.out⟩
            case measure => simp [intOf]; omega
        · obtain rfl : k = h.n := by omega
          have hq3 : ¬ (h.n : Int) < (h.n : Int) := by omega
          obtain ⟨Z', hZ'⟩ : ∃ Z' : Nat → Int, ∀ i, Z' i = if Zt i < Z i then Zt i else Z i := ⟨_, fun _ => rfl⟩
          have LZ := hL.congr (U := Z') (fun i hi => by rw [hZ' i, if_pos hi])
          have hz' : ∀ i, i < h.n → 0 ≤ Z' i ∧ Z' i ≤ Zt i := fun i hi => by rw [hZ' i]; exact MZ.out i hi
          clear hL LL zb hZ' MZ
          have K5 := HK.out.below LZ.bel
          have RG := II.out.rg (Z := Z') a1 (by show h.s ≤ 70000; omega) (by show bd ≤ h.s + 2000; omega) m12 (fun i hi => by have := hz' i hi; have := zt i; omega) (by show _ ≤ o; omega) (by show o ≤ _; omega)
          have LY := LZ.Y0
          have SP : Calls Try.prog 19 #[.pointer (some ⟨h.L, 0, none⟩), .slice (some ⟨Y, 0, none⟩) h.n h.n] wr (StP wr (h.at E o) ((h.at E o).stp Z')) := stp_any K5 (some ⟨Y, 0, none⟩) h.n Z' (LZ.fl (by omega)) RG (fun a e => by injection e with e; subst e; show ¬ (Y = h.L ∨ Y = h.X); omega)
          have I2 := Lib.hid (II.out.step (Z := Z') (fun i hi => by
            have hi : i < h.n := hi
            have z1 := hz' i hi
            obtain ⟨-, -, q3⟩ := RQ.out i hi
            have q4 := R2.out i hi
            have d1 := (HG.out.d i hi).1
            have hb := HBD.out
            show 0 ≤ Z' i ∧ Z' i ≤ (h.D i).a * (bd - h.s)
            have m1 : 0 ≤ (h.D i).a * (rise - riQ h.D Zt i) := Int.mul_nonneg (by omega) (by omega)
            rw [show bd - h.s = rise by omega]
            rw [Int.mul_sub] at m1
            omega))
          have OU := II.out.ou (by show bd ≤ h.s + 2000; omega) h.n (Nat.le_refl _)
          have SZ2 := Lib.hid (RG.szf (by show h.m ≤ 1000; omega))
          rw [at_stp] at SP I2 SZ2
          obtain ⟨E', hE'⟩ : ∃ E', E' = ((h.at E o).stp Z').E := ⟨_, rfl⟩
          obtain ⟨o', ho'⟩ : ∃ o', o' = ((h.at E o).stp Z').o := ⟨_, rfl⟩
          have OB : 0 ≤ o' ∧ o' ≤ 60000 * ((j : Int) + 1) := by
            rw [ho']
            show 0 ≤ o + (h.at E o).ouK h.n ∧ o + (h.at E o).ouK h.n ≤ _
            have : (h.n : Int) ≤ 5 := by omega
            omega
          rw [← hE', ← ho'] at SP I2 SZ2
          have B5' := Lib.hid LZ.bel
          clear hE' ho' RG K5 OU LZ hz'
          go_wp2_with fail
          refine SP.mono ?_
          clear SP
          rintro e w8 ⟨v, rfl, hT, hK6, hC6⟩
          obtain ⟨A6, c6, rfl, hF6, hA6⟩ := hT
          have hC6 : Chg h.wr wr w8 := hC6
          have hF6 : Fl w8 A6 1 h.n (eV (h.at E' o').T) := hF6
          obtain ⟨tb, tf, rfl, -⟩ := hF6.addr n1
          have F6 := Lib.hid hF6
          have K6 := Lib.hid hK6
          have CN := Lib.hid (CC.out.trans ((Chg.of_below B5'.out _).trans hC6))
          have lS8 : S < w8.heap.size := (X2.out.chg ((Chg.of_below B5.out h.wr).trans CN.out) HW.out).lS
          have s28 : w8.cell? ⟨S, 2, none⟩ = some (.int .i64 h.s) := (X2.out.chg ((Chg.of_below B5.out h.wr).trans CN.out) HW.out).s2
          have S28 := Lib.hid s28
          have hnn : (h.at E o).n = h.n := rfl
          clear hK6 hC6 hF6 hA6 B5' HK CC LY s28
          go_wp2_with fail
          go_loopw [23] (fun v23 wx => ∃ k : Nat, v23 = .int .i64 k ∧ k ≤ h.n ∧ Below w8.heap.size w8 wx) (fun v23 _ => h.n - (intOf v23).toNat)
          case atStart => exact ⟨0, rfl, Nat.zero_le _, Below.refl _ _⟩
          case round =>
            obtain ⟨k, rfl, hk, hB⟩ := hrel
            have BB := Lib.hid hB
            by_cases hlt4 : k < h.n
            · obtain ⟨tl, t0⟩ := (F6.out.below' hB).eat' rfl hlt4
              have s2 := (hB.cell (p := ⟨S, 2, none⟩) lS8).trans S28.out
              have lS9 := Nat.lt_of_lt_of_le lS8 hB.size
              obtain ⟨T1, T2⟩ := I2.out.T (i := k) hlt4
              have T1 : h.s ≤ (h.at E' o').T k := T1
              have TQ := Lib.hid (fun nq => teq_any ((K6.out.below hB).below (bel_drewN (Below.refl wr.heap.size wr) nq)) SZ2.out (k : Int))
              have TV : (h.at E' o').Tv (k : Int) = (h.at E' o').T k := if_pos (by show 0 ≤ (k : Int) ∧ (k : Int) < (h.n : Nat); omega)
              rw [TV] at TQ
              have TQ : Hid (∀ nq, Calls Try.prog 26 #[.pointer (some ⟨h.L, 0, none⟩), .int .i64 k] (wr.drewN nq) (QdP (wr.drewN nq) (.int .i64 ((h.at E' o').T k)))) := TQ
              clear hB TV
              generalize (h.at E' o').T k = tk at *
              have e1 : decide (tk < h.s) = false := decide_eq_false (by omega)
              have e2 : decide (bd < tk) = false := decide_eq_false (by omega)
              generalize h.s = hs at *
              go_upto_region 24 with fail
              go_quiet ((go_at_call 26; exact Calls.quiet_of (TQ.out _)))
              have NB := Lib.hid (bel_drewN BB.out nq)
              go_wp2
              go_roundw
              case rel => exact ⟨k + 1, by go_num, by omega, NB.out⟩
              case measure => simp [intOf]; omega
            · obtain rfl : k = h.n := by omega
              have hq4 : ¬ (h.n : Int) < (h.n : Int) := by omega
              have KN := Lib.hid (K6.out.below hB)
              have CN2 := Lib.hid (CN.out.trans (Chg.of_below hB _))
              clear hB BB
              go_wp2
              go_roundw
              case rel => exact ⟨j + 1, E', o', by go_num, by omega, KN.out, I2.out, OB.1, by have := OB.2; omega, CN2.out⟩
              case measure => simp [intOf]; omega
    · have hq2 : ¬ (j : Int) < (pn : Int) := by omega
      clear hH hI hC HK CC II
      go_wp2_with (go_at_call 11; refine (AW.out _).mono ?_; rintro e w10 ⟨rfl, hb10⟩)
      go_ret
      exact ⟨rfl, bel2 BW.out hb10⟩
end Go.Proofs.Ytidegjinfacjjaa
