/- HeatEquilibrium: the walk. -/
import Derived.Test.YtidegjinfacjjaaEqm
import Derived.Test.YtidegjinfacjjaaSmw
namespace Go.Proofs.Ytidegjinfacjjaa
open Go.ChangeShapes Go.WideShapes Go.ChangeAt Go.RowKit Go.Deep Go.Joins

set_option maxRecDepth 20000 in
set_option maxHeartbeats 16000000 in
theorem eqw_any (A : Option Addr) (l c : Nat) (D0 : Nat → Dm) (B : Option Addr) (lk c2 : Nat) (K0 : Nat → Lk) (am : Int) (kk : Int) (w : World) (hA : Fl w A 2 l (dV D0)) (hB : Fl w B 3 lk (lV K0)) (_ham : (Lit.int .i64 am).wf = true) (hkk : (Lit.int .u8 kk).wf = true) : Calls Try.prog 7 #[.slice A l c, .slice B lk c2, .int .i64 am, .int .u8 kk] w (LawPost w) := by
  have AW := Lib.hid (fun W => awake_any W)
  have kb : 0 ≤ kk.tmod 8 ∧ kk.tmod 8 < 8 := ⟨Int.tmod_nonneg _ (by have := bounds_u8 hkk; omega), Int.tmod_lt_of_pos _ (by decide)⟩
  obtain ⟨p, hp⟩ : ∃ p, p = kk.tmod 8 := ⟨_, rfl⟩
  have HP := Lib.hid hp
  rw [← hp] at kb
  obtain ⟨p0, p7⟩ := kb
  clear hkk hp
  have SO := som_any A l c D0 B lk c2 K0 am w hA hB
  clear hA hB
  go_enter Try.func7, Try.ntmps7
  go_wp2_with fail
  refine SO.mono ?_
  clear SO
  rintro e w1 ⟨n, D, m, K, amb, A1, B1, cb, rfl, hF1, hF2, hbn, hG, n1, n5, m12, a1, a2, hb1⟩
  have hx : Below w1.heap.size w1 (w1.alloc (.cells #[.slice (some A1) n n, .slice B1 m cb, .int .i64 amb] 27)) := bal (Below.refl _ _) _
  obtain ⟨s0, s1, s2⟩ := bx3 w1 (.slice (some A1) n n) (.slice B1 m cb) (.int .i64 amb) 27
  have hb2 := bel2 hb1 hx
  have lS : w1.heap.size < (w1.alloc (.cells #[.slice (some A1) n n, .slice B1 m cb, .int .i64 amb] 27)).heap.size := by simp
  have hG1 := hF1.below' hx
  have hG2 := hF2.below' hx
  have wS : w.heap.size ≤ w1.heap.size := hb1.size
  have NWH := Lib.hid (fun (W : World) (hb : Below (w1.alloc (.cells #[.slice (some A1) n n, .slice B1 m cb, .int .i64 amb] 27)).heap.size (w1.alloc (.cells #[.slice (some A1) n n, .slice B1 m cb, .int .i64 amb] 27)) W) => new_any (hG.va (s := amb) n1 n5 m12 a1 (by omega)) (some A1) n B1 cb W (hG1.below' hb) (hG2.below' hb) hbn)
  have NW := NWH.out _ (Below.refl _ _)
  clear hb1 hx hF1 hF2
  go_wp2_with fail
  generalize w1.alloc (.cells #[.slice (some A1) n n, .slice B1 m cb, .int .i64 amb] 27) = w2 at *
  generalize w1.heap.size = S at *
  clear w1
  refine NW.mono ?_
  clear NW
  rintro e w3 ⟨h, rfl, hH, rfl, rfl, rfl, rfl, rfl, hE, ho, hu, hb3⟩
  have X2 : Sx w w2 h S A1 B1 cb := ⟨s0, s1, s2, hG1, hG2, hbn, lS, hG, n1, n5, m12, a1, a2, hb2⟩
  have X3 := Lib.hid (X2.below hb3)
  have I0 := Lib.hid (inv_new (top := h.s + 0) hG hE (by omega))
  have hwr : ∀ b, h.wr b → w2.heap.size ≤ b := fun b hb => (hu b (by rcases hb with x | x; exact .inl x; exact .inr (.inl x))).1
  have HW := Lib.hid hwr
  have HU := Lib.hid hu
  have HH := Lib.hid hH
  have HE := Lib.hid hE
  have HO := Lib.hid ho
  have HB3 := Lib.hid hb3
  have X2 := Lib.hid X2
  have HG := Lib.hid hG
  have hLw : w2.heap.size ≤ h.L ∧ w2.heap.size ≤ h.X := ⟨hwr _ (.inl rfl), hwr _ (.inr rfl)⟩
  have t0 := X3.out.s0
  have t1 := X3.out.s1
  have t2 := X3.out.s2
  have lS3 := X3.out.lS
  clear hG1 hG2 hbn hG hH hE ho hu hwr hb2 s0 s1 s2
  have A0 := Lib.hid X3.out.dm
  obtain ⟨ab, ao, hA1, -⟩ := A0.out.addr n1
  have hA1 : A1 = ⟨ab, ao, none⟩ := by injection hA1
  subst hA1
  have g0 := HG.out.d 0 (by omega)
  have g1 := ldK_a HG.out h.m 0 (Nat.le_refl _)
  have VA1 : Va 1 h.D 0 h.K h.s := ⟨Nat.le_refl _, by omega, by omega, ⟨by omega, by omega⟩, fun i hi => by
    obtain rfl : i = 0 := by omega
    omega, fun l hl => by omega, fun l l2 h1 h2 => by omega, fun i hi => by
    obtain rfl : i = 0 := by omega
    show (h.D 0).a ≤ (h.D 0).c
    omega⟩
  have NW2 := Lib.hid (fun (W : World) (hb : Below w3.heap.size w3 W) => new_any VA1 (some ⟨ab, ao, none⟩) h.n none 0 W ((X3.out.dm.below' hb).take 1 (by omega)) (fl_nil _ _ _) (fun _ => ⟨rfl, rfl⟩))
  have O0 : Hid (On (h.D 0).c (h.D 0).a h.s p ((h.D 0).c * h.s)) := ⟨by omega, by omega, by omega, by omega, a1, a2, p0, by omega, Int.le_refl _, by
    have : 0 ≤ (h.D 0).c * p := Int.mul_nonneg (by omega) p0
    rw [Int.mul_add]
    omega⟩
  clear g0 g1 VA1
  have n1i : (1 : Int) ≤ (h.n : Int) := by omega
  go_upto_region 3 with fail
  refine wp_region_noPanic ?_
  refine wp_region_held_drew (S := fun W => W.cell? ⟨S, 0, none⟩ = some (.slice (some ⟨ab, ao, none⟩) h.n h.n) ∧ W.cell? ⟨S, 2, none⟩ = some (.int .i64 h.s)) (by kernel_rfl) (⟨t0, t2⟩) (fun hHeld => ?_)
  refine wpAnyH_take (i := 0) (v := ?vn0) (by simp only [List.getElem?_toArray, List.getElem?_cons_zero]; rfl) (by kernel_rfl) (by kernel_rfl) (by kernel_rfl) (fun _ _ _ h => h) (Or.inl ⟨by rfl, ?yn0⟩) hHeld ?_
  case yn0 => (intro w hSw; go_simp <;> with_reducible rfl)
  simp only [Act.put, List.setIfInBounds_toArray, List.set_cons_zero, List.set_cons_succ]
  refine wpAnyH_take (i := 1) (v := ?vn1) (by simp only [List.getElem?_toArray, List.getElem?_cons_succ, List.getElem?_cons_zero]; rfl) (by kernel_rfl) (by kernel_rfl) (by kernel_rfl) (fun _ _ _ h => h) (Or.inl ⟨by rfl, ?yn1⟩) hHeld ?_
  case yn1 => (intro w hSw; go_simp <;> with_reducible rfl)
  simp only [Act.put, List.setIfInBounds_toArray, List.set_cons_zero, List.set_cons_succ]
  refine wpAnyH_take (i := 2) (v := ?vn2) (by simp only [List.getElem?_toArray, List.getElem?_cons_succ, List.getElem?_cons_zero]; rfl) (by kernel_rfl) (by kernel_rfl) (by kernel_rfl) (fun _ _ _ h => h) (Or.inl ⟨by rfl, ?yn2⟩) hHeld ?_
  case yn2 => (intro w hSw; go_simp <;> with_reducible rfl)
  simp only [Act.put, List.setIfInBounds_toArray, List.set_cons_zero, List.set_cons_succ]
  refine wpAnyH_take (i := 3) (v := ?vn3) (by simp only [List.getElem?_toArray, List.getElem?_cons_succ, List.getElem?_cons_zero]; rfl) (by kernel_rfl) (by kernel_rfl) (by kernel_rfl) (fun _ _ _ h => h) (Or.inl ⟨by rfl, ?yn3⟩) hHeld ?_
  case yn3 => (intro w hSw; go_simp <;> with_reducible rfl)
  simp only [Act.put, List.setIfInBounds_toArray, List.set_cons_zero, List.set_cons_succ]
  refine wpAnyH_take (i := 4) (v := ?vn4) (by simp only [List.getElem?_toArray, List.getElem?_cons_succ, List.getElem?_cons_zero]; rfl) (by kernel_rfl) (by kernel_rfl) (by kernel_rfl) (fun _ _ _ h => h) (Or.inl ⟨by rfl, ?yn4⟩) hHeld ?_
  case yn4 => (intro w hSw; go_simp <;> with_reducible rfl)
  simp only [Act.put, List.setIfInBounds_toArray, List.set_cons_zero, List.set_cons_succ]
  refine wpAnyH_ready (rs := [5]) (by kernel_rfl) (by simp) ?_
  refine AllReadyH.cons (by simp only [List.getElem?_toArray, List.getElem?_cons_succ, List.getElem?_cons_zero]; rfl) (fun K hK => ?_) ?_
  rotate_left
  · exact AllReadyH.nil
  go_simp
  go_at_call 14
  refine (NW2.out w3.drew (Below.refl _ _).drew).mono ?_
  rintro e w4 ⟨b, rfl, hH2, en, eD, em, eK, es, eE, eo, hu2, hb4⟩
  have k0 := (hb4.cell (p := ⟨S, 0, none⟩) lS3).trans t0
  have k2 := (hb4.cell (p := ⟨S, 2, none⟩) lS3).trans t2
  have HH2 := Lib.hid (And.intro hH2 (And.intro en (And.intro eD (And.intro em (And.intro eK (And.intro es (And.intro eE eo)))))))
  have HU2 := Lib.hid hu2
  have HB4 := Lib.hid hb4
  clear hH2 en eD em eK es eE eo hu2 hb4 t0 t1 t2
  go_wp2_with fail
  refine hK.out _ _ ?_ (fun hHeld => ?_)
  · exact ⟨k0, k2⟩
  clear hK K
  refine wpAnyH_take (i := 6) (v := ?vn6) (by simp only [List.getElem?_toArray, List.getElem?_cons_succ, List.getElem?_cons_zero]; rfl) (by kernel_rfl) (by kernel_rfl) (by kernel_rfl) (fun _ _ _ h => h) (Or.inl ⟨by rfl, ?yn6⟩) hHeld ?_
  case yn6 => (intro w hSw; go_simp <;> with_reducible rfl)
  simp only [Act.put, List.setIfInBounds_toArray, List.set_cons_zero, List.set_cons_succ]
  refine wpAnyH_take (i := 7) (v := ?vn7) (by simp only [List.getElem?_toArray, List.getElem?_cons_succ, List.getElem?_cons_zero]; rfl) (by kernel_rfl) (by kernel_rfl) (by kernel_rfl) (fun _ _ _ h => h) (Or.inl ⟨by rfl, ?yn7⟩) hHeld ?_
  case yn7 => (intro w hSw; go_simp <;> with_reducible rfl)
  simp only [Act.put, List.setIfInBounds_toArray, List.set_cons_zero, List.set_cons_succ]
  refine wpAnyH_take (i := 8) (v := ?vn8) (by simp only [List.getElem?_toArray, List.getElem?_cons_succ, List.getElem?_cons_zero]; rfl) (by kernel_rfl) (by kernel_rfl) (by kernel_rfl) (fun _ _ _ h => h) (Or.inl ⟨by rfl, ?yn8⟩) hHeld ?_
  case yn8 => (intro w hSw; go_simp <;> with_reducible rfl)
  simp only [Act.put, List.setIfInBounds_toArray, List.set_cons_zero, List.set_cons_succ]
  refine wpAnyH_take (i := 9) (v := ?vn9) (by simp only [List.getElem?_toArray, List.getElem?_cons_succ, List.getElem?_cons_zero]; rfl) (by kernel_rfl) (by kernel_rfl) (by kernel_rfl) (fun _ _ _ h => h) (Or.inl ⟨by rfl, ?yn9⟩) hHeld ?_
  case yn9 => (intro w hSw; go_simp <;> with_reducible rfl)
  simp only [Act.put, List.setIfInBounds_toArray, List.set_cons_zero, List.set_cons_succ]
  refine wpAnyH_take (i := 10) (v := ?vn10) (by simp only [List.getElem?_toArray, List.getElem?_cons_succ, List.getElem?_cons_zero]; rfl) (by kernel_rfl) (by kernel_rfl) (by kernel_rfl) (fun _ _ _ h => h) (Or.inl ⟨by rfl, ?yn10⟩) hHeld ?_
  case yn10 => (intro w hSw; go_simp <;> with_reducible rfl)
  simp only [Act.put, List.setIfInBounds_toArray, List.set_cons_zero, List.set_cons_succ]
  refine wpAnyH_done (by kernel_rfl) ?_ _
  refine NoPanic.normal ?_
  obtain ⟨hH2, en, eD, em, eK, es, eE, eo⟩ := HH2.out
  have hu2 := HU2.out
  have hb4 := HB4.out
  clear HH2 HU2 HB4 NW2
  have hb4 : Below w3.heap.size w3 w4 := (Below.refl w3.heap.size w3).drew.trans hb4
  have HUb : Hid (∀ x, b.uses x → w3.heap.size ≤ x ∧ x < w4.heap.size) := hu2
  have HUa : Hid (∀ x, h.uses x → w2.heap.size ≤ x ∧ x < w3.heap.size) := HU.out
  have X4 := Lib.hid (X3.out.below hb4)
  have s0 := X4.out.s0
  have s2 := X4.out.s2
  have lS4 := X4.out.lS
  have H4 := Lib.hid (HH.out.below hb4)
  have B4 := Lib.hid (bel2 HB3.out hb4)
  have sz34 := hb4.size
  have uL := HUa.out _ (.inl rfl)
  have uX := HUa.out _ (.inr (.inl rfl))
  have vL := HUb.out _ (.inl rfl)
  have vX := HUb.out _ (.inr (.inl rfl))
  have sz23 := HB3.out.size
  have HB := Lib.hid hH2
  have EN := Lib.hid en
  have EM := Lib.hid em
  have OB0 : Hid (On (b.D 0).c (b.D 0).a b.s p (b.E 0)) := by
    show On _ _ _ _ _
    rw [eE, eD, es]
    exact O0.out
  have EO := Lib.hid eo
  have ES := Lib.hid es
  have ED := Lib.hid eD
  have RI : Hid (∀ i, i < h.n → h.E i = (h.D i).c * h.s) := fun i _ => by rw [HE.out]
  clear hH2 en eD em eK es eE eo hu2 hb4 lS3 hb3 O0
  have XX := Lib.hid (fun (W : World) (hc : Chg (fun x => h.wr x ∨ b.wr x) w4 W) => X2.out.chg ((Chg.of_below B4.out (fun x => h.wr x ∨ b.wr x)).trans hc) (fun x hx => by
      rcases hx with (hx | hx) | (hx | hx)
      · omega
      · omega
      · have hx : x = b.L := hx; omega
      · have hx : x = b.X := hx; omega))
  go_wp2_with fail
  go_loopw [14] (fun v14 wr => ∃ (j : Nat) (E : Nat → Int), v14 = .int .i64 j ∧ j ≤ 5 ∧ Hm wr (h.at E 0) ∧ (∀ i, i < h.n → E i = (h.D i).c * h.s) ∧ Chg h.wr w4 wr) (fun v14 _ => 5 - (intOf v14).toNat)
  case atStart => exact ⟨0, h.E, rfl, by omega, by have := H4.out; rw [← HO.out]; exact this, RI.out, Chg.refl _ _⟩
  case round =>
    obtain ⟨j, E, rfl, hj, hH, hE, hC⟩ := hrel
    have HK := Lib.hid hH
    have CC := Lib.hid hC
    have HEE := Lib.hid hE
    have Xw := Lib.hid (XX.out wr (hC.mono (fun _ _ q => .inl q)))
    have s0 := Xw.out.s0
    have s2 := Xw.out.s2
    have lS5 := Xw.out.lS
    by_cases hlt : j < 5
    · have hmk := run_make_row' (P := Try.prog) 24 2 _ 8 Try.underlying24 info2 rfl .i64 .i64 h.n (by omega) (by omega)
      have LM := lr_made wr h.n 2
      have lLr : h.L < wr.heap.size := hH.lL
      have lXr : h.X < wr.heap.size := hH.lX
      have I0' : Inv (h.at E 0) h.s := ⟨HG.out, Int.le_refl _, fun i hi => by
        have hi : i < h.n := hi
        have d1 := HG.out.d i hi
        have d2 := ldK_a HG.out h.m i (Nat.le_refl _)
        show (h.D i).c * h.s ≤ E i ∧ E i < (h.D i).c * (h.s + 1)
        rw [hE i hi, Int.mul_add, Int.mul_one]
        omega⟩
      have RG := I0'.rg (Z := fun _ => 0) a1 (by show h.s ≤ 70000; omega) (by show h.s ≤ h.s + 2000; omega) m12 (fun i _ => ⟨Int.le_refl _, by decide⟩) (by show -1152921504606846976 ≤ (0 : Int); decide) (by show (0 : Int) ≤ _; decide)
      have SP : Calls Try.prog 19 #[.pointer (some ⟨h.L, 0, none⟩), .slice (some ⟨wr.heap.size, 0, none⟩) h.n h.n] _ (StP _ (h.at E 0) ((h.at E 0).stp (fun _ => 0))) := stp_any (HK.out.below LM.bel) (some ⟨wr.heap.size, 0, none⟩) h.n (fun _ => 0) (LM.fl (by omega)) RG (fun a e => by injection e with e; subst e; show ¬ (wr.heap.size = h.L ∨ wr.heap.size = h.X); omega)
      obtain ⟨R1, R2⟩ := rest_step (o := 0) HG.out hE
      rw [at_stp, R2] at SP
      obtain ⟨E', hE'⟩ : ∃ E', E' = ((h.at E 0).stp (fun _ => 0)).E := ⟨_, rfl⟩
      rw [← hE'] at SP R1
      have TT : Hid (∀ i, i < h.n → (h.at E' 0).T i = h.s) := fun i hi => rest_T HG.out R1 hi
      have R1 := Lib.hid R1
      have LMB := Lib.hid LM.bel
      clear hE' R2 RG I0' hH hE hC LM
      go_wp2_with fail
      refine SP.mono ?_
      clear SP hmk
      rintro e w8 ⟨v, rfl, hT, hK8, hC8⟩
      obtain ⟨A6, c6, rfl, hF6, hA6⟩ := hT
      have hF6 : Fl w8 A6 1 h.n (eV (h.at E' 0).T) := hF6
      obtain ⟨tb, tf, rfl, -⟩ := hF6.addr n1
      have K8 := Lib.hid hK8
      have C8 := Lib.hid (CC.out.trans ((Chg.of_below LMB.out _).trans hC8))
      have F6 := Lib.hid hF6
      have X8 := XX.out w8 (C8.out.mono (fun _ _ q => .inl q))
      have s0 := X8.s0
      have s2 := X8.s2
      have lS8 := X8.lS
      have S2H := Lib.hid s2
      have hnn : (h.at E 0).n = h.n := rfl
      clear hK8 hC8 hF6 hA6 X8 CC HK LMB
      go_wp2_with fail
      go_loopw [17] (fun v17 wx => ∃ k : Nat, v17 = .int .i64 k ∧ k ≤ h.n ∧ Below w8.heap.size w8 wx) (fun v17 _ => h.n - (intOf v17).toNat)
      case atStart => exact ⟨0, rfl, Nat.zero_le _, Below.refl _ _⟩
      case round =>
        obtain ⟨k, rfl, hk, hB⟩ := hrel
        have BB := Lib.hid hB
        have hnn : (h.at E 0).n = h.n := rfl
        by_cases hlt4 : k < h.n
        · obtain ⟨tl, q0⟩ := (F6.out.below' hB).eat' rfl hlt4
          rw [TT.out k hlt4] at q0
          have s2 := (hB.cell (p := ⟨S, 2, none⟩) lS8).trans S2H.out
          have lS9 := Nat.lt_of_lt_of_le lS8 hB.size
          clear hB
          generalize h.s = hs at *
          go_upto_region 15 with fail
          go_quiet (fail)
          have NB := Lib.hid (bel_drewN BB.out nq)
          go_wp2
          go_roundw
          case rel => exact ⟨k + 1, by go_num, by omega, NB.out⟩
          case measure => simp [intOf]; omega
        · obtain rfl : k = h.n := by omega
          have hq4 : ¬ (h.n : Int) < (h.n : Int) := by omega
          have KN := Lib.hid (K8.out.below hB)
          have CN2 := Lib.hid (C8.out.trans (Chg.of_below hB _))
          clear hB BB
          go_wp2
          go_roundw
          case rel => exact ⟨j + 1, E', by go_num, by omega, KN.out, R1.out, CN2.out⟩
          case measure => simp [intOf]; omega
    · obtain rfl : j = 5 := by omega
      have DM := Xw.out.dm
      obtain ⟨dl, d0, d1⟩ := DM.dat' rfl (show 0 < h.n by omega)
      rw [Nat.zero_mul, Nat.add_zero] at d0 d1
      have HBr := Lib.hid (HB.out.keep hC (fun x hx hw => by
        have h2 := HUb.out x hx
        have h3 := HUa.out x (by rcases hw with q | q; exact .inl q; exact .inr (.inl q))
        omega))
      obtain ⟨qa, hqa⟩ : ∃ qa, qa = p * (h.D 0).a := ⟨_, rfl⟩
      have g0 := HG.out.d 0 (by omega)
      have mb := mul_bd (a := p) (b := (h.D 0).a) (A := 7) (B := 6) (by omega) (by omega) (by omega) (by omega)
      have WQ3 : wrap64 qa = qa := IntWalk.wrap64_in _ (by omega)
      have WQ : wrap64 (p * (h.D 0).a) = qa := (IntWalk.wrap64_in _ (by omega)).trans hqa.symm
      have WK : IntKind.i64.wrap (kk.tmod 8) = p := by rw [← HP.out]; exact IntWalk.i64_in _ (by omega)
      have WK2 : wrap64 (kk.tmod 8) = p := by rw [← HP.out]; exact IntWalk.wrap64_in _ (by omega)
      have hx : Below wr.heap.size wr (wr.alloc (.cells #[.int .i64 qa] 2)) := bal (Below.refl _ wr) _
      have FP := Lib.hid (fl_one (heap_alloc_new wr (.cells #[.int .i64 qa] 2)) (E := fun _ => qa) rfl)
      have HB5 := Lib.hid (HBr.out.below hx)
      have HA5 := Lib.hid (HK.out.below hx)
      have C5 := Lib.hid (hC.trans (Chg.of_below hx _))
      have QA : Hid (qa = p * (b.D 0).a) := by show _ = _; rw [ED.out]; exact hqa
      have lP : wr.heap.size < (wr.alloc (.cells #[.int .i64 qa] 2)).heap.size := by simp
      have zr4 := hC.size
      have P0 : w4.heap.size ≤ wr.heap.size := zr4
      have hq' : p * (h.D 0).a = qa := hqa.symm
      clear hH hE hC DM mb g0 hx HBr zr4 HK CC Xw hqa
      go_wp2_with fail
      clear hq'
      generalize hw5 : wr.alloc (.cells #[.int .i64 qa] 2) = w5 at *
      clear hw5 WQ WQ3 WK WK2
      generalize wr.heap.size = Pb at *
      clear s0 s2 lS5 d0 d1 dl
      obtain ⟨wo, rfl⟩ : ∃ wo : World, wo = wr := ⟨_, rfl⟩
      have ST := Lib.hid (fun (W : World) (Eb : Nat → Int) (ob : Int) (hH : Hm W (b.at Eb ob)) (hOn : On (b.D 0).c (b.D 0).a b.s p (Eb 0)) (q1 : 0 ≤ ob) (q2 : ob ≤ 900000) (hC : Chg b.wr w5 W) => show
          Calls Try.prog 19 #[.pointer (some ⟨b.L, 0, none⟩), .slice (some ⟨Pb, 0, none⟩) (1 : Nat) 1] W (fun e w' => ∃ v E' o', e = .returned (.tuple #[v, .int .i64 0]) ∧ Hm w' (b.at E' o') ∧ On (b.D 0).c (b.D 0).a b.s p (E' 0) ∧ 0 ≤ o' ∧ o' ≤ ob + 100 ∧ Chg b.wr w5 w' ∧ (Eb 0 / (b.D 0).c < b.s + p → Eb 0 + 1 ≤ E' 0) ∧ (Eb 0 / (b.D 0).c = b.s + p → E' 0 = Eb 0)) from by
        have TB := hOn.T
        have a1' := hOn.a1
        have a6' := hOn.a6
        have RG := one_rg (b := b) (E := Eb) (o := ob) (p := p) (Z := fun _ => qa) EN.out EM.out hOn QA.out (by omega) (by omega)
        have FPW := FP.out.chg hC (fun a e _ => by injection e with e; subst e; show ¬ (Pb = b.L ∨ Pb = b.X); omega)
        have S1 := stp_any hH (some ⟨Pb, 0, none⟩) 1 (fun _ => qa) (by show Fl _ _ 1 b.n _; rw [EN.out]; exact FPW) RG (fun a e => by injection e with e; subst e; show ¬ (Pb = b.L ∨ Pb = b.X); omega)
        rw [show (b.at Eb ob).n = 1 from EN.out] at S1
        refine Calls.mono S1 ?_
        rintro e w' ⟨v, he, -, hK, hC2⟩
        have e1 : ((b.at Eb ob).stp (fun _ => qa)).E 0 = Eb 0 + (qa - (b.D 0).a * (Eb 0 / (b.D 0).c - b.s)) := one_E (h := b.at Eb ob) (Z := fun _ => qa) EM.out
        have e2 : ((b.at Eb ob).stp (fun _ => qa)).o = ob + (b.D 0).a * (Eb 0 / (b.D 0).c - b.s) := one_o (h := b.at Eb ob) EN.out
        have SS := hOn.step
        rw [← QA.out, ← e1] at SS
        have mm := mul_bd (a := (b.D 0).a) (b := Eb 0 / (b.D 0).c - b.s) (A := 6) (B := 7) (by omega) (by omega) (by omega) (by omega)
        have mp : 0 ≤ (b.D 0).a * (Eb 0 / (b.D 0).c - b.s) := Int.mul_nonneg (by omega) (by omega)
        exact ⟨v, ((b.at Eb ob).stp (fun _ => qa)).E, ((b.at Eb ob).stp (fun _ => qa)).o, he, hK, SS.1, (by have := e2; show 0 ≤ ((b.at Eb ob).stp (fun _ => qa)).o; generalize ((b.at Eb ob).stp (fun _ => qa)).o = oo at *; omega), (by have := e2; show ((b.at Eb ob).stp (fun _ => qa)).o ≤ _; generalize ((b.at Eb ob).stp (fun _ => qa)).o = oo at *; omega), hC.trans hC2, SS.2.1, SS.2.2⟩)
      have AA := Lib.hid (fun (W : World) (hC : Chg b.wr w5 W) => XX.out W ((C5.out.mono (fun _ _ q => .inl q)).trans (hC.mono (fun _ _ q => .inr q))))
      have TM := Lib.hid (fun (W : World) (Eb : Nat → Int) (ob : Int) (hH : Hm W (b.at Eb ob)) (hOn : On (b.D 0).c (b.D 0).a b.s p (Eb 0)) (q1 : 0 ≤ ob) (q2 : ob ≤ 900000) (nq : Nat) => show Calls Try.prog 26 #[.pointer (some ⟨b.L, 0, none⟩), .int .i64 0] (W.drewN nq) (QdP (W.drewN nq) (.int .i64 (Eb 0 / (b.D 0).c))) from by
        have RG := one_rg (b := b) (E := Eb) (o := ob) (p := p) (Z := fun _ => qa) EN.out EM.out hOn QA.out (by omega) (by omega)
        have := teq_any (hH.below (bel_drewN (Below.refl W.heap.size W) nq)) RG.sz 0
        rw [show (b.at Eb ob).Tv 0 = Eb 0 / (b.D 0).c from if_pos (by show 0 ≤ (0 : Int) ∧ (0 : Int) < (b.n : Int); have := EN.out; omega)] at this
        exact this)
      rw [ES.out] at ST TM OB0
      have HB5' : Hid (Hm w5 (b.at b.E b.o)) := HB5
      have o0 : b.o = 0 := EO.out
      have c0s := OB0.out.lo
      have c0t := OB0.out.top
      have ONT := Lib.hid (fun (e : Int) (h : On (b.D 0).c (b.D 0).a h.s p e) => h.top)
      have ONT2 := Lib.hid (fun (e : Int) (h : On (b.D 0).c (b.D 0).a h.s p e) => h.T)
      obtain ⟨sp, hsp⟩ : ∃ sp, sp = h.s + p := ⟨_, rfl⟩
      have WSP := Lib.hid (both (x := h.s + p) (y := sp) (by omega) hsp.symm)
      rw [← hsp] at ST ONT2
      clear hsp
      generalize (b.D 0).c * h.s = cs0 at *
      rw [show ((5 : Nat) : Int) = (5 : Int) from rfl]
      go_loopw [109] (fun v109 wr => ∃ (j : Nat) (Eb : Nat → Int) (ob : Int), v109 = .int .i64 j ∧ j ≤ 2000 ∧ Hm wr (b.at Eb ob) ∧ On (b.D 0).c (b.D 0).a h.s p (Eb 0) ∧ cs0 + j ≤ Eb 0 ∧ 0 ≤ ob ∧ ob ≤ 100 * (j : Int) ∧ Chg b.wr w5 wr) (fun v109 _ => 2000 - (intOf v109).toNat)
      case atStart => exact ⟨0, b.E, b.o, rfl, by omega, HB5'.out, OB0.out, by show cs0 + (0 : Int) ≤ _; omega, by rw [o0]; exact Int.le_refl _, by rw [o0]; show (0 : Int) ≤ _; omega, Chg.refl _ _⟩
      case round =>
        obtain ⟨j, Eb, ob, rfl, hj, hH, hOn, hcs, q1, q2, hC⟩ := hrel
        have tp := ONT.out _ hOn
        by_cases hlt : j < 2000
        case neg => exfalso; omega
        case pos =>
        have Xw := AA.out wr hC
        have s2 := Xw.s2
        have lS6 := Xw.lS
        have HK := Lib.hid hH
        have CC := Lib.hid hC
        have OO := Lib.hid hOn
        have STj := Lib.hid (fun (W : World) (hb : Below wr.heap.size wr W) => ST.out W Eb ob (hH.below hb) hOn q1 (by omega) (hC.trans (Chg.of_below hb _)))
        have TMj := Lib.hid (TM.out wr Eb ob hH hOn q1 (by omega))
        obtain ⟨tl1, tl2⟩ := ONT2.out _ hOn
        have hways : Eb 0 / (b.D 0).c = sp ∨ (Eb 0 / (b.D 0).c < sp ∧ (Eb 0 / (b.D 0).c == sp) = false) := by
          rcases Int.lt_or_eq_of_le tl2 with e | e
          · exact .inr ⟨e, beq_eq_false_iff_ne.2 (by omega)⟩
          · exact .inl e
        obtain ⟨tk, htk⟩ : ∃ tk, tk = Eb 0 / (b.D 0).c := ⟨_, rfl⟩
        rw [← htk] at hways TMj STj tl1
        have HTK := Lib.hid htk
        clear htk hH hOn hC Xw tl2 tp
        rcases hways with rfl | ⟨hw1, hw2⟩
        · obtain ⟨W1, W1w⟩ := WSP.out
          go_upto_region 21 with fail
          go_quiet ((go_at_call 26; with_reducible exact Calls.quiet_of (TMj.out _)))
          have NB := Lib.hid (bel_drewN (Below.refl wr.heap.size wr) nq)
          have HK0 := Lib.hid (HK.out.below NB.out)
          have CC0 := Lib.hid (CC.out.trans (Chg.of_below NB.out _))
          clear W1 W1w STj TMj HK CC
          go_wp2_with fail
          generalize wr.drewN nq = w6 at *
          clear s2 lS6 NB
          have D1 : decide ((j : Int) < 2000) = true := decide_eq_true (by omega)
          rw [D1]
          go_loopw [22] (fun v22 wx => ∃ (i : Nat) (Ec : Nat → Int) (oc : Int), v22 = .int .i64 i ∧ i ≤ 5 ∧ Hm wx (b.at Ec oc) ∧ On (b.D 0).c (b.D 0).a h.s p (Ec 0) ∧ Ec 0 / (b.D 0).c = tk ∧ 0 ≤ oc ∧ oc ≤ 200000 + 100 * (i : Int) ∧ Chg b.wr w5 wx) (fun v22 _ => 5 - (intOf v22).toNat)
          case atStart => exact ⟨0, Eb, ob, rfl, by omega, HK0.out, OO.out, HTK.out.symm, q1, by show ob ≤ 200000 + 100 * (0 : Int); omega, CC0.out⟩
          case round =>
            obtain ⟨i, Ec, oc, rfl, hi, hH, hOn, hEt, q3, q4, hC⟩ := hrel
            have Xw := AA.out wr hC
            have s2 := Xw.s2
            have lS6 := Xw.lS
            by_cases hlt4 : i < 5
            · have OO2 := Lib.hid hOn
              have STi := Lib.hid (fun (W : World) (hb : Below wr.heap.size wr W) => ST.out W Ec oc (hH.below hb) hOn q3 (by omega) (hC.trans (Chg.of_below hb _)))
              have HEt := Lib.hid hEt
              have TMi := Lib.hid (TM.out wr Ec oc hH hOn q3 (by omega))
              rw [hEt] at STi TMi
              clear hH hOn hC Xw hEt
              obtain ⟨W1, W1w⟩ := WSP.out
              go_upto_region 29 with fail
              go_quiet ((go_at_call 26; with_reducible exact Calls.quiet_of (TMi.out _)))
              have P1 := STi.out _ (bel_drewN (Below.refl wr.heap.size wr) nq)
              clear W1 W1w STi TMi
              go_wp2_with fail
              refine P1.mono ?_
              clear P1
              rintro e w9 ⟨v, E', o', rfl, hH9, hO9, r1, r2, hC9, -, hg⟩
              have HK9 := Lib.hid hH9
              have HO9 := Lib.hid hO9
              have HC9 := Lib.hid hC9
              have hg := Lib.hid (hg trivial)
              clear hH9 hO9 hC9
              go_wp2
              go_roundw
              case rel => exact ⟨i + 1, E', o', by go_num, by omega, HK9.out, HO9.out, by rw [hg.out]; exact HEt.out, r1, by omega, HC9.out⟩
              case measure => simp [intOf]; omega
            · obtain rfl : i = 5 := by omega
              have HA6 := HA5.out.keep hC (fun x hx hw => by
                have h3 := HUa.out x hx
                have h2 := HUb.out x (by rcases hw with q | q; exact .inl q; exact .inr (.inl q))
                omega)
              have RL : Calls Try.prog 22 #[.pointer (some ⟨h.L, 0, none⟩)] wr (PuP wr (.int .i64 0)) := rel_any HA6
              have BW := Lib.hid Xw.bel
              clear hH hOn hC Xw hEt HA6
              go_wp2_with (first | (go_at_call 22; refine RL.mono ?_; rintro e w10 ⟨rfl, rfl⟩) | (go_at_call 11; refine (AW.out _).mono ?_; rintro e w10 ⟨rfl, hb10⟩))
              go_ret
              exact ⟨rfl, bel2 BW.out hb10⟩
        · obtain ⟨W1, W1w⟩ := WSP.out
          go_upto_region 21 with fail
          go_quiet ((go_at_call 26; with_reducible exact Calls.quiet_of (TMj.out _)))
          have P1 := STj.out _ (bel_drewN (Below.refl wr.heap.size wr) nq)
          clear W1 W1w STj TMj
          go_wp2_with fail
          refine P1.mono ?_
          clear P1
          rintro e w9 ⟨v, E', o', rfl, hH9, hO9, r1, r2, hC9, hg, -⟩
          have HK9 := Lib.hid hH9
          have HO9 := Lib.hid hO9
          have HC9 := Lib.hid hC9
          have hg := hg hw1
          clear hH9 hO9 hC9 hw2
          go_wp2
          go_roundw
          case rel => exact ⟨j + 1, E', o', by go_num, by omega, HK9.out, HO9.out, by omega, r1, by omega, HC9.out⟩
          case measure => simp [intOf]; omega
end Go.Proofs.Ytidegjinfacjjaa
