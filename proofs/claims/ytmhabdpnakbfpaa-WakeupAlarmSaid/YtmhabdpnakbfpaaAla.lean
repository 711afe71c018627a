/- WakeupAlarm: the walk. -/
import Derived.Test.YtmhabdpnakbfpaaPur
namespace Go.Proofs.Ytmhabdpnakbfpaa
open Go.ChangeShapes Go.WideShapes Go.ChangeAt Go.RowKit Go.Deep Go.Joins

/-- An alarm is set. -/
def alS (s : WS) (a ck : Int) : WS := { s with al := true, a := a, ck := ck }
theorem alS_quiet {s : WS} (h : ∀ i, i < s.n → (s.q i).on = false) (a ck now : Int) (hn : now < a) : adv (alS s a ck) now = alS s a now := by
  rw [adv_quiet (alS s a ck) now (fun j hj => due_off (h j hj)) (by show (true && decide (a ≤ now)) = false; rw [decide_eq_false (by omega)]; rfl)]
  rfl
theorem sal_quiet {s : WS} (h : ∀ i, i < s.n → (s.q i).on = false) (now a : Int) (hd : (s.al && decide (s.a ≤ now)) = false) (hc : s.ck ≤ now) (h1 : now ≤ 10000) (h2 : now < a) (h3 : a ≤ 10000) : salS s now a = (alS s a now, 0) := by
  have e : salS s now a = (adv { adv s now with al := true, a := a } now, 0) := by
    unfold salS
    rw [vt_ok hc (by omega), decide_eq_true (show a ≤ 1152921504606846976 by omega)]
    rfl
  rw [e, adv_quiet s now (fun j hj => due_off (h j hj)) hd]
  have := alS_quiet h a now now h2
  exact Prod.ext this rfl
theorem alS_end {s : WS} (h : Idle s) (a ck : Int) : adv (alS s a ck) a = { s with al := false, a := a, ev := wI (s.ev + 1), ck := a } := by
  have e : advK (alS s a ck) a s.n = alS s a a := advK_quiet (alS s a ck) a s.n (fun j hj => due_off (h.q j hj))
  show advA (advK (alS s a ck) a s.n) a = _
  rw [e]
  unfold advA
  rw [if_pos (by show (true && decide (a ≤ a)) = true; rw [decide_eq_true (Int.le_refl _)]; rfl)]
  rfl
/-- The alarm has come. -/
def enS (s : WS) (a ck : Int) : WS := { s with al := false, a := a, ev := wI (s.ev + 1), ck := ck }
theorem enS_quiet {s : WS} (h : Idle s) (a ck now : Int) : adv (enS s a ck) now = enS s a now := by
  rw [idle_quiet (s := enS s a ck) ⟨h.q, rfl⟩ now]
  rfl
theorem av_ok {s : WS} {now : Int} (h1 : s.ck ≤ now) (h2 : now ≤ 100000) : avS s now = (adv s now, 0) := by unfold avS; rw [vt_ok h1 h2]; rfl
set_option maxRecDepth 20000 in
set_option maxHeartbeats 16000000 in
theorem ala_any (n : Int) (A : Option Addr) (m cc : Nat) (g : Nat → Cl) (at' other : Int) (w : World) (_hn : (Lit.int .i64 n).wf = true) (h : Cs w A m g) (hw1 : (Lit.int .u64 at').wf = true) (hw2 : (Lit.int .u64 other).wf = true) : Calls Try.prog 7 #[.int .i64 n, .slice A m cc, .int .u64 at', .int .u64 other] w (LawPost w) := by
  have AW := Lib.hid (fun W => awake_any W)
  by_cases hm : 20 < m
  · have q : (20 : Int) < (m : Int) := by omega
    clear h
    go_enter Try.func7, Try.ntmps7
    go_wp2_with (go_at_call 10; refine (AW.out _).mono ?_; rintro e w9 ⟨rfl, hb9⟩)
    go_ret
    exact ⟨rfl, hb9⟩
  have q : ¬ (20 : Int) < (m : Int) := by omega
  have M1 := mod_any n 4 (by decide) (by decide) w
  have hq4 := (modOf_spec n 4 (by decide) (by decide)).2
  generalize modOf n 4 = q4 at *
  obtain ⟨k, hk⟩ : ∃ k : Nat, k = q4 + 1 := ⟨_, rfl⟩
  have j1 : (1 : Int) + (q4 : Int) = (k : Int) := by omega
  have j2 : wrap64 (k : Int) = (k : Int) := IntWalk.wrap64_in _ (by omega)
  have k1 : 1 ≤ k := by omega
  have k4 : k ≤ 4 := by omega
  have ST := sta_any k A m cc g w k4 (by omega) h
  clear h
  have x0 : 0 ≤ at'.tmod 40 := Int.tmod_nonneg _ (u64_of_wf hw1).1
  have x1 : at'.tmod 40 < 40 := Int.tmod_lt_of_pos _ (by decide)
  have o0 : 0 ≤ other.tmod 80 := Int.tmod_nonneg _ (u64_of_wf hw2).1
  have o1 : other.tmod 80 < 80 := Int.tmod_lt_of_pos _ (by decide)
  generalize hx : at'.tmod 40 = x at *
  generalize ho : other.tmod 80 = o at *
  have HX := Lib.hid hx
  have HO := Lib.hid ho
  clear hw1 hw2 hx ho
  clear hq4 hk
  go_enter Try.func7, Try.ntmps7
  go_upto_region 4 with (go_at_call 13; refine M1.mono ?_; rintro e w5 ⟨rfl, rfl⟩)
  clear M1
  clear j1 j2
  go_wp2_with fail
  refine ST.mono ?_
  clear ST
  rintro e w1 ⟨s, y, rfl, hD, hsn, hIv⟩
  have DD := Lib.hid hD.dm
  have hC0 := hD.r.ck0
  have hC1 := hIv.c
  have hC2 := hIv.e0
  have hC3 := hIv.e1
  have hC4 := Lib.hid hIv.a
  clear hD hIv
  go_wp2_with fail
  generalize hC : s.ck = C at *
  have HC := Lib.hid hC
  clear hC
  go_loopw [13] (fun vi wr => ∃ (j : Nat) (t : WS), vi = .int .i64 j ∧ j ≤ k ∧ DM w wr s y t ∧ t.n = k ∧ t.L = s.L ∧ t.ck = C ∧ (∀ i, i < j → (t.q i).on = false) ∧ (t.al = true → t.a ≤ C + 11) ∧ 0 ≤ t.ev ∧ t.ev ≤ 120 + 6 * (j : Int)) (fun i _ => k - (intOf i).toNat)
  case atStart => exact ⟨0, s, rfl, Nat.zero_le _, DD.out, hsn, rfl, HC.out, fun i hi => by omega, hC4.out, hC2, by show s.ev ≤ 120 + 6 * ((0 : Nat) : Int); omega⟩
  case round =>
    clear DD hC4
    obtain ⟨j, t, rfl, hj, hD, htn, htL, htc, hoff, hal, he0, he1⟩ := hrel
    have D := Lib.hid hD
    by_cases hlt : j < k
    · have S := dea_step (s := t) (j := j) (by omega) C (by omega) (by omega) hoff hal
      have G := do_grow t 2 ⟨j, C, 0, 0⟩ he0 (by omega) (by omega)
      have G : Grow t (deaS t j C) := G
      have PD := dea_any hD.d.k j C
      rw [htL] at PD
      have SM := sm_dea t j C
      generalize deaS t j C = r at *
      obtain ⟨u, er⟩ := r
      obtain ⟨s1, s2, s3, s4⟩ := S
      have s1 : er = 0 := s1
      subst s1
      obtain ⟨g1, g2, -, g4⟩ := G
      simp only at s2 s3 s4 g1 g2 g4 PD SM
      have c7 := hD.r.c7
      have lY := hD.r.lL
      rw [HC.out] at c7
      have hjk : (j : Int) < (k : Int) := by omega
      have HQ := Lib.hid s3
      have HA := Lib.hid s4
      clear hD hoff hal s3 s4
      go_wp2_with fail
      refine PD.mono ?_
      clear PD
      intro e w2 hp
      obtain ⟨rfl, D2⟩ := D.out.imp SM hp
      have D2 := Lib.hid D2
      clear hp c7 lY D
      have uL : u.L = s.L := SM.L.trans htL
      have un : u.n = k := g4.trans htn
      clear SM
      go_wp2_with fail
      go_roundw
      case rel => exact ⟨j + 1, u, by go_num, by omega, D2.out, un, uL, s2, HQ.out, HA.out, by omega, by omega⟩
      case measure => simp [intOf]; omega
    · have hjk : ¬ (j : Int) < (k : Int) := by omega
      have hjk2 : j = k := by omega
      subst hjk2
      clear hlt
      have c7 := hD.r.c7
      have lY := hD.r.lL
      rw [HC.out] at c7
      obtain ⟨T, hT⟩ : ∃ T : Int, T = C + 30 := ⟨_, rfl⟩
      obtain ⟨d, hd⟩ : ∃ d : Int, d = 1 + x := ⟨_, rfl⟩
      obtain ⟨A1, hA1⟩ : ∃ A1 : Int, A1 = T + 1 + o := ⟨_, rfl⟩
      obtain ⟨A2, hA2⟩ : ∃ A2 : Int, A2 = T + d := ⟨_, rfl⟩
      obtain ⟨A3, hA3⟩ : ∃ A3 : Int, A3 = A2 - 1 := ⟨_, rfl⟩
      obtain ⟨A4, hA4⟩ : ∃ A4 : Int, A4 = T + 200 := ⟨_, rfl⟩
      have b0 : 0 ≤ T ∧ C + 11 ≤ T ∧ C ≤ T ∧ T ≤ 1000 := by omega
      have b1 : T < A1 ∧ A1 ≤ 2000 := by omega
      have b2 : T < A2 ∧ A2 ≤ 2000 ∧ T ≤ A3 ∧ A3 < A2 ∧ A3 ≤ A2 := by omega
      have b3 : A2 ≤ A4 ∧ A4 ≤ 2000 := by omega
      have w1e : IntKind.u64.wrap (C + 30) = T := by rw [hT]; exact wU_in (by omega) (by omega)
      have w2e : IntKind.u64.wrap (1 + x) = d := by rw [hd]; exact wU_in (by omega) (by omega)
      have w3e : IntKind.u64.wrap (T + 1) = T + 1 := wU_in (by omega) (by omega)
      have w4e : IntKind.u64.wrap (T + 1 + o) = A1 := by rw [hA1]; exact wU_in (by omega) (by omega)
      have w5e : IntKind.u64.wrap (T + d) = A2 := by rw [hA2]; exact wU_in (by omega) (by omega)
      have w6e : IntKind.u64.wrap (A2 - 1) = A3 := by rw [hA3]; exact wU_in (by omega) (by omega)
      have w7e : IntKind.u64.wrap (T + 200) = A4 := by rw [hA4]; exact wU_in (by omega) (by omega)
      clear hT hd hA1 hA2 hA3 hA4
      have ID := idle_adv t T (fun i hi => hoff i (by omega)) (fun h => by have := hal h; omega)
      have GE := adv_ev t T he0 (by omega) (by omega)
      have uc := adv_ck t T
      have SM := sm_adv t T
      have PD := avc_any hD.d.k T
      rw [htL, av_ok (by omega) (by omega)] at PD
      have xx := HX.out
      have oo := HO.out
      generalize adv t T = u at *
      simp only at PD
      clear hD hoff hal
      have uL : u.L = s.L := SM.L.trans htL
      have un : u.n = j := SM.n.trans htn
      have P1 := Lib.hid (fun (W : World) (hW : Wk W u) => show Calls Try.prog 24 #[.pointer (some ⟨s.L, 0, none⟩), .int .u64 T, .int .u64 A1] W (OpP W u (alS u A1 T) (.int .i64 0)) by
        have := sal_any hW T A1
        rw [uL, sal_quiet ID.q T A1 (by rw [ID.al]; rfl) (by omega) (by omega) (by omega) (by omega)] at this
        exact this)
      have P2 := Lib.hid (fun (W : World) (hW : Wk W (alS u A1 T)) => show Calls Try.prog 24 #[.pointer (some ⟨s.L, 0, none⟩), .int .u64 T, .int .u64 A2] W (OpP W (alS u A1 T) (alS u A2 T) (.int .i64 0)) by
        have := sal_any hW T A2
        rw [show (alS u A1 T).L = s.L from uL, sal_quiet (s := alS u A1 T) ID.q T A2 (by show (true && decide (A1 ≤ T)) = false; rw [decide_eq_false (by omega)]; rfl) (Int.le_refl T) (by omega) (by omega) (by omega)] at this
        exact this)
      have cu : ∀ a c, cnt (alS u a c) = 0 := fun a c => cntK_off _ u.n ID.q
      have PC1 := Lib.hid (fun (W : World) (c : Int) (hW : Wk W (alS u A2 c)) => show Calls Try.prog 17 #[.pointer (some ⟨s.L, 0, none⟩)] W (QuP W (.tuple #[.int .i64 u.ev, .int .i64 0])) by
        have := cnt_any hW
        rw [cu, show (alS u A2 c).L = s.L from uL] at this
        exact this)
      have P3 := Lib.hid (fun (W : World) (hW : Wk W (alS u A2 T)) => show Calls Try.prog 30 #[.pointer (some ⟨s.L, 0, none⟩), .int .u64 A3] W (OpP W (alS u A2 T) (alS u A2 A3) (.int .i64 0)) by
        have := avc_any hW A3
        rw [show (alS u A2 T).L = s.L from uL, av_ok (show (alS u A2 T).ck ≤ A3 by show T ≤ A3; omega) (by omega), alS_quiet ID.q A2 T A3 (by omega)] at this
        exact this)
      have AE : adv (alS u A2 A3) A2 = enS u A2 A2 := alS_end ID A2 A3
      have P4 := Lib.hid (fun (W : World) (hW : Wk W (alS u A2 A3)) => show Calls Try.prog 30 #[.pointer (some ⟨s.L, 0, none⟩), .int .u64 A2] W (OpP W (alS u A2 A3) (enS u A2 A2) (.int .i64 0)) by
        have := avc_any hW A2
        rw [show (alS u A2 A3).L = s.L from uL, av_ok (show (alS u A2 A3).ck ≤ A2 by show A3 ≤ A2; omega) (by omega), AE] at this
        exact this)
      have P5 := Lib.hid (fun (W : World) (hW : Wk W (enS u A2 A2)) => show Calls Try.prog 30 #[.pointer (some ⟨s.L, 0, none⟩), .int .u64 A4] W (OpP W (enS u A2 A2) (enS u A2 A4) (.int .i64 0)) by
        have := avc_any hW A4
        rw [show (enS u A2 A2).L = s.L from uL, av_ok (s := enS u A2 A2) (show A2 ≤ A4 by omega) (by omega), enS_quiet ID A2 A2 A4] at this
        exact this)
      have cz : ∀ c, cnt (enS u A2 c) = 0 := fun c => cntK_off _ u.n ID.q
      have ze : ∀ c, (enS u A2 c).ev = u.ev + 1 := fun c => wI_in (by omega) (by omega)
      have PC2 := Lib.hid (fun (W : World) (c : Int) (hW : Wk W (enS u A2 c)) => show Calls Try.prog 17 #[.pointer (some ⟨s.L, 0, none⟩)] W (QuP W (.tuple #[.int .i64 (u.ev + 1), .int .i64 0])) by
        have := cnt_any hW
        rw [cz, ze, show (enS u A2 c).L = s.L from uL] at this
        exact this)
      have S1 := Lib.hid (show Sm u (alS u A1 T) from ⟨rfl, rfl, rfl, rfl, rfl⟩)
      have S2 := Lib.hid (show Sm (alS u A1 T) (alS u A2 T) from ⟨rfl, rfl, rfl, rfl, rfl⟩)
      have S3 := Lib.hid (show Sm (alS u A2 T) (alS u A2 A3) from ⟨rfl, rfl, rfl, rfl, rfl⟩)
      have S4 := Lib.hid (show Sm (alS u A2 A3) (enS u A2 A2) from ⟨rfl, rfl, rfl, rfl, rfl⟩)
      have S5 := Lib.hid (show Sm (enS u A2 A2) (enS u A2 A4) from ⟨rfl, rfl, rfl, rfl, rfl⟩)
      have w8e : wrap64 (u.ev + 1) = u.ev + 1 := IntWalk.wrap64_in _ (by omega)
      have HSM := Lib.hid SM
      clear AE ID cu cz ze GE uc SM
      have PCa := Lib.hid (fun W hW => PC1.out W T hW)
      have PCb := Lib.hid (fun W hW => PC1.out W A3 hW)
      have PCc := Lib.hid (fun W hW => PC2.out W A2 hW)
      have PCd := Lib.hid (fun W hW => PC2.out W A4 hW)
      clear PC1 PC2
      generalize alS u A1 T = v1 at *
      generalize alS u A2 T = v2 at *
      generalize alS u A2 A3 = v3 at *
      generalize enS u A2 A2 = v4 at *
      generalize enS u A2 A4 = v5 at *
      generalize hxe : u.ev = xe at *
      clear hxe
      go_wp2_with fail
      refine PD.mono ?_
      clear PD
      intro e w2 hpw2
      obtain ⟨rfl, D2⟩ := D.out.imp HSM.out hpw2
      have D2 := Lib.hid D2
      clear hpw2 c7 lY D
      have PX := P1.out _ D2.out.d.k
      go_wp2_with fail
      refine PX.mono ?_
      clear PX P1
      intro e w3 hpw3
      obtain ⟨rfl, D3⟩ := D2.out.imp S1.out hpw3
      have D3 := Lib.hid D3
      clear hpw3 D2
      have PX := P2.out _ D3.out.d.k
      go_wp2_with fail
      refine PX.mono ?_
      clear PX P2
      intro e w4 hpw4
      obtain ⟨rfl, D4⟩ := D3.out.imp S2.out hpw4
      have D4 := Lib.hid D4
      clear hpw4 D3
      have PX := PCa.out _ D4.out.d.k
      go_wp2_with fail
      refine PX.mono ?_
      clear PX PCa
      rintro e w5 ⟨rfl, hbw5⟩
      have D5 := Lib.hid (D4.out.below hbw5)
      clear D4 hbw5
      have PX := P3.out _ D5.out.d.k
      go_wp2_with fail
      refine PX.mono ?_
      clear PX P3
      intro e w6 hpw6
      obtain ⟨rfl, D6⟩ := D5.out.imp S3.out hpw6
      have D6 := Lib.hid D6
      clear hpw6 D5
      have PX := PCb.out _ D6.out.d.k
      go_wp2_with fail
      refine PX.mono ?_
      clear PX PCb
      rintro e w7 ⟨rfl, hbw7⟩
      have D7 := Lib.hid (D6.out.below hbw7)
      clear D6 hbw7
      have PX := P4.out _ D7.out.d.k
      go_wp2_with fail
      refine PX.mono ?_
      clear PX P4
      intro e w8 hpw8
      obtain ⟨rfl, D8⟩ := D7.out.imp S4.out hpw8
      have D8 := Lib.hid D8
      clear hpw8 D7
      have PX := PCc.out _ D8.out.d.k
      go_wp2_with fail
      refine PX.mono ?_
      clear PX PCc
      rintro e w9 ⟨rfl, hbw9⟩
      have D9 := Lib.hid (D8.out.below hbw9)
      clear D8 hbw9
      have PX := P5.out _ D9.out.d.k
      go_wp2_with fail
      refine PX.mono ?_
      clear PX P5
      intro e w10 hpw10
      obtain ⟨rfl, D10⟩ := D9.out.imp S5.out hpw10
      have D10 := Lib.hid D10
      clear hpw10 D9
      have PX := PCd.out _ D10.out.d.k
      go_wp2_with fail
      refine PX.mono ?_
      clear PX PCd
      rintro e w11 ⟨rfl, hbw11⟩
      have D11 := Lib.hid (D10.out.below hbw11)
      clear D10 hbw11
      go_wp2_with (go_at_call 10; refine (AW.out _).mono ?_; rintro e w12 ⟨rfl, hb12⟩)
      go_ret
      exact ⟨rfl, bel2 D11.out.d.b hb12⟩
end Go.Proofs.Ytmhabdpnakbfpaa
