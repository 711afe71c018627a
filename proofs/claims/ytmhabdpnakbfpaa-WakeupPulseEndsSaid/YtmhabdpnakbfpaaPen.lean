/- WakeupPulseEnds: the walk. -/
import Derived.Test.YtmhabdpnakbfpaaPur
namespace Go.Proofs.Ytmhabdpnakbfpaa
open Go.ChangeShapes Go.WideShapes Go.ChangeAt Go.RowKit Go.Deep Go.Joins

set_option maxRecDepth 20000 in
set_option maxHeartbeats 16000000 in
theorem pen_any (n : Int) (A : Option Addr) (m cc : Nat) (g : Nat → Cl) (src hold : Int) (w : World) (_hn : (Lit.int .i64 n).wf = true) (h : Cs w A m g) (_hs : (Lit.int .i64 src).wf = true) (hw : (Lit.int .u64 hold).wf = true) : Calls Try.prog 6 #[.int .i64 n, .slice A m cc, .int .i64 src, .int .u64 hold] w (LawPost w) := by
  have AW := Lib.hid (fun W => awake_any W)
  by_cases hm : 20 < m
  · have q : (20 : Int) < (m : Int) := by omega
    clear h
    go_enter Try.func6, Try.ntmps6
    go_wp2_with (go_at_call 10; refine (AW.out _).mono ?_; rintro e w9 ⟨rfl, hb9⟩)
    go_ret
    exact ⟨rfl, hb9⟩
  have q : ¬ (20 : Int) < (m : Int) := by omega
  have M1 := mod_any n 4 (by decide) (by decide) w
  have hq4 := (modOf_spec n 4 (by decide) (by decide)).2
  generalize modOf n 4 = q4 at *
  obtain ⟨k, hk⟩ : ∃ k : Nat, k = q4 + 1 := ⟨_, rfl⟩
  have j1 : (1 : Int) + (q4 : Int) = (k : Int) := by omega
  have j2 : wrap64 (k : Int) = (k : Int) := IntWalk.wrap64_in _ (by omega)
  have k1 : 1 ≤ k := by omega
  have k4 : k ≤ 4 := by omega
  have ST := sta_any k A m cc g w k4 (by omega) h
  clear h
  have hh0 := (u64_of_wf hw).1
  have x0 : 0 ≤ hold.tmod 50 := Int.tmod_nonneg _ hh0
  have x1 : hold.tmod 50 < 50 := Int.tmod_lt_of_pos _ (by decide)
  have MS := Lib.hid (fun W => mod_any src k k1 (by omega) W)
  have hp := (modOf_spec src k k1 (by omega)).2
  generalize modOf src k = p at *
  generalize hx : hold.tmod 50 = x at *
  have HX := Lib.hid hx
  clear hw _hs hh0 hx
  clear hq4 hk
  go_enter Try.func6, Try.ntmps6
  go_upto_region 4 with (go_at_call 13; refine M1.mono ?_; rintro e w5 ⟨rfl, rfl⟩)
  clear M1
  clear j1 j2
  go_wp2_with fail
  refine ST.mono ?_
  clear ST
  rintro e w1 ⟨s, y, rfl, hD, hsn, hIv⟩
  have DD := Lib.hid hD.dm
  have hC0 := hD.r.ck0
  have hC1 := hIv.c
  have hC2 := hIv.e0
  have hC3 := hIv.e1
  have hC4 := Lib.hid hIv.a
  clear hD hIv
  go_wp2_with fail
  generalize hC : s.ck = C at *
  have HC := Lib.hid hC
  clear hC
  go_loopw [13] (fun vi wr => ∃ (j : Nat) (t : WS), vi = .int .i64 j ∧ j ≤ k ∧ DM w wr s y t ∧ t.n = k ∧ t.L = s.L ∧ t.ck = C ∧ (∀ i, i < j → (t.q i).on = false) ∧ (t.al = true → t.a ≤ C + 11) ∧ 0 ≤ t.ev ∧ t.ev ≤ 120 + 6 * (j : Int)) (fun i _ => k - (intOf i).toNat)
  case atStart => exact ⟨0, s, rfl, Nat.zero_le _, DD.out, hsn, rfl, HC.out, fun i hi => by omega, hC4.out, hC2, by show s.ev ≤ 120 + 6 * ((0 : Nat) : Int); omega⟩
  case round =>
    clear DD hC4
    obtain ⟨j, t, rfl, hj, hD, htn, htL, htc, hoff, hal, he0, he1⟩ := hrel
    have D := Lib.hid hD
    by_cases hlt : j < k
    · have S := dea_step (s := t) (j := j) (by omega) C (by omega) (by omega) hoff hal
      have G := do_grow t 2 ⟨j, C, 0, 0⟩ he0 (by omega) (by omega)
      have G : Grow t (deaS t j C) := G
      have PD := dea_any hD.d.k j C
      rw [htL] at PD
      have SM := sm_dea t j C
      generalize deaS t j C = r at *
      obtain ⟨u, er⟩ := r
      obtain ⟨s1, s2, s3, s4⟩ := S
      have s1 : er = 0 := s1
      subst s1
      obtain ⟨g1, g2, -, g4⟩ := G
      simp only at s2 s3 s4 g1 g2 g4 PD SM
      have c7 := hD.r.c7
      have lY := hD.r.lL
      rw [HC.out] at c7
      have hjk : (j : Int) < (k : Int) := by omega
      have HQ := Lib.hid s3
      have HA := Lib.hid s4
      clear hD hoff hal s3 s4
      go_wp2_with fail
      refine PD.mono ?_
      clear PD
      intro e w2 hp
      obtain ⟨rfl, D2⟩ := D.out.imp SM hp
      have D2 := Lib.hid D2
      clear hp c7 lY D
      have uL : u.L = s.L := SM.L.trans htL
      have un : u.n = k := g4.trans htn
      clear SM
      go_wp2_with fail
      go_roundw
      case rel => exact ⟨j + 1, u, by go_num, by omega, D2.out, un, uL, s2, HQ.out, HA.out, by omega, by omega⟩
      case measure => simp [intOf]; omega
    · have hjk : ¬ (j : Int) < (k : Int) := by omega
      have hjk2 : j = k := by omega
      subst hjk2
      clear hlt
      have c7 := hD.r.c7
      have lY := hD.r.lL
      rw [HC.out] at c7
      have ID := idle_adv t (C + 30) (fun i hi => hoff i (by omega)) (fun h => by have := hal h; omega)
      have GE := adv_ev t (C + 30) he0 (by omega) (by omega)
      have uc := adv_ck t (C + 30)
      have SM := sm_adv t (C + 30)
      have PD := avc_any hD.d.k (C + 30)
      rw [htL, show avS t (C + 30) = (adv t (C + 30), 0) by unfold avS; rw [vt_ok (by omega) (by omega)]; rfl] at PD
      have w1e : IntKind.u64.wrap (C + 30) = C + 30 := wU_in (by omega) (by omega)
      have w2e : IntKind.u64.wrap (1 + x) = 1 + x := wU_in (by omega) (by omega)
      have xx := HX.out
      generalize adv t (C + 30) = u at *
      simp only at PD
      clear hD hoff hal
      go_wp2_with fail
      refine PD.mono ?_
      clear PD
      intro e w2 hp2
      obtain ⟨rfl, D2⟩ := D.out.imp SM hp2
      have D2 := Lib.hid D2
      clear hp2 c7 lY D
      have uL : u.L = s.L := SM.L.trans htL
      have un : u.n = j := SM.n.trans htn
      have c0 : cnt u = 0 := cntK_off u u.n ID.q
      have PC := cnt_any D2.out.d.k
      rw [uL, c0] at PC
      clear SM
      have pL : (onS u p (C + 30 + (1 + x)) (C + 30)).L = s.L := uL
      have PP := Lib.hid (fun (W : World) (hW : Wk W u) => show Calls Try.prog 23 #[.pointer (some ⟨s.L, 0, none⟩), .int .i64 p, .int .u64 (C + 30), .int .u64 (1 + x)] W (OpP W u (onS u p (C + 30 + (1 + x)) (C + 30)) (.int .i64 0)) by
        have := pul_any hW p (C + 30) (1 + x)
        rw [uL, pul_idle ID (by omega) (C + 30) (1 + x) (by omega) (by omega) (by omega) (by omega) (by omega)] at this
        exact this)
      have w3e : IntKind.u64.wrap (C + 30 + (1 + x)) = C + 30 + (1 + x) := wU_in (by omega) (by omega)
      have w4e : IntKind.u64.wrap (C + 30 + (1 + x) - 1) = C + 30 + (1 + x) - 1 := wU_in (by omega) (by omega)
      have CT : ∀ ck, cnt (onS u p (C + 30 + (1 + x)) ck) = 1 := fun ck => onS_cnt ID (by omega) _ ck
      have PCo := Lib.hid (fun (W : World) (ck : Int) (hW : Wk W (onS u p (C + 30 + (1 + x)) ck)) => show Calls Try.prog 17 #[.pointer (some ⟨s.L, 0, none⟩)] W (QuP W (.tuple #[.int .i64 u.ev, .int .i64 1])) by
        have := cnt_any hW
        rw [CT ck, show (onS u p (C + 30 + (1 + x)) ck).L = s.L from uL] at this
        exact this)
      have PA1 := Lib.hid (fun (W : World) (hW : Wk W (onS u p (C + 30 + (1 + x)) (C + 30))) => show Calls Try.prog 30 #[.pointer (some ⟨s.L, 0, none⟩), .int .u64 (C + 30 + (1 + x) - 1)] W (OpP W (onS u p (C + 30 + (1 + x)) (C + 30)) (onS u p (C + 30 + (1 + x)) (C + 30 + (1 + x) - 1)) (.int .i64 0)) by
        have := avc_any hW (C + 30 + (1 + x) - 1)
        have e : avS (onS u p (C + 30 + (1 + x)) (C + 30)) (C + 30 + (1 + x) - 1) = (onS u p (C + 30 + (1 + x)) (C + 30 + (1 + x) - 1), 0) := by
          unfold avS
          rw [vt_ok (show (onS u p (C + 30 + (1 + x)) (C + 30)).ck ≤ _ by show C + 30 ≤ _; omega) (by omega), onS_quiet ID p (C + 30 + (1 + x)) (C + 30) (C + 30 + (1 + x) - 1) (by omega)]
          rfl
        rw [e, pL] at this
        exact this)
      have OE := onS_end ID (p := p) (by omega) (C + 30 + (1 + x)) (C + 30 + (1 + x) - 1)
      have SZ := sm_adv (onS u p (C + 30 + (1 + x)) (C + 30 + (1 + x) - 1)) (C + 30 + (1 + x))
      have PA2 := Lib.hid (fun (W : World) (hW : Wk W (onS u p (C + 30 + (1 + x)) (C + 30 + (1 + x) - 1))) => show Calls Try.prog 30 #[.pointer (some ⟨s.L, 0, none⟩), .int .u64 (C + 30 + (1 + x))] W (OpP W (onS u p (C + 30 + (1 + x)) (C + 30 + (1 + x) - 1)) (adv (onS u p (C + 30 + (1 + x)) (C + 30 + (1 + x) - 1)) (C + 30 + (1 + x))) (.int .i64 0)) by
        have := avc_any hW (C + 30 + (1 + x))
        have e : avS (onS u p (C + 30 + (1 + x)) (C + 30 + (1 + x) - 1)) (C + 30 + (1 + x)) = (adv (onS u p (C + 30 + (1 + x)) (C + 30 + (1 + x) - 1)) (C + 30 + (1 + x)), 0) := by
          unfold avS
          rw [vt_ok (show (onS u p (C + 30 + (1 + x)) (C + 30 + (1 + x) - 1)).ck ≤ _ by show C + 30 + (1 + x) - 1 ≤ _; omega) (by omega)]
          rfl
        rw [e, show (onS u p (C + 30 + (1 + x)) (C + 30 + (1 + x) - 1)).L = s.L from uL] at this
        exact this)
      rw [wI_in (by omega) (by omega)] at OE
      have w5e : wrap64 (u.ev + 1) = u.ev + 1 := IntWalk.wrap64_in _ (by omega)
      have S1 := Lib.hid (show Sm u (onS u p (C + 30 + (1 + x)) (C + 30)) from ⟨rfl, rfl, rfl, rfl, rfl⟩)
      have S2 := Lib.hid (show Sm (onS u p (C + 30 + (1 + x)) (C + 30)) (onS u p (C + 30 + (1 + x)) (C + 30 + (1 + x) - 1)) from ⟨rfl, rfl, rfl, rfl, rfl⟩)
      have zL : (adv (onS u p (C + 30 + (1 + x)) (C + 30 + (1 + x) - 1)) (C + 30 + (1 + x))).L = s.L := SZ.L.trans uL
      clear CT ID
      generalize hv1 : onS u p (C + 30 + (1 + x)) (C + 30) = v1 at *
      generalize hv2 : onS u p (C + 30 + (1 + x)) (C + 30 + (1 + x) - 1) = v2 at *
      generalize adv v2 (C + 30 + (1 + x)) = v3 at *
      have PC1 := Lib.hid (fun (W : World) (hW : Wk W v1) => PCo.out W (C + 30) (by rw [hv1]; exact hW))
      have PC2 := Lib.hid (fun (W : World) (hW : Wk W v2) => PCo.out W (C + 30 + (1 + x) - 1) (by rw [hv2]; exact hW))
      clear hv1 hv2 PCo
      generalize hxe : u.ev = xe at *
      clear hxe
      go_wp2_with fail
      refine PC.mono ?_
      clear PC
      rintro e w3 ⟨rfl, hb3⟩
      have D3 := Lib.hid (D2.out.below hb3)
      clear D2 hb3
      go_wp2_with fail
      refine (MS.out _).mono ?_
      rintro e w4 ⟨rfl, rfl⟩
      have P1 := PP.out _ D3.out.d.k
      go_wp2_with fail
      refine P1.mono ?_
      clear P1
      intro e w4 hp4
      obtain ⟨rfl, D4⟩ := D3.out.imp S1.out hp4
      have D4 := Lib.hid D4
      clear hp4 D3 PP
      have P1 := PC1.out _ D4.out.d.k
      go_wp2_with fail
      refine P1.mono ?_
      clear P1 PC1
      rintro e w5 ⟨rfl, hb5⟩
      have D5 := Lib.hid (D4.out.below hb5)
      clear D4 hb5
      have P1 := PA1.out _ D5.out.d.k
      go_wp2_with fail
      refine P1.mono ?_
      clear P1 PA1
      intro e w6 hp6
      obtain ⟨rfl, D6⟩ := D5.out.imp S2.out hp6
      have D6 := Lib.hid D6
      clear hp6 D5
      have P1 := PC2.out _ D6.out.d.k
      go_wp2_with fail
      refine P1.mono ?_
      clear P1 PC2
      rintro e w7 ⟨rfl, hb7⟩
      have D7 := Lib.hid (D6.out.below hb7)
      clear D6 hb7
      have P1 := PA2.out _ D7.out.d.k
      go_wp2_with fail
      refine P1.mono ?_
      clear P1 PA2
      intro e w8 hp8
      obtain ⟨rfl, D8⟩ := D7.out.imp SZ hp8
      have D8 := Lib.hid D8
      clear hp8 D7
      have P1 := cnt_any D8.out.d.k
      rw [zL, OE.1, OE.2] at P1
      go_wp2_with fail
      refine P1.mono ?_
      clear P1
      rintro e w9 ⟨rfl, hb9⟩
      have D9 := Lib.hid (D8.out.d.below hb9)
      clear D8 hb9
      have w6e : wrap64 (xe + 1) = xe + 1 := IntWalk.wrap64_in _ (by omega)
      go_wp2_with (go_at_call 10; refine (AW.out _).mono ?_; rintro e w10 ⟨rfl, hb10⟩)
      go_ret
      exact ⟨rfl, bel2 D9.out.b hb10⟩
end Go.Proofs.Ytmhabdpnakbfpaa
