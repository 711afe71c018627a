/- WakeupAbortsExactly: the walk. -/
import Derived.Test.YtmhabdpnakbfpaaAbp
namespace Go.Proofs.Ytmhabdpnakbfpaa
open Go.ChangeShapes Go.WideShapes Go.ChangeAt Go.RowKit Go.Deep Go.Joins

set_option maxRecDepth 20000 in
set_option maxHeartbeats 16000000 in
theorem abe_any (n : Int) (A : Option Addr) (m cc : Nat) (g : Nat → Cl) (B : Option Addr) (m2 cc2 : Nat) (g2 : Nat → Cl) (w : World) (_hn : (Lit.int .i64 n).wf = true) (h : Cs w A m g) (h2 : Cs w B m2 g2) : Calls Try.prog 5 #[.int .i64 n, .slice A m cc, .slice B m2 cc2] w (LawPost w) := by
  have AW := Lib.hid (fun W => awake_any W)
  by_cases hm : 20 < m
  · have q : (20 : Int) < (m : Int) := by omega
    clear h h2
    go_enter Try.func5, Try.ntmps5
    go_wp2_with (go_at_call 10; refine (AW.out _).mono ?_; rintro e w9 ⟨rfl, hb9⟩)
    go_ret
    exact ⟨rfl, hb9⟩
  have q : ¬ (20 : Int) < (m : Int) := by omega
  by_cases hm2 : 20 < m2
  · have q2 : (20 : Int) < (m2 : Int) := by omega
    clear h h2
    go_enter Try.func5, Try.ntmps5
    go_wp2_with (go_at_call 10; refine (AW.out _).mono ?_; rintro e w9 ⟨rfl, hb9⟩)
    go_ret
    exact ⟨rfl, hb9⟩
  have q2 : ¬ (20 : Int) < (m2 : Int) := by omega
  have M1 := mod_any n 4 (by decide) (by decide) w
  have hq4 := (modOf_spec n 4 (by decide) (by decide)).2
  generalize modOf n 4 = q4 at *
  obtain ⟨k, hk⟩ : ∃ k : Nat, k = q4 + 1 := ⟨_, rfl⟩
  have j1 : (1 : Int) + (q4 : Int) = (k : Int) := by omega
  have j2 : wrap64 (k : Int) = (k : Int) := IntWalk.wrap64_in _ (by omega)
  have k1 : 1 ≤ k := by omega
  have k4 : k ≤ 4 := by omega
  have H2 := Lib.hid h2
  clear h2
  have ST := sta_any k A m cc g w k4 (by omega) h
  clear h
  clear hq4 hk
  go_enter Try.func5, Try.ntmps5
  go_upto_region 4 with (go_at_call 13; refine M1.mono ?_; rintro e w5 ⟨rfl, rfl⟩)
  clear M1
  clear j1 j2
  go_wp2_with fail
  refine ST.mono ?_
  clear ST
  rintro e w1 ⟨s, y, rfl, hD, hsn, hIv⟩
  have DD := Lib.hid hD
  have hC0 := hD.r.ck0
  have hC1 := hIv.c
  have hC2 := hIv.e0
  have hC3 := hIv.e1
  have hC4 := Lib.hid hIv.a
  clear hD hIv
  go_wp2_with fail
  generalize hC : s.ck = C at *
  have HC := Lib.hid hC
  clear hC
  generalize hLY : y.L = LY at *
  have HLY := Lib.hid hLY
  clear hLY
  go_loopw [11] (fun vi wr => ∃ (j : Nat) (t : WS) (y : Ry), vi = .int .i64 j ∧ j ≤ k ∧ D2 w wr t y ∧ y.L = LY ∧ t.n = k ∧ t.L = s.L ∧ t.ck = C ∧ (∀ i, i < j → (t.q i).on = false) ∧ (t.al = true → t.a ≤ C + 11) ∧ 0 ≤ t.ev ∧ t.ev ≤ 120 + 6 * (j : Int) ∧ (0 < j → (t.al && decide (t.a ≤ C)) = false)) (fun i _ => k - (intOf i).toNat)
  case atStart => exact ⟨0, s, y, rfl, Nat.zero_le _, DD.out, HLY.out, hsn, rfl, HC.out, fun i hi => by omega, hC4.out, hC2, by show s.ev ≤ 120 + 6 * ((0 : Nat) : Int); omega, fun e => by omega⟩
  case round =>
    clear DD hC4 HLY
    clear y
    obtain ⟨j, t, y, rfl, hj, hD, rfl, htn, htL, htc, hoff, hal, he0, he1, hlate⟩ := hrel
    have D := Lib.hid hD
    have c7 := hD.r.c7
    have lY := hD.r.lL
    rw [htc] at c7
    by_cases hlt : j < k
    · have S := dea_step (s := t) (j := j) (by omega) C (by omega) (by omega) hoff hal
      have LA := dea_ahead (s := t) (j := j) (by omega) C (by omega) (by omega)
      have G := do_grow t 2 ⟨j, C, 0, 0⟩ he0 (by omega) (by omega)
      have G : Grow t (deaS t j C) := G
      have PD := dea_any hD.d.k j C
      rw [htL] at PD
      have SM := sm_dea t j C
      have RD := Lib.hid (fun (W : World) (hW : Rk W t y) => rdea_any hW j C)
      generalize deaS t j C = r at *
      obtain ⟨u, er⟩ := r
      obtain ⟨s1, s2, s3, s4⟩ := S
      have s1 : er = 0 := s1
      subst s1
      obtain ⟨g1, g3, -, g4⟩ := G
      simp only at s2 s3 s4 g1 g3 g4 PD SM RD LA
      have hjk : (j : Int) < (k : Int) := by omega
      have HQ := Lib.hid s3
      have HA := Lib.hid s4
      have HL := Lib.hid LA
      clear hD hoff hal s3 s4 LA hlate
      go_wp2_with fail
      refine PD.mono ?_
      clear PD
      intro e w2 hp
      obtain ⟨X', A', c', rfl, M5⟩ := D.out.op (r := (u, 0)) SM.n (opq_of SM hp)
      have M5 := Lib.hid M5
      have WO := RD.out w2 M5.out.r
      have c7 := M5.out.r.c7
      have lY := M5.out.r.lL
      rw [htc] at c7
      clear hp D RD
      go_wp2_with fail
      refine WO.mono ?_
      clear WO
      intro e w6 hp6
      obtain ⟨he6, D6⟩ := M5.out.op ⟨t.L, X', A', c', rfl⟩ hp6
      subst he6
      have D6 := Lib.hid D6
      have uL : (u.loc t.L X' A' c').L = s.L := htL
      have un : (u.loc t.L X' A' c').n = k := g4.trans htn
      have uc : (u.loc t.L X' A' c').ck = C := s2
      have HQ : Hid (∀ i, i < j + 1 → ((u.loc t.L X' A' c').q i).on = false) := HQ
      have HA : Hid ((u.loc t.L X' A' c').al = true → (u.loc t.L X' A' c').a ≤ C + 11) := HA
      have HL : Hid (((u.loc t.L X' A' c').al && decide ((u.loc t.L X' A' c').a ≤ C)) = false) := HL
      have g1 : t.ev ≤ (u.loc t.L X' A' c').ev := g1
      have g3 : (u.loc t.L X' A' c').ev ≤ t.ev + t.n + 2 := g3
      clear SM s2 g4 hp6 M5 c7 lY
      generalize u.loc t.L X' A' c' = v at *
      go_wp2_with fail
      go_roundw
      case rel => exact ⟨j + 1, v, y, by go_num, by omega, D6.out, rfl, un, uL, uc, HQ.out, HA.out, by omega, by omega, fun _ => HL.out⟩
      case measure => simp [intOf]; omega
    · have hjk : ¬ (j : Int) < (k : Int) := by omega
      have hjk2 : j = k := by omega
      subst hjk2
      clear hlt
      have LA := hlate (by omega)
      have AI := arm_idle (s := t) (by omega) (by omega) (fun i hi => hoff i (by omega)) (by rw [htc]; exact LA)
      rw [htc] at AI
      have c0 : cnt t = 0 := cntK_off t t.n (fun i hi => hoff i (by omega))
      have PC := cnt_any D.out.d.k
      rw [htL, c0] at PC
      have AB := Lib.hid (ab_start (s := t) C c0)
      have AR := Lib.hid (fun (W : World) (hW : Wk W t) => show Calls Try.prog 25 #[.pointer (some ⟨s.L, 0, none⟩), .int .i64 t.ev, .int .u64 C] W (OpQ W t ({ t with ck := C, ar := true, rm := t.ev }, 0)) by
        have := arm_any hW t.ev C
        rw [htL, AI] at this
        exact this)
      have RA := Lib.hid (fun (W : World) (hW : Rk W t y) => show Calls Try.prog 28 #[.pointer (some ⟨y.L, 0, none⟩), .int .i64 t.ev, .int .u64 C] W (RoP W y { t with ck := C, ar := true, rm := t.ev } (.int .i64 0)) by
        have := rarm_any hW t.ev C
        rw [AI] at this
        exact this)
      have HAL := Lib.hid (show ({ t with ck := C, ar := true, rm := t.ev } : WS).al = true → ({ t with ck := C, ar := true, rm := t.ev } : WS).a ≤ C + 11 from hal)
      clear hD hoff hal hlate LA AI c0
      have hE0 := he0
      have VL : ({ t with ck := C, ar := true, rm := t.ev } : WS).L = s.L := htL
      have VN : ({ t with ck := C, ar := true, rm := t.ev } : WS).n = j := htn
      have VC : ({ t with ck := C, ar := true, rm := t.ev } : WS).ck = C := rfl
      have VE : ({ t with ck := C, ar := true, rm := t.ev } : WS).ev = t.ev := rfl
      generalize hv : ({ t with ck := C, ar := true, rm := t.ev } : WS) = v at *
      clear hv
      generalize hE : t.ev = E at *
      have HE := Lib.hid hE
      clear hE
      go_wp2_with fail
      refine PC.mono ?_
      clear PC
      rintro e w3 ⟨rfl, hb3⟩
      have D3 := Lib.hid (D.out.below hb3)
      clear D hb3 c7 lY
      have c7 := D3.out.r.c7
      have lY := D3.out.r.lL
      rw [htc] at c7
      have P1 := AR.out _ D3.out.d.k
      go_wp2_with fail
      refine P1.mono ?_
      clear P1 AR
      intro e w4 hp4
      obtain ⟨X', A', c', rfl, M5⟩ := D3.out.op (r := (v, 0)) (VN.trans htn.symm) hp4
      have M5 := Lib.hid M5
      have P1 := mab_any M5.out.d.k
      have WO := Lib.hid (fun (W : World) (hW : Rk W t y) => RA.out W hW)
      rw [show mab (v.loc t.L X' A' c') = false from (AB.out.loc t.L X' A' c').mab, show (v.loc t.L X' A' c').L = s.L from htL] at P1
      clear hp4 D3 RA c7 lY
      go_wp2_with fail
      refine P1.mono ?_
      clear P1
      rintro e w5 ⟨rfl, hb5⟩
      have M6 := Lib.hid (M5.out.below hb5)
      clear M5 hb5
      have c7 := M6.out.r.c7
      have lY := M6.out.r.lL
      rw [htc] at c7
      have P1 := WO.out _ M6.out.r
      go_wp2_with fail
      refine P1.mono ?_
      clear P1 WO
      intro e w6 hp6
      obtain ⟨he6, hD6⟩ := M6.out.op ⟨t.L, X', A', c', rfl⟩ hp6
      subst he6
      have D6 := Lib.hid hD6
      have AB6 := Lib.hid (AB.out.loc t.L X' A' c')
      have IV6 : Hid (Iv (v.loc t.L X' A' c') 24) := ⟨by show 0 ≤ v.ev; omega, by show v.ev ≤ _; omega, by show v.ck ≤ _; omega, fun h => by
        have := HAL.out h
        show v.a ≤ v.ck + 11
        omega⟩
      have N6 : (v.loc t.L X' A' c').n = j := VN
      have L6 : (v.loc t.L X' A' c').L = s.L := htL
      clear hp6 hD6 M6 AB HAL c7 lY
      generalize v.loc t.L X' A' c' = u at *
      generalize hLY : y.L = LY at *
      have HLY := Lib.hid hLY
      clear hLY
      go_wp2_with fail
      go_loopw [14, 15, 16] (fun v14 v15 v16 wr => ∃ (i : Nat) (T : WS) (y : Ry) (b a : Bool), v14 = .bool b ∧ v15 = .bool a ∧ v16 = .int .i64 i ∧ i ≤ m2 ∧ D2 w wr T y ∧ y.L = LY ∧ T.n = j ∧ T.L = s.L ∧ Ab T E b a ∧ Iv T (i + 24)) (fun v14 v15 v16 _ => m2 - (intOf v16).toNat)
      case atStart => exact ⟨0, u, y, false, true, rfl, rfl, rfl, Nat.zero_le _, D6.out, HLY.out, N6, L6, AB6.out, IV6.out⟩
      case round =>
        clear D6 AB6 IV6 HLY N6 L6
        clear M5
        clear u
        obtain ⟨i, T, y, b, a, rfl, rfl, rfl, hi, hD, rfl, hTn, hTL, hAB, hIv⟩ := hrel
        have D := Lib.hid hD
        have AB := Lib.hid hAB
        have IV := Lib.hid hIv
        by_cases hlt2 : i < m2
        · have him : (i : Int) < (m2 : Int) := by omega
          rcases H2.out.row with h0 | ⟨b0, off, rfl, hb, hcl⟩
          · omega
          have wf := H2.out.wf i hlt2
          obtain ⟨c0, c1, c2, c3, c4, c5⟩ := hcl i hlt2
          have B := D.out.d.b
          have hbr : b0 < wr.heap.size := by have := B.size; omega
          have eb : ∀ j, wr.cell? ⟨b0, j, none⟩ = w.cell? ⟨b0, j, none⟩ := fun j => B.cell (p := ⟨b0, j, none⟩) (by exact hb)
          have c0 := (eb _).trans c0
          have c1 := (eb _).trans c1
          have c2 := (eb _).trans c2
          have c3 := (eb _).trans c3
          have c4 := (eb _).trans c4
          have c5 := (eb _).trans c5
          have hck0 := D.out.r.ck0
          have he0 := IV.out.e0
          have he1 := IV.out.e1
          have hm9 := (modOf_spec (g2 i).k 9 (by decide) (by decide)).2
          have MD := Lib.hid (fun W => mod_any (g2 i).k 9 (by decide) (by decide) W)
          have AT := Lib.hid (fun W => at_any ⟨(g2 i).k, (g2 i).s, (g2 i).t, (g2 i).h, (g2 i).e, false⟩ j T.ck E W (by omega))
          have hxo := atR_o ⟨(g2 i).k, (g2 i).s, (g2 i).t, (g2 i).h, (g2 i).e, false⟩ j T.ck E (u64_of_wf wf.2.2.2.1).1
          have IVS := Lib.hid (iv_step_at hIv (by omega) hck0 (by omega) ⟨(g2 i).k, (g2 i).s, (g2 i).t, (g2 i).h, (g2 i).e, false⟩ rfl (u64_of_wf wf.2.2.1).1 (u64_of_wf wf.2.2.2.1).1 j E)
          have ABS := Lib.hid (fun (m : Nat) (x : Ar) (hm : m < 9) (h7 : m ≠ 7) => ab_step hAB m x hm h7 he0 (by omega) (by omega))
          have DOO := Lib.hid (fun (W : World) (x : Ar) (hw : Wk W T) => do_any hw (g2 i).k x)
          have WNO := Lib.hid (fun (W : World) (x : Ar) (hw : Rk W T y) (ho : 0 ≤ x.o) => want_any hw (g2 i).k x ho)
          have b2 : Below wr.heap.size wr (wr.alloc (.cells #[.int .i64 (g2 i).k, .int .i64 (g2 i).s, .int .u64 (g2 i).t, .int .u64 (g2 i).h, .int .i64 (g2 i).e, .bool false] 36)) := bal (Below.refl _ _) _
          have D1' := Lib.hid (D.out.below b2)
          have ZC : Hid (∀ j, (wr.alloc (.cells #[.int .i64 (g2 i).k, .int .i64 (g2 i).s, .int .u64 (g2 i).t, .int .u64 (g2 i).h, .int .i64 (g2 i).e, .bool false] 36)).cell? ⟨wr.heap.size, j, none⟩ = (#[.int .i64 (g2 i).k, .int .i64 (g2 i).s, .int .u64 (g2 i).t, .int .u64 (g2 i).h, .int .i64 (g2 i).e, .bool false] : Array Value)[j]?) := fun j => new_c wr _ 36 j
          have hZ : wr.heap.size < (wr.alloc (.cells #[.int .i64 (g2 i).k, .int .i64 (g2 i).s, .int .u64 (g2 i).t, .int .u64 (g2 i).h, .int .i64 (g2 i).e, .bool false] 36)).heap.size := by simp
          have apZ : wr.heap.size ≠ T.L ∧ (0 < T.n → wr.heap.size ≠ T.X) ∧ ¬ (wr.heap.size = y.L ∨ wr.heap.size = y.X ∨ wr.heap.size = y.Y) := by
            have := D.out.d.k.lL
            have := D.out.r.lL
            have := D.out.r.lX
            have := D.out.r.lY
            refine ⟨by omega, fun h0 => by have := D.out.d.k.lX h0; omega, by omega⟩
          have hTL' := Lib.hid hTL
          have IVN : Hid (Iv T (i + 1 + 24)) := ⟨he0, by omega, by have := IV.out.c; omega, IV.out.a⟩
          clear wf B hcl eb hD hIv hAB IV b2 hTL he0 he1 D
          unfold Cl.cells Ar.cells at AT
          unfold Ar.cells at DOO WNO
          generalize atR ⟨(g2 i).k, (g2 i).s, (g2 i).t, (g2 i).h, (g2 i).e, false⟩ j T.ck E = x at *
          simp only at IVS
          generalize modOf (g2 i).k 9 = mk at *
          generalize (g2 i).k = kd at *
          generalize (g2 i).s = ks at *
          generalize (g2 i).t = kt at *
          generalize (g2 i).h = kh at *
          generalize (g2 i).e = ke at *
          generalize (g2 i).raw = kr at *
          have C7 := Lib.hid D1'.out.r.c7
          generalize T.ck = ck at *
          by_cases h7 : mk = 7
          · subst h7
            have hL := Lib.hid D1'.out.r.lL
            go_wp2_with (go_at_call 13; refine (MD.out _).mono ?_; rintro e w9 ⟨rfl, rfl⟩)
            go_roundw
            case rel => exact ⟨i + 1, T, y, b, a, rfl, rfl, by go_num, by omega, D1'.out, rfl, hTn, hTL'.out, AB.out, IVN.out⟩
            case measure => simp [intOf]; omega
          have q7 : ((mk : Int) == 7) = false := beq_eq_false_iff_ne.2 (by omega)
          clear IVN
          go_upto_region 24 with (go_at_call 13; refine (MD.out _).mono ?_; rintro e w9 ⟨rfl, rfl⟩)
          clear q7
          generalize wr.alloc (.cells #[.int .i64 kd, .int .i64 ks, .int .u64 kt, .int .u64 kh, .int .i64 ke, .bool false] 36) = w1 at *
          clear c0 c1 c2 c3 c4 c5 hbr
          generalize wr.heap.size = Z at *
          have KS : Hid (∀ W, Below w1.heap.size w1 W → W.cell? ⟨Z, 0, none⟩ = some (.int .i64 kd) ∧ W.cell? ⟨Z, 1, none⟩ = some (.int .i64 ks) ∧ W.cell? ⟨Z, 2, none⟩ = some (.int .u64 kt) ∧ W.cell? ⟨Z, 3, none⟩ = some (.int .u64 kh) ∧ W.cell? ⟨Z, 4, none⟩ = some (.int .i64 ke) ∧ W.cell? ⟨Z, 5, none⟩ = some (.bool false) ∧ W.cell? ⟨y.L, 7, none⟩ = some (.int .u64 ck)) := fun W hW => by
            have e : ∀ j, W.cell? ⟨Z, j, none⟩ = w1.cell? ⟨Z, j, none⟩ := fun j => hW.cell (p := ⟨Z, j, none⟩) (by exact hZ)
            exact ⟨(e _).trans ((ZC.out 0).trans rfl), (e _).trans ((ZC.out 1).trans rfl), (e _).trans ((ZC.out 2).trans rfl), (e _).trans ((ZC.out 3).trans rfl), (e _).trans ((ZC.out 4).trans rfl), (e _).trans ((ZC.out 5).trans rfl), (hW.cell (by exact D1'.out.r.lL)).trans C7.out⟩
          go_cut [19] (fun v wx => ∃ Q, v = .pointer (some ⟨Q, 0, none⟩) ∧ Below w1.heap.size w1 wx ∧ w1.heap.size ≤ Q ∧ wx.heap[Q]? = some (.cells #[.int .i64 x.s, .int .u64 x.t, .int .u64 x.o, .int .i64 x.e] 34 (0, 0)))
          case first =>
            refine wp_region_noPanic ?_
            refine wp_region_held_drew (S := fun W => W.cell? ⟨Z, 0, none⟩ = some (.int .i64 kd) ∧ W.cell? ⟨Z, 1, none⟩ = some (.int .i64 ks) ∧ W.cell? ⟨Z, 2, none⟩ = some (.int .u64 kt) ∧ W.cell? ⟨Z, 3, none⟩ = some (.int .u64 kh) ∧ W.cell? ⟨Z, 4, none⟩ = some (.int .i64 ke) ∧ W.cell? ⟨Z, 5, none⟩ = some (.bool false) ∧ W.cell? ⟨y.L, 7, none⟩ = some (.int .u64 ck)) (by kernel_rfl) (KS.out _ (Below.refl _ w1).drew) (fun hHeld => ?_)
            refine wpAnyH_take (i := 0) (v := ?va0) (by simp only [List.getElem?_toArray, List.getElem?_cons_zero]; rfl) (by kernel_rfl) (by kernel_rfl) (by kernel_rfl) (fun _ _ _ h => h) (Or.inl ⟨by rfl, ?ya0⟩) hHeld ?_
            case ya0 => (intro w hSw; go_simp <;> with_reducible rfl)
            simp only [Act.put, List.setIfInBounds_toArray, List.set_cons_zero, List.set_cons_succ]
            refine wpAnyH_take (i := 1) (v := ?va1) (by simp only [List.getElem?_toArray, List.getElem?_cons_succ, List.getElem?_cons_zero]; rfl) (by kernel_rfl) (by kernel_rfl) (by kernel_rfl) (fun _ _ _ h => h) (Or.inl ⟨by rfl, ?ya1⟩) hHeld ?_
            case ya1 => (intro w hSw; go_simp <;> with_reducible rfl)
            simp only [Act.put, List.setIfInBounds_toArray, List.set_cons_zero, List.set_cons_succ]
            refine wpAnyH_take (i := 2) (v := ?va2) (by simp only [List.getElem?_toArray, List.getElem?_cons_succ, List.getElem?_cons_zero]; rfl) (by kernel_rfl) (by kernel_rfl) (by kernel_rfl) (fun _ _ _ h => h) (Or.inl ⟨by rfl, ?ya2⟩) hHeld ?_
            case ya2 => (intro w hSw; go_simp <;> with_reducible rfl)
            simp only [Act.put, List.setIfInBounds_toArray, List.set_cons_zero, List.set_cons_succ]
            refine wpAnyH_take (i := 3) (v := ?va3) (by simp only [List.getElem?_toArray, List.getElem?_cons_succ, List.getElem?_cons_zero]; rfl) (by kernel_rfl) (by kernel_rfl) (by kernel_rfl) (fun _ _ _ h => h) (Or.inl ⟨by rfl, ?ya3⟩) hHeld ?_
            case ya3 => (intro w hSw; go_simp <;> with_reducible rfl)
            simp only [Act.put, List.setIfInBounds_toArray, List.set_cons_zero, List.set_cons_succ]
            refine wpAnyH_take (i := 4) (v := ?va4) (by simp only [List.getElem?_toArray, List.getElem?_cons_succ, List.getElem?_cons_zero]; rfl) (by kernel_rfl) (by kernel_rfl) (by kernel_rfl) (fun _ _ _ h => h) (Or.inl ⟨by rfl, ?ya4⟩) hHeld ?_
            case ya4 => (intro w hSw; go_simp <;> with_reducible rfl)
            simp only [Act.put, List.setIfInBounds_toArray, List.set_cons_zero, List.set_cons_succ]
            refine wpAnyH_take (i := 5) (v := ?va5) (by simp only [List.getElem?_toArray, List.getElem?_cons_succ, List.getElem?_cons_zero]; rfl) (by kernel_rfl) (by kernel_rfl) (by kernel_rfl) (fun _ _ _ h => h) (Or.inl ⟨by rfl, ?ya5⟩) hHeld ?_
            case ya5 => (intro w hSw; go_simp <;> with_reducible rfl)
            simp only [Act.put, List.setIfInBounds_toArray, List.set_cons_zero, List.set_cons_succ]
            refine wpAnyH_take (i := 6) (v := ?va6) (by simp only [List.getElem?_toArray, List.getElem?_cons_succ, List.getElem?_cons_zero]; rfl) (by kernel_rfl) (by kernel_rfl) (by kernel_rfl) (fun _ _ _ h => h) (Or.inl ⟨by rfl, ?ya6⟩) hHeld ?_
            case ya6 => (intro w hSw; go_simp <;> with_reducible rfl)
            simp only [Act.put, List.setIfInBounds_toArray, List.set_cons_zero, List.set_cons_succ]
            have bd : Below w1.heap.size w1 w1.drew := (Below.refl _ w1).drew
            generalize w1.drew = w0 at *
            refine wpAnyH_ready (rs := [7, 8]) (by kernel_rfl) (by simp) ?_
            refine AllReadyH.cons (by simp only [List.getElem?_toArray, List.getElem?_cons_succ, List.getElem?_cons_zero]; rfl) (fun K hK => ?_) ?_
            · go_simp
              go_at_call 14
              refine (AT.out _).mono ?_
              rintro e w5 ⟨rfl, hb5⟩
              have b5 : Below w1.heap.size w1 w5 := bel2 bd hb5
              go_wp2_with fail
              refine hK.out _ _ ?_ (fun hHeld => ?_)
              · exact KS.out _ b5
              clear hK K
              refine wpAnyH_ready (rs := [8]) (by kernel_rfl) (by simp) ?_
              refine AllReadyH.cons (by simp only [List.getElem?_toArray, List.getElem?_cons_succ, List.getElem?_cons_zero]; rfl) (fun K hK => ?_) ?_
              rotate_left
              · exact AllReadyH.nil
              go_simp
              refine hK.out _ _ ?_ (fun hHeld => ?_)
              · exact KS.out _ (bal b5 _)
              clear hK K
              have hq5 : w1.heap.size ≤ w5.heap.size := b5.size
              refine wpAnyH_ready (rs := [9]) (by kernel_rfl) (by simp) ?_
              refine AllReadyH.cons (by simp only [List.getElem?_toArray, List.getElem?_cons_succ, List.getElem?_cons_zero]; rfl) (fun K hK => ?_) ?_
              rotate_left
              · exact AllReadyH.nil
              go_simp
              refine hK.out _ _ ?_ (fun hHeld => ?_)
              · exact KS.out _ (bal b5 _)
              clear hK K
              refine wpAnyH_done (by kernel_rfl) ?_ _
              refine NoPanic.normal ?_
              go_wp2
              go_meet
              exact ⟨w5.heap.size, rfl, bal b5 _, hq5, heap_alloc_new w5 _⟩
            refine AllReadyH.cons (by simp only [List.getElem?_toArray, List.getElem?_cons_succ, List.getElem?_cons_zero]; rfl) (fun K hK => ?_) ?_
            rotate_left
            · exact AllReadyH.nil
            go_simp
            refine hK.out _ _ ?_ (fun hHeld => ?_)
            · exact KS.out _ (bal bd _)
            clear hK K
            have bA : Below w1.heap.size w1 (w0.alloc (.cells #[.int .i64 0, .int .u64 0, .int .u64 0, .int .i64 0] 34)) := bal bd _
            have hA : (w0.alloc (.cells #[.int .i64 0, .int .u64 0, .int .u64 0, .int .i64 0] 34)).heap[w0.heap.size]? = some (.cells #[.int .i64 0, .int .u64 0, .int .u64 0, .int .i64 0] 34 (0, 0)) := heap_alloc_new w0 _
            have hQw : w1.heap.size ≤ w0.heap.size := bd.size
            generalize w0.alloc (.cells #[.int .i64 0, .int .u64 0, .int .u64 0, .int .i64 0] 34) = wA at *
            generalize w0.heap.size = Q at *
            refine wpAnyH_ready (rs := [7]) (by kernel_rfl) (by simp) ?_
            refine AllReadyH.cons (by simp only [List.getElem?_toArray, List.getElem?_cons_succ, List.getElem?_cons_zero]; rfl) (fun K hK => ?_) ?_
            rotate_left
            · exact AllReadyH.nil
            go_simp
            go_at_call 14
            refine (AT.out _).mono ?_
            rintro e w5 ⟨rfl, hb5⟩
            have b5 : Below w1.heap.size w1 w5 := bel2 bA hb5
            have hR : w5.heap[Q]? = some (.cells #[.int .i64 0, .int .u64 0, .int .u64 0, .int .i64 0] 34 (0, 0)) := b_blk hb5 hA
            go_wp2_with fail
            refine hK.out _ _ ?_ (fun hHeld => ?_)
            · exact KS.out _ b5
            clear hK K
            have r0 := cells_at hR 0
            have r1 := cells_at hR 1
            have r2 := cells_at hR 2
            have r3 := cells_at hR 3
            have g0 := frz hR 0
            have g1 := frz hR 1
            have g2 := frz hR 2
            have g3 := frz hR 3
            have lr := blk_lt hR
            simp only [List.getElem?_toArray, List.getElem?_cons_zero, List.getElem?_cons_succ] at r0 r1 r2 r3
            have HP := r_done hR x.s x.t x.o x.e
            have HB := r_bel (R := Q) b5 hQw x.s x.t x.o x.e
            refine wpAnyH_ready (rs := [9]) (by kernel_rfl) (by simp) ?_
            refine AllReadyH.cons (by simp only [List.getElem?_toArray, List.getElem?_cons_succ, List.getElem?_cons_zero]; rfl) (fun K hK => ?_) ?_
            rotate_left
            · exact AllReadyH.nil
            go_simp
            refine hK.out _ _ ?_ (fun hHeld => ?_)
            · exact KS.out _ HB
            clear hK K
            refine wpAnyH_done (by kernel_rfl) ?_ _
            refine NoPanic.normal ?_
            clear r0 r1 r2 r3 g0 g1 g2 g3
            go_wp2
            go_meet
            exact ⟨Q, rfl, HB, hQw, HP⟩
          case rest =>
            obtain ⟨Q, rfl, hbq, hQ, hQc⟩ := hcut
            generalize wc = w3 at *
            have D3 := Lib.hid (D1'.out.below hbq)
            have c0 := (KS.out w3 hbq).1
            have y0 := (cells_at hQc 0).trans rfl
            have y1 := (cells_at hQc 1).trans rfl
            have y2 := (cells_at hQc 2).trans rfl
            have y3 := (cells_at hQc 3).trans rfl
            have lQ := blk_lt hQc
            have lZ : Z < w3.heap.size := by have := hbq.size; omega
            have apQ : Q ≠ T.L ∧ (0 < T.n → Q ≠ T.X) ∧ ¬ (Q = y.L ∨ Q = y.X ∨ Q = y.Y) := by
              have := D1'.out.d.k.lL
              have := D1'.out.r.lL
              have := D1'.out.r.lX
              have := D1'.out.r.lY
              refine ⟨by omega, fun h0 => by have := D1'.out.d.k.lX h0; omega, by omega⟩
            have DO := DOO.out w3 x D3.out.d.k
            rw [hTL'.out] at DO
            have AS := Lib.hid (ABS.out mk x hm9 h7)
            clear KS AT hQc hbq hQ D1' ZC C7 hZ DOO ABS AB
            go_wp2_with fail
            refine DO.mono ?_
            clear DO
            intro e w5 hp
            have K5 : w5.cell? ⟨Z, 0, none⟩ = some (.int .i64 kd) ∧ w5.cell? ⟨Q, 0, none⟩ = some (.int .i64 x.s) ∧ w5.cell? ⟨Q, 1, none⟩ = some (.int .u64 x.t) ∧ w5.cell? ⟨Q, 2, none⟩ = some (.int .u64 x.o) ∧ w5.cell? ⟨Q, 3, none⟩ = some (.int .i64 x.e) ∧ Z < w5.heap.size ∧ Q < w5.heap.size := by
              obtain ⟨_, _, _, _, _, hc, _⟩ := hp
              have ez : ∀ j, w5.cell? ⟨Z, j, none⟩ = w3.cell? ⟨Z, j, none⟩ := fun j => World.cell?_of_block (hc.block Z lZ (fun e => by rcases e with e | ⟨e, h0⟩; exact apZ.1 e; exact apZ.2.1 h0 e))
              have eq : ∀ j, w5.cell? ⟨Q, j, none⟩ = w3.cell? ⟨Q, j, none⟩ := fun j => World.cell?_of_block (hc.block Q lQ (fun e => by rcases e with e | ⟨e, h0⟩; exact apQ.1 e; exact apQ.2.1 h0 e))
              have := hc.size
              exact ⟨(ez _).trans c0, (eq _).trans y0, (eq _).trans y1, (eq _).trans y2, (eq _).trans y3, by omega, by omega⟩
            obtain ⟨X', A', c', rfl, M5⟩ := D3.out.op (do_n T mk x) hp
            have M5 := Lib.hid M5
            have WO := Lib.hid (WNO.out w5 x M5.out.r hxo)
            clear hp D3 c0 y0 y1 y2 y3 lQ lZ WNO
            obtain ⟨c0, y0, y1, y2, y3, lZ, lQ⟩ := K5
            have NT : Hid (((doK T mk x).1.loc T.L X' A' c').n = j) := (do_n T mk x).trans hTn
            have IV2 := Lib.hid (IVS.out.loc T.L X' A' c')
            have AB2 := Lib.hid (AS.out.loc T.L X' A' c')
            have ec : cnt ((doK T mk x).1.loc T.L X' A' c') = cnt (doK T mk x).1 := cnt_q rfl rfl
            rw [← ec, show (doK T mk x).1.ev = ((doK T mk x).1.loc T.L X' A' c').ev from rfl] at AB2
            clear IVS AS ec
            generalize hr : doK T mk x = r at *
            have HR := Lib.hid hr
            clear hr
            go_wp2_with fail
            refine WO.out.mono ?_
            clear WO
            intro e w6 hp6
            obtain ⟨he6, D6⟩ := M5.out.op ⟨T.L, X', A', c', rfl⟩ hp6
            subst he6
            have c0 : w6.cell? ⟨Z, 0, none⟩ = some (.int .i64 kd) := (World.cell?_of_block (hp6.2.2.block Z lZ apZ.2.2)).trans c0
            have lZ : Z < w6.heap.size := by have := hp6.2.2.size; omega
            have D6 := Lib.hid D6
            generalize hT : r.1.loc T.L X' A' c' = U at *
            have HT := Lib.hid (show U.L = s.L by rw [← hT]; exact hTL'.out)
            clear hT hp6 M5 y0 y1 y2 y3 lQ
            have P1 := rcnt_any D6.out.r
            have MB := mab_any D6.out.d.k
            rw [AB2.out.mab, HT.out] at MB
            generalize U.ev = ev' at *
            generalize cnt U = ct at *
            go_wp2_with fail
            refine P1.mono ?_
            clear P1
            rintro e w7 ⟨rfl, rfl⟩
            go_upto_region 28 with fail
            generalize hB2 : (b || (ev' != E) || decide (0 < ct)) = B2 at *
            have HB2 := Lib.hid hB2
            clear hB2
            go_cut [14] (fun v wx => v = .bool B2 ∧ wx = w6)
            case first =>
              have p1 : (ev' != E) = true ∨ (ev' != E) = false := by cases (ev' != E) <;> simp
              have p2 : 0 < ct ∨ ¬ 0 < ct := by omega
              clear MB
              cases b <;> rcases p1 with p1 | p1 <;> rcases p2 with p2 | p2 <;> (go_wp2; go_meet; exact ⟨by rw [← HB2.out]; simp [p1, p2], rfl⟩)
            case rest =>
              obtain ⟨rfl, rfl⟩ := hcut
              clear HB2
              generalize hA2 : (a && decide (mk ≠ 8)) = A2 at *
              have HA2 := Lib.hid hA2
              clear hA2
              go_upto_region 29 with fail
              go_cut [15] (fun v wx => v = .bool A2 ∧ wx = wc)
              case first =>
                clear MB
                have p1 : mk = 8 ∨ ((mk : Int) != 8) = true := by
                  by_cases q : mk = 8
                  · exact .inl q
                  · exact .inr (bne_iff_ne.2 (by omega))
                cases a
                · go_wp2
                  go_meet
                  exact ⟨by rw [← HA2.out]; rfl, rfl⟩
                rcases p1 with p1 | p1
                · subst p1
                  go_wp2_with (go_at_call 13; refine (MD.out _).mono ?_; rintro e w9 ⟨rfl, rfl⟩)
                  go_meet
                  exact ⟨by rw [← HA2.out]; rfl, rfl⟩
                · have p2 := Lib.hid p1
                  go_wp2_with (go_at_call 13; refine (MD.out _).mono ?_; rintro e w9 ⟨rfl, rfl⟩)
                  go_meet
                  refine ⟨?_, rfl⟩
                  rw [← HA2.out]
                  have q := bne_iff_ne.1 p2.out
                  rw [decide_eq_true (show mk ≠ 8 by omega)]
                  rfl
              case rest =>
                obtain ⟨rfl, rfl⟩ := hcut
                clear HA2 MD
                go_wp2_with fail
                refine MB.mono ?_
                clear MB
                rintro e w8 ⟨rfl, hb8⟩
                have D8 := Lib.hid (D6.out.below hb8)
                clear D6 c0
                cases A2 <;> cases B2
                all_goals
                  go_wp2_with fail
                  go_roundw
                  case rel => exact ⟨i + 1, U, y, _, _, rfl, rfl, by go_num, by omega, D8.out, rfl, NT.out, HT.out, AB2.out, IV2.out⟩
                  case measure => simp [intOf]; omega
        · have him : ¬ (i : Int) < (m2 : Int) := by omega
          have P1 := dis_any D.out.d.k
          rw [hTL] at P1
          have SD : Sm T (dis T) := ⟨rfl, rfl, rfl, rfl, rfl⟩
          clear hD hAB hIv AB IV
          go_wp2_with fail
          refine P1.mono ?_
          clear P1
          intro e w7 hp7
          obtain ⟨rfl, D7⟩ := D.out.dm.imp SD hp7
          have D7 := Lib.hid D7
          clear hp7 D
          have P1 := mab_any D7.out.d.k
          rw [show mab (dis T) = false from rfl, show (dis T).L = s.L from hTL] at P1
          go_wp2_with fail
          refine P1.mono ?_
          clear P1
          rintro e w8 ⟨rfl, hb8⟩
          have D8 := Lib.hid (D7.out.d.below hb8)
          clear D7 hb8
          go_wp2_with (go_at_call 10; refine (AW.out _).mono ?_; rintro e w10 ⟨rfl, hb10⟩)
          go_ret
          exact ⟨rfl, bel2 D8.out.b hb10⟩
end Go.Proofs.Ytmhabdpnakbfpaa
