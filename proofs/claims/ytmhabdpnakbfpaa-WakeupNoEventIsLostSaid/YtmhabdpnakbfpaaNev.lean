/- WakeupNoEventIsLost: the walk. -/
import Derived.Test.YtmhabdpnakbfpaaNel
import Derived.Deep.CutBlock
namespace Go.Proofs.Ytmhabdpnakbfpaa
open Go.ChangeShapes Go.WideShapes Go.ChangeAt Go.RowKit Go.Deep Go.Joins

set_option maxRecDepth 20000 in
set_option maxHeartbeats 16000000 in
theorem nel_any (n : Int) (A : Option Addr) (m cc : Nat) (g : Nat → Cl) (B : Option Addr) (m2 cc2 : Nat) (g2 : Nat → Cl) (src hold kind : Int) (w : World) (_hn : (Lit.int .i64 n).wf = true) (h : Cs w A m g) (h2 : Cs w B m2 g2) (_hs : (Lit.int .i64 src).wf = true) (hw : (Lit.int .u64 hold).wf = true) (hk8 : (Lit.int .u8 kind).wf = true) : Calls Try.prog 4 #[.int .i64 n, .slice A m cc, .slice B m2 cc2, .int .i64 src, .int .u64 hold, .int .u8 kind] w (LawPost w) := by
  have AW := Lib.hid (fun W => awake_any W)
  by_cases hm : 20 < m
  · have q : (20 : Int) < (m : Int) := by omega
    clear h h2
    go_enter Try.func4, Try.ntmps4
    go_wp2_with (go_at_call 10; refine (AW.out _).mono ?_; rintro e w9 ⟨rfl, hb9⟩)
    go_ret
    exact ⟨rfl, hb9⟩
  have q : ¬ (20 : Int) < (m : Int) := by omega
  by_cases hm2 : 20 < m2
  · have q2 : (20 : Int) < (m2 : Int) := by omega
    clear h h2
    go_enter Try.func4, Try.ntmps4
    go_wp2_with (go_at_call 10; refine (AW.out _).mono ?_; rintro e w9 ⟨rfl, hb9⟩)
    go_ret
    exact ⟨rfl, hb9⟩
  have q2 : ¬ (20 : Int) < (m2 : Int) := by omega
  have M1 := mod_any n 4 (by decide) (by decide) w
  have hq4 := (modOf_spec n 4 (by decide) (by decide)).2
  generalize modOf n 4 = q4 at *
  obtain ⟨k, hk⟩ : ∃ k : Nat, k = q4 + 1 := ⟨_, rfl⟩
  have j1 : (1 : Int) + (q4 : Int) = (k : Int) := by omega
  have j2 : wrap64 (k : Int) = (k : Int) := IntWalk.wrap64_in _ (by omega)
  have k1 : 1 ≤ k := by omega
  have k4 : k ≤ 4 := by omega
  have H2 := Lib.hid h2
  clear h2
  have ST := sta_any k A m cc g w k4 (by omega) h
  clear h
  have hh0 := (u64_of_wf hw).1
  have x0 : 0 ≤ hold.tmod 10 := Int.tmod_nonneg _ hh0
  have x1 : hold.tmod 10 < 10 := Int.tmod_lt_of_pos _ (by decide)
  have d0 : 0 ≤ kind.tmod 3 := Int.tmod_nonneg _ (by have := bounds_u8 hk8; omega)
  have d1 : kind.tmod 3 < 3 := Int.tmod_lt_of_pos _ (by decide)
  have MS := Lib.hid (fun W => mod_any src k k1 (by omega) W)
  have hp := (modOf_spec src k k1 (by omega)).2
  generalize modOf src k = p at *
  generalize hx : hold.tmod 10 = x at *
  generalize hd : kind.tmod 3 = kd at *
  have HX := Lib.hid hx
  have HD := Lib.hid hd
  clear hw _hs hh0 hx hk8 hd
  clear hq4 hk
  go_enter Try.func4, Try.ntmps4
  go_upto_region 4 with (go_at_call 13; refine M1.mono ?_; rintro e w5 ⟨rfl, rfl⟩)
  clear M1
  clear j1 j2
  go_wp2_with fail
  refine ST.mono ?_
  clear ST
  rintro e w1 ⟨s, y, rfl, hD, hsn, hIv⟩
  have DD := Lib.hid hD.dm
  have hC0 := hD.r.ck0
  have hC1 := hIv.c
  have hC2 := hIv.e0
  have hC3 := hIv.e1
  have hC4 := Lib.hid hIv.a
  clear hD hIv
  go_wp2_with fail
  have HC4 := Lib.hid (show s.al = true → s.a ≤ s.ck + 11 from hC4.out)
  clear hC4
  generalize hC : s.ck = C at *
  have HC := Lib.hid hC
  clear hC
  have PC := cnt_any DD.out.d.k
  have hce : 0 = 0 := rfl
  by_cases hz : cnt s = 0
  case neg =>
    have hz0 : (0 : Int) < (cnt s : Int) := by omega
    generalize cnt s = ct at *
    clear hz hce
    go_wp2_with fail
    refine PC.mono ?_
    clear PC
    rintro e w3 ⟨rfl, hb3⟩
    have D3 := Lib.hid (DD.out.below hb3)
    go_wp2_with (go_at_call 10; refine (AW.out _).mono ?_; rintro e w10 ⟨rfl, hb10⟩)
    go_ret
    exact ⟨rfl, bel2 D3.out.d.b hb10⟩
  rw [hz] at PC
  have hee : s.ev = s.ev := rfl
  generalize hE : s.ev = E at *
  have HE := Lib.hid hE
  have HZ := Lib.hid hz
  clear hE hz hee hce
  go_wp2_with fail
  refine PC.mono ?_
  clear PC
  rintro e w3 ⟨rfl, hb3⟩
  have D3 := Lib.hid (DD.out.below hb3)
  clear DD hb3
  go_upto_region 12 with (go_at_call 13; refine (MS.out _).mono ?_; rintro e w5 ⟨rfl, rfl⟩)
  clear MS
  go_cut [58] (fun v wx => v = .int .u8 kd ∧ wx = w3)
  case first =>
    have xx := HD.out
    clear d0 d1
    go_wp2
    go_meet
    exact ⟨rfl, rfl⟩
  case rest =>
    obtain ⟨rfl, rfl⟩ := hcut
    apply_assumption
    generalize wc = w3 at *
    go_cut [20] (fun v wx => ∃ u, v = .int .i64 0 ∧ DM w wx s y u ∧ Bgn s u E C)
    case first =>
      have hkd : kd = 0 ∨ kd = 1 ∨ kd = 2 := by omega
      clear d0 d1 HD
      rcases hkd with rfl | rfl | rfl
      · have c7 := D3.out.r.c7
        have lY := D3.out.r.lL
        rw [HC.out] at c7
        have BG := begin_act (s := s) (p := p) (C := C) (by omega) (by omega) (by rw [HC.out]; omega) (by omega) (by rw [HE.out]; omega) (by rw [HE.out]; omega) HC4.out
        have PP := Lib.hid (fun (W : World) (hW : Wk W s) => act_any hW p C)
        generalize actS s p C = r at *
        obtain ⟨u, er⟩ := r
        obtain ⟨s1, bg⟩ := BG
        have s1 : er = 0 := s1
        subst s1
        simp only at bg PP
        have SM := Lib.hid bg.sm
        have BB := Lib.hid (show Bgn s u E C by rw [← HE.out]; exact bg)
        clear bg
        have P1 := PP.out _ D3.out.d.k
        clear PP
        go_wp2_with fail
        refine P1.mono ?_
        clear P1
        intro e w4 hp4
        obtain ⟨rfl, D4⟩ := D3.out.imp SM.out hp4
        go_wp2
        go_meet
        exact ⟨u, rfl, D4, BB.out⟩
      · have xx := HX.out
        have c7 := D3.out.r.c7
        have lY := D3.out.r.lL
        rw [HC.out] at c7
        have BG := begin_pul (s := s) (p := p) (C := C) (h := x) HZ.out (by omega) (by omega) (by rw [HC.out]; omega) (by omega) (by omega) (by rw [HE.out]; omega) (by rw [HE.out]; omega) (by omega) (by omega) HC4.out
        have PP := Lib.hid (fun (W : World) (hW : Wk W s) => pul_any hW p C x)
        generalize pulS s p C x = r at *
        obtain ⟨u, er⟩ := r
        obtain ⟨s1, bg⟩ := BG
        have s1 : er = 0 := s1
        subst s1
        simp only at bg PP
        have SM := Lib.hid bg.sm
        have BB := Lib.hid (show Bgn s u E C by rw [← HE.out]; exact bg)
        clear bg
        have P1 := PP.out _ D3.out.d.k
        clear PP
        go_wp2_with fail
        refine P1.mono ?_
        clear P1
        intro e w4 hp4
        obtain ⟨rfl, D4⟩ := D3.out.imp SM.out hp4
        go_wp2
        go_meet
        exact ⟨u, rfl, D4, BB.out⟩
      · have c7 := D3.out.r.c7
        have lY := D3.out.r.lL
        rw [HC.out] at c7
        have BG := begin_sal (s := s) (C := C) (by omega) (by rw [HC.out]; omega) (by omega) (by rw [HE.out]; omega) (by rw [HE.out]; omega)
        have PP := Lib.hid (fun (W : World) (hW : Wk W s) => sal_any hW C C)
        generalize salS s C C = r at *
        obtain ⟨u, er⟩ := r
        obtain ⟨s1, bg⟩ := BG
        have s1 : er = 0 := s1
        subst s1
        simp only at bg PP
        have SM := Lib.hid bg.sm
        have BB := Lib.hid (show Bgn s u E C by rw [← HE.out]; exact bg)
        clear bg
        go_upto_region 13 with fail
        go_still_tail 9, (by kernel_rfl)
        have D3' := Lib.hid (D3.out.below ((Below.refl _ w3).drew))
        have P1 := PP.out _ D3'.out.d.k
        clear PP
        go_wp2_with fail
        refine P1.mono ?_
        clear P1
        intro e w4 hp4
        obtain ⟨rfl, D4⟩ := D3'.out.imp SM.out hp4
        go_wp2
        go_meet
        exact ⟨u, rfl, D4, BB.out⟩
    case rest =>
      obtain ⟨u, rfl, hDu, hBu⟩ := hcut
      have D4 := Lib.hid hDu
      have c7 := hDu.r.c7
      have lY := hDu.r.lL
      rw [HC.out] at c7
      have IV0 : Hid (Iv u 24) := ⟨hBu.e0, by have := hBu.e1; rw [HE.out] at this; omega, by have := hBu.ck; omega, fun q => by have := hBu.a q; have := hBu.ck; omega⟩
      have BG0 := Lib.hid hBu.b
      have N0 : u.n = k := hBu.n.trans hsn
      have L0 := Lib.hid hBu.sm.L
      have K0 := Lib.hid hBu.ck
      generalize wc = w4 at *
      have D1v := Lib.hid hDu.d
      clear hDu hBu D3 HD HX HZ D4 HC4
      generalize s.L = LL at *
      go_wp2_with fail
      go_loopw [21, 22] (fun v21 v22 wr => ∃ (i : Nat) (T : WS), v21 = .int .u64 T.ck ∧ v22 = .int .i64 i ∧ i ≤ m2 ∧ D1 w wr T ∧ T.n = k ∧ T.L = LL ∧ Bg T E ∧ Iv T (i + 24) ∧ 0 ≤ T.ck) (fun v21 v22 _ => m2 - (intOf v22).toNat)
      case atStart => exact ⟨0, u, by rw [K0.out], rfl, Nat.zero_le _, D1v.out, N0, L0.out, BG0.out, IV0.out, by rw [K0.out]; omega⟩
      case round =>
        clear D1v IV0 BG0 K0 N0 L0 c7
        clear u
        obtain ⟨i, T, rfl, rfl, hi, hD, hTn, hTL, hBg, hIv, hck0⟩ := hrel
        have D := Lib.hid hD
        have IV := Lib.hid hIv
        have BG := Lib.hid hBg
        have he0 := hIv.e0
        have he1 := hIv.e1
        have hc1 := hIv.c
        by_cases hlt2 : i < m2
        · have him : (i : Int) < (m2 : Int) := by omega
          rcases H2.out.row with h0 | ⟨b0, off, rfl, hb, hcl⟩
          · omega
          have wf := H2.out.wf i hlt2
          obtain ⟨c0, c1, c2, c3, c4, c5⟩ := hcl i hlt2
          have B := D.out.b
          have hbr : b0 < wr.heap.size := by have := B.size; omega
          have eb : ∀ j, wr.cell? ⟨b0, j, none⟩ = w.cell? ⟨b0, j, none⟩ := fun j => B.cell (p := ⟨b0, j, none⟩) (by exact hb)
          have c0 := (eb _).trans c0
          have c1 := (eb _).trans c1
          have c2 := (eb _).trans c2
          have c3 := (eb _).trans c3
          have c4 := (eb _).trans c4
          have c5 := (eb _).trans c5
          have hm9 := (modOf_spec (g2 i).k 9 (by decide) (by decide)).2
          have MD := Lib.hid (fun W => mod_any (g2 i).k 9 (by decide) (by decide) W)
          have AT := Lib.hid (fun W => at_any ⟨(g2 i).k, (g2 i).s, (g2 i).t, (g2 i).h, (g2 i).e, false⟩ k T.ck E W (by omega))
          have IVS := Lib.hid (iv_step_at hIv (by omega) hck0 (by omega) ⟨(g2 i).k, (g2 i).s, (g2 i).t, (g2 i).h, (g2 i).e, false⟩ rfl (u64_of_wf wf.2.2.1).1 (u64_of_wf wf.2.2.2.1).1 k E)
          have BGS := Lib.hid (fun (m : Nat) (x : Ar) => bg_step hBg m x he0 (by omega) (by omega))
          have DOO := Lib.hid (fun (W : World) (x : Ar) (hw : Wk W T) => do_any hw (g2 i).k x)
          have b2 : Below wr.heap.size wr (wr.alloc (.cells #[.int .i64 (g2 i).k, .int .i64 (g2 i).s, .int .u64 (g2 i).t, .int .u64 (g2 i).h, .int .i64 (g2 i).e, .bool false] 36)) := bal (Below.refl _ _) _
          have D1' := Lib.hid (D.out.below b2)
          have ZC : (wr.alloc (.cells #[.int .i64 (g2 i).k, .int .i64 (g2 i).s, .int .u64 (g2 i).t, .int .u64 (g2 i).h, .int .i64 (g2 i).e, .bool false] 36)).cell? ⟨wr.heap.size, 0, none⟩ = some (.int .i64 (g2 i).k) := (new_c wr _ 36 0).trans rfl
          have ZC := Lib.hid ZC
          have hZ : wr.heap.size < (wr.alloc (.cells #[.int .i64 (g2 i).k, .int .i64 (g2 i).s, .int .u64 (g2 i).t, .int .u64 (g2 i).h, .int .i64 (g2 i).e, .bool false] 36)).heap.size := by simp
          have apZ : wr.heap.size ≠ T.L ∧ (0 < T.n → wr.heap.size ≠ T.X) := by
            have := D.out.k.lL
            refine ⟨by omega, fun h0 => by have := D.out.k.lX h0; omega⟩
          have hxt : 0 ≤ (atR ⟨(g2 i).k, (g2 i).s, (g2 i).t, (g2 i).h, (g2 i).e, false⟩ k T.ck E).t := wU_nn _
          clear wf B hcl eb hD hIv IV b2 he0 he1 D hBg BG hc1
          unfold Cl.cells Ar.cells at AT
          unfold Ar.cells at DOO
          generalize atR ⟨(g2 i).k, (g2 i).s, (g2 i).t, (g2 i).h, (g2 i).e, false⟩ k T.ck E = x at *
          simp only at IVS
          generalize modOf (g2 i).k 9 = mk at *
          generalize (g2 i).k = kd2 at *
          generalize (g2 i).s = ks at *
          generalize (g2 i).t = kt at *
          generalize (g2 i).h = kh at *
          generalize (g2 i).e = ke at *
          generalize (g2 i).raw = kr at *
          have DN := do_now T mk x
          have BN := BGS.out mk x
          have CK0 := Lib.hid (do_ck0 T mk x hck0 hxt)
          have NN := do_n T mk x
          clear BGS hxt hck0
          generalize hck : T.ck = ck at *
          have HCK := Lib.hid hck
          clear hck
          go_wp2_with fail
          refine (AT.out _).mono ?_
          rintro e w5 ⟨rfl, hb5⟩
          have D5 := Lib.hid (D1'.out.below hb5)
          have c0 : w5.cell? ⟨wr.heap.size, 0, none⟩ = some (.int .i64 kd2) := (hb5.cell (by exact hZ)).trans ZC.out
          have hZ5 : wr.heap.size < w5.heap.size := Nat.lt_of_lt_of_le hZ hb5.size
          clear hb5 ZC hZ D1' AT hbr c1 c2 c3 c4 c5
          generalize wr.heap.size = Z at *
          obtain ⟨xs, xt, xo, xe⟩ := x
          have apQ : w5.heap.size ≠ T.L ∧ (0 < T.n → w5.heap.size ≠ T.X) := by
            have := D5.out.k.lL
            refine ⟨by omega, fun h0 => by have := D5.out.k.lX h0; omega⟩
          have D6 := Lib.hid (D5.out.below (bal (Below.refl _ _) (.cells #[.int .i64 xs, .int .u64 xt, .int .u64 xo, .int .i64 xe] 34)))
          have z0 : (w5.alloc (.cells #[.int .i64 xs, .int .u64 xt, .int .u64 xo, .int .i64 xe] 34)).cell? ⟨Z, 0, none⟩ = some (.int .i64 kd2) := ((Below.refl _ _).alloc (Nat.le_refl _) _ : Below w5.heap.size w5 _).cell (p := ⟨Z, 0, none⟩) hZ5 |>.trans c0
          have yQ : (w5.alloc (.cells #[.int .i64 xs, .int .u64 xt, .int .u64 xo, .int .i64 xe] 34)).heap[w5.heap.size]? = some (.cells #[.int .i64 xs, .int .u64 xt, .int .u64 xo, .int .i64 xe] 34 (0, 0)) := heap_alloc_new w5 _
          have lZ : Z < (w5.alloc (.cells #[.int .i64 xs, .int .u64 xt, .int .u64 xo, .int .i64 xe] 34)).heap.size := by simp; omega
          have YQ := Lib.hid yQ
          have Z0 := Lib.hid z0
          clear c0 yQ z0 D5
          go_upto_region 27 with fail
          generalize hw6 : w5.alloc (.cells #[.int .i64 xs, .int .u64 xt, .int .u64 xo, .int .i64 xe] 34) = w6 at *
          clear hw6
          generalize w5.heap.size = Q at *
          have c0 := Z0.out
          have y0 := (cells_at YQ.out 0).trans rfl
          have y1 := (cells_at YQ.out 1).trans rfl
          have y2 := (cells_at YQ.out 2).trans rfl
          have y3 := (cells_at YQ.out 3).trans rfl
          have lQ := blk_lt YQ.out
          clear Z0 YQ hZ5
          have DO := DOO.out w6 ⟨xs, xt, xo, xe⟩ D6.out.k
          rw [hTL] at DO
          clear DOO
          go_wp2_with fail
          refine DO.mono ?_
          clear DO
          intro e w7 hp
          have K5 : w7.cell? ⟨Z, 0, none⟩ = some (.int .i64 kd2) ∧ w7.cell? ⟨Q, 1, none⟩ = some (.int .u64 xt) ∧ w7.cell? ⟨Q, 3, none⟩ = some (.int .i64 xe) ∧ Z < w7.heap.size ∧ Q < w7.heap.size := by
            obtain ⟨_, _, _, _, _, hc, _⟩ := hp
            have ez : ∀ j, w7.cell? ⟨Z, j, none⟩ = w6.cell? ⟨Z, j, none⟩ := fun j => World.cell?_of_block (hc.block Z lZ (fun e => by rcases e with e | ⟨e, h0⟩; exact apZ.1 e; exact apZ.2 h0 e))
            have eq : ∀ j, w7.cell? ⟨Q, j, none⟩ = w6.cell? ⟨Q, j, none⟩ := fun j => World.cell?_of_block (hc.block Q lQ (fun e => by rcases e with e | ⟨e, h0⟩; exact apQ.1 e; exact apQ.2 h0 e))
            have := hc.size
            exact ⟨(ez _).trans c0, (eq _).trans y1, (eq _).trans y3, by omega, by omega⟩
          obtain ⟨X', A', c', rfl, D7⟩ := D6.out.op hp
          clear hp D6 c0 y0 y1 y2 y3 lQ lZ
          obtain ⟨c0, y1, y3, lZ, lQ⟩ := K5
          have NT : Hid (((doK T mk ⟨xs, xt, xo, xe⟩).1.loc T.L X' A' c').n = k) := NN.trans hTn
          have IV2 := Lib.hid (IVS.out.loc T.L X' A' c')
          have BG2 := Lib.hid (BN.loc T.L X' A' c')
          have LT : Hid (((doK T mk ⟨xs, xt, xo, xe⟩).1.loc T.L X' A' c').L = LL) := hTL
          have CK : Hid (0 ≤ ((doK T mk ⟨xs, xt, xo, xe⟩).1.loc T.L X' A' c').ck) := CK0
          have DN2 : ((doK T mk ⟨xs, xt, xo, xe⟩).2 = 0 → mk < 8 → ((doK T mk ⟨xs, xt, xo, xe⟩).1.loc T.L X' A' c').ck = xt) ∧ ((doK T mk ⟨xs, xt, xo, xe⟩).2 ≠ 0 ∨ 8 ≤ mk → ((doK T mk ⟨xs, xt, xo, xe⟩).1.loc T.L X' A' c').ck = ck) := ⟨DN.1, fun h => DN.2 h⟩
          have D7 := Lib.hid D7
          clear IVS BN NN HCK DN CK0
          generalize (doK T mk ⟨xs, xt, xo, xe⟩).1.loc T.L X' A' c' = U at *
          generalize (doK T mk ⟨xs, xt, xo, xe⟩).2 = er at *
          clear hTn hTL apZ apQ
          clear T
          have AR : Hid (∀ W, Wk W U → Calls Try.prog 25 #[.pointer (some ⟨LL, 0, none⟩), .int .i64 E, .int .u64 U.ck] W (OpQ W U (U, 17))) := fun W hW => by
            have := arm_any hW E U.ck
            have e0 := IV2.out.e0
            have e1 := IV2.out.e1
            have cc := IV2.out.c
            have nn := NT.out
            rw [LT.out, arm_busy BG2.out U.ck (Int.le_refl _) (by omega) e0 (by omega) (by omega)] at this
            exact this
          have lU : LL < w7.heap.size := LT.out ▸ D7.out.k.lL
          have hw3 : (er = 0 ∧ (mk : Int) < 8 ∧ xt = U.ck) ∨ ((er == 0) = false ∧ ck = U.ck) ∨ (er = 0 ∧ ¬ (mk : Int) < 8 ∧ ck = U.ck) := by
            by_cases q : er = 0
            · by_cases q8 : mk < 8
              · exact .inl ⟨q, by omega, (DN2.1 q q8).symm⟩
              · exact .inr (.inr ⟨q, by omega, (DN2.2 (.inr (by omega))).symm⟩)
            · exact .inr (.inl ⟨beq_eq_false_iff_ne.2 q, (DN2.2 (.inl q)).symm⟩)
          clear DN2
          rcases hw3 with ⟨rfl, h8, rfl⟩ | ⟨hno, rfl⟩ | ⟨rfl, h8, rfl⟩
          all_goals
            go_upto_region 29 with (go_at_call 13; refine (MD.out _).mono ?_; rintro e w9 ⟨rfl, rfl⟩)
            by_cases h7 : mk = 7 ∧ xe = E
            · obtain ⟨h7, rfl⟩ := h7
              try (exfalso; omega)
              all_goals
                subst h7
                go_wp2_with (first | (go_at_call 13; refine (MD.out _).mono ?_; rintro e w9 ⟨rfl, rfl⟩) | (go_at_call 25; refine (AR.out _ D7.out.k).mono ?_; intro e w9 hp9; obtain ⟨X2, A2, c2, rfl, D8⟩ := D7.out.op hp9; have D8 := Lib.hid D8; clear hp9))
                go_roundw
                case rel => exact ⟨i + 1, U.loc U.L X2 A2 c2, rfl, by go_num, by omega, D8.out, NT.out, LT.out, BG2.out.loc _ _ _ _, IV2.out.loc _ _ _ _, CK.out⟩
                case measure => simp [intOf]; omega
            · have h7' : ((mk : Int) == 7) = false ∨ (mk = 7 ∧ (xe == E) = false) := by
                by_cases q : mk = 7
                · exact .inr ⟨q, beq_eq_false_iff_ne.2 (fun e => h7 ⟨q, e⟩)⟩
                · exact .inl (beq_eq_false_iff_ne.2 (by omega))
              clear h7
              rcases h7' with h7' | ⟨e7, hxe⟩
              all_goals try (exfalso; omega)
              all_goals try subst e7
              all_goals
                go_wp2_with (go_at_call 13; refine (MD.out _).mono ?_; rintro e w9 ⟨rfl, rfl⟩)
                go_roundw
                case rel => exact ⟨i + 1, U, rfl, by go_num, by omega, D7.out, NT.out, LT.out, BG2.out, IV2.out, CK.out⟩
                case measure => simp [intOf]; omega
        · have him : ¬ (i : Int) < (m2 : Int) := by omega
          have P1 := arm_any D.out.k E T.ck
          rw [hTL, arm_busy hBg T.ck (Int.le_refl _) (by omega) he0 (by omega) (by omega)] at P1
          clear hD hIv hBg he0 he1 hc1 hck0
          generalize T.ck = ck at *
          go_wp2_with fail
          refine P1.mono ?_
          clear P1
          intro e w7 hp7
          obtain ⟨X2, A2, c2, rfl, D7⟩ := D.out.op hp7
          have D7 := Lib.hid D7
          clear hp7
          go_wp2_with (go_at_call 10; refine (AW.out _).mono ?_; rintro e w10 ⟨rfl, hb10⟩)
          go_ret
          exact ⟨rfl, bel2 D7.out.b hb10⟩
end Go.Proofs.Ytmhabdpnakbfpaa
