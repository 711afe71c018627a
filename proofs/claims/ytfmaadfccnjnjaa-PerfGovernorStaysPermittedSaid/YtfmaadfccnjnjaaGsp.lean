/- The walk of PerfGovernorStaysPermitted. -/
import Derived.Test.YtfmaadfccnjnjaaRg3
namespace Go.Proofs.Ytfmaadfccnjnjaa
open Go.RowKit
attribute [local go_sem ↓] Go.wp_at_zero Go.wp_at_succ

theorem smp_fields (f : Nat → St) (s : GV) (x : Nat) : (smpS f s x).up = s.up ∧ (smpS f s x).dn = s.dn ∧ (smpS f s x).sp = s.sp ∧ (smpS f s x).lo = s.lo ∧ (smpS f s x).hi = s.hi := by
  unfold smpS
  split
  · exact ⟨rfl, rfl, rfl, rfl, rfl⟩
  · split
    · split <;> exact ⟨rfl, rfl, rfl, rfl, rfl⟩
    · exact ⟨rfl, rfl, rfl, rfl, rfl⟩
theorem smp_cu {n : Nat} {f : Nat → St} {s : GV} (hk : GOk n s) (hw : ∀ i, i < n → 0 ≤ (f i).l) (x : Nat) :
    (s.up < x → (smpS f s x).cu = s.hi) ∧ (x ≤ s.up → s.dn ≤ x → (smpS f s x).cu = s.cu) ∧ (x ≤ s.up → x < s.dn → (smpS f s x).cu ≤ s.cu ∧ (x : Int) * (f s.cu).l ≤ (s.up : Int) * (f (smpS f s x).cu).l) := by
  obtain ⟨k1, k2, k3, k4, k5, k6, k7⟩ := hk
  have u0 := hw s.cu (by omega)
  refine ⟨fun h => by rw [smp_high h], fun h h2 => by rw [smp_mid h h2], fun h h2 => ?_⟩
  rcases Nat.lt_or_ge (s.lz + 1) s.sp with h3 | h3
  · rw [smp_wait h h2 h3]
    exact ⟨Nat.le_refl _, mul_le h u0⟩
  · rw [smp_low h h2 h3]
    obtain ⟨z1, z2, z3, z4⟩ := suf_spec f s.up (x * (f s.cu).l) s.lo s.cu k5 (mul_le h u0)
    exact ⟨z2, z3⟩
set_option maxRecDepth 100000 in
set_option maxHeartbeats 4000000 in
theorem gsp_walk (A : Option Addr) (m c : Nat) (g : Nat → St) (X : GP) (low high : Int) (E : Option Addr) (q d : Nat) (Z : Nat → Int) (w : World) (h : SlS w A m g) (_hp : True) (_hl : (Lit.int .i64 low).wf = true) (_hh : (Lit.int .i64 high).wf = true) (hZ' : Ns .i64 w E q Z ∧ q ≤ d ∧ d ≤ 9223372036854775807) :
    Calls Try.prog 8 #[.slice A m c, .agg #[.int .i64 X.up, .int .i64 X.dn, .int .i64 X.sp], .int .i64 low, .int .i64 high, .slice E q d] w (LawPost w) := by
  obtain ⟨up, dn, sp⟩ := X
  simp only
  have LP : Hid (∀ w', Below w.heap.size w w' → LawPost w (.returned (.bool true)) w') := fun _ h => ⟨rfl, h⟩
  have hm := h.len
  obtain ⟨hZ, -⟩ := hZ'
  have hq := hZ.len
  have B1 := bal (Below.refl w.heap.size w) (Obj.cells #[.int .i64 up, .int .i64 dn, .int .i64 sp] 44)
  have x0 : (w.alloc (Obj.cells #[.int .i64 up, .int .i64 dn, .int .i64 sp] 44)).cell? ⟨w.heap.size, 0, none⟩ = some (.int .i64 up) := by simp [go_sem]
  have x1 : (w.alloc (Obj.cells #[.int .i64 up, .int .i64 dn, .int .i64 sp] 44)).cell? ⟨w.heap.size, 1, none⟩ = some (.int .i64 dn) := by simp [go_sem]
  have x2 : (w.alloc (Obj.cells #[.int .i64 up, .int .i64 dn, .int .i64 sp] 44)).cell? ⟨w.heap.size, 2, none⟩ = some (.int .i64 sp) := by simp [go_sem]
  have hsz : w.heap.size < (w.alloc (Obj.cells #[.int .i64 up, .int .i64 dn, .int .i64 sp] 44)).heap.size := by simp
  have S1 := h.below B1 (Nat.le_refl _)
  have HZ := Lib.hid hZ
  clear h hZ
  by_cases h20 : 20 < m
  · clear x0 x1 x2
    go_enter Try.func8, Try.ntmps8
    go_wp2_with fail
    generalize w.alloc (Obj.cells #[.int .i64 up, .int .i64 dn, .int .i64 sp] 44) = w1 at *
    refine (awake_any _).mono ?_
    rintro e w2 ⟨rfl, hb1⟩
    go_wp2
    go_ret
    exact LP.out _ (bel2 B1 hb1)
  by_cases h40 : 40 < q
  · clear x0 x1 x2
    go_enter Try.func8, Try.ntmps8
    go_wp2_with fail
    generalize w.alloc (Obj.cells #[.int .i64 up, .int .i64 dn, .int .i64 sp] 44) = w1 at *
    refine (awake_any _).mono ?_
    rintro e w2 ⟨rfl, hb1⟩
    go_wp2
    go_ret
    exact LP.out _ (bel2 B1 hb1)
  have hAll := Lib.hid (fun (W : World) (hW : Below (w.alloc (Obj.cells #[.int .i64 up, .int .i64 dn, .int .i64 sp] 44)).heap.size (w.alloc (Obj.cells #[.int .i64 up, .int .i64 dn, .int .i64 sp] 44)) W) => tab_any A m c g W (S1.below hW (Nat.le_refl _)))
  have PA := Lib.hid (fun W => par_any up dn sp W)
  clear S1
  go_enter Try.func8, Try.ntmps8
  go_upto_region 3 with fail
  go_cut [11, 12] (fun t q wx => Reg3 w m g up dn sp t q wx)
  case first =>
    generalize w.alloc (Obj.cells #[.int .i64 up, .int .i64 dn, .int .i64 sp] 44) = w1 at *
    have BH := Lib.hid B1
    clear B1
    go_region_held3 (fun w' => w'.cell? ⟨w.heap.size, 0, none⟩ = some (.int .i64 up) ∧ w'.cell? ⟨w.heap.size, 1, none⟩ = some (.int .i64 dn) ∧ w'.cell? ⟨w.heap.size, 2, none⟩ = some (.int .i64 sp) ∧ Below w1.heap.size w1 w')
      (((try go_split_ands); first | exact keepB hsz x0 x1 x2 (Below.refl _ _).drew | exact keepB hsz x0 x1 x2 (bal (Below.refl _ _) _).drew | exact keepB hsz x0 x1 x2 (bel2 (Below.refl _ _).drew hbt) | (refine keepB hsz x0 x1 x2 (bel2 ?_ hbp); assumption) | (refine keepB hsz x0 x1 x2 (bel2 ?_ hbt); assumption) | (refine keepB hsz x0 x1 x2 (bal ?_ _); assumption) | exact keepB hsz x0 x1 x2 (bal (bel2 (bel2 (Below.refl _ _).drew hbt) hbp) _) | (refine keepB hsz x0 x1 x2 (Below.setCell (Below.setCell (Below.setCell ?_ ?_ _) ?_ _) ?_ _) <;> first | assumption | (show _ ≤ _; simp only; omega))))
      ((first | (go_at_call 13; go_split_ands; refine (hAll.out _ (by assumption)).mono ?_; rintro e w9 ⟨Gt, ct, rfl, hGt, hSt, hbt⟩; have zt := hbt.size; (try simp at zt); have zg := hSt.lt (tbN_bd m).1; have zh : _ ≤ Gt := hGt; (try simp at zh); (first | (have hqt := qb_newd hbt; obtain ⟨q0, q1, q2, z0, z1, z2⟩ := qb_facts hqt) | (have hqt := qb_new hbt; obtain ⟨q0, q1, q2, z0, z1, z2⟩ := qb_facts hqt) | (have hqt := qb_keep hqp hbt; obtain ⟨q0, q1, q2, z0, z1, z2⟩ := qb_facts hqt) | skip)) | (go_at_call 26; go_split_ands; refine (PA.out _).mono ?_; rintro e w8 ⟨rfl, hbp⟩; have zp := hbp.size; (try simp at zp); (first | (have hqp := qb_newd hbp; obtain ⟨q0, q1, q2, z0, z1, z2⟩ := qb_facts hqp) | (have hqp := qb_new hbp; obtain ⟨q0, q1, q2, z0, z1, z2⟩ := qb_facts hqp) | (have hqp := qb_keep hqt hbp; obtain ⟨q0, q1, q2, z0, z1, z2⟩ := qb_facts hqp) | skip))))
    all_goals (go_wp2; go_meet)
    · exact reg3_mk1 (hSt.below hbp (Nat.le_refl _)) (bel2 BH.out (bel2 (bel2 (Below.refl _ _).drew hbt) hbp))
    · refine reg3_mk ((hSt.below (bal (Below.refl _ _) _) (Nat.le_refl _)).below hbp (Nat.le_refl _)) (bel2 BH.out (bel2 (bal (bel2 (Below.refl _ _).drew hbt) _) hbp)) ?_ ?_ ⟨_, _, _, hqp⟩
      · have := BH.out.size; omega
      · omega
    · refine reg3_mk (hSt.below hbp (Nat.le_refl _)) (bel2 BH.out (bel2 (bel2 (bal (Below.refl _ _) _).drew hbt) hbp)) ?_ ?_ ⟨_, _, _, hqp⟩
      · have := BH.out.size; omega
      · omega
  case rest =>
    obtain ⟨G, ct, Q, rfl, rfl, S0, hQ, q0, q1, q2, BW⟩ := hcut
    clear B1 hsz x0 x1 x2 hAll PA
    have hwc := BW.size
    obtain ⟨hn1, hn8, -, -⟩ := tbN_bd m
    have HV := Lib.hid (tbF_vld m g)
    have FB := Lib.hid (fun i => tbF_bd m g i)
    have PK := Lib.hid (p_ok (tbN m) up dn sp hn1)
    generalize tbF m g = f at *
    generalize tbN m = n at *
    generalize pdn up dn = D at *
    generalize pup up = U at *
    generalize psp sp = P at *
    have NG := Lib.hid (new_good G n ct f ⟨U, D, P, 0, n - 1, 0, 0⟩ wc S0 HV.out PK.out)
    have S0 := Lib.hid S0
    have BW := Lib.hid BW
    go_wp2_with fail
    refine NG.out.mono ?_
    rintro e w2 ⟨L, T, k, rfl, hL, hT, hTL, ST, R, b2⟩
    clear NG
    have hGw := S0.out.lt hn1
    have hQL : Q ≠ L := by omega
    have hGL : G ≠ L := by omega
    have hwL : w.heap.size ≤ L := by omega
    rw [← b2.cell (by exact hQ)] at q0 q1 q2
    have S0 := Lib.hid (S0.out.below b2 (Nat.le_refl _))
    have hQ : Q < w2.heap.size := by have := b2.size; omega
    have BW := Lib.hid (bel2 BW.out b2)
    have HQ := Lib.hid (And.intro q0 q1)
    have ST := Lib.hid ST
    have R := Lib.hid R
    clear b2 q0 q1 q2
    have hlo := (modOf_spec low n hn1 (by omega)).2
    have M1 := Lib.hid (mod_any low n hn1 (by omega) w2)
    generalize modOf low n = lo at *
    have hhi := (modOf_spec high (n - lo) (by omega) (by omega)).2
    have M2 := mod_any high (n - lo) (by omega) (by omega) w2
    generalize modOf high (n - lo) = dh at *
    rw [show ((n - lo : Nat) : Int) = (n : Int) - (lo : Int) by omega] at M2
    have M2 := Lib.hid M2
    go_wp2_with fail
    refine M1.out.mono ?_
    rintro e w3 ⟨rfl, rfl⟩
    go_wp2_with fail
    refine M2.out.mono ?_
    rintro e w3 ⟨rfl, rfl⟩
    have LG := lim_good L T n k ⟨U, D, P, 0, n - 1, 0, 0⟩ lo (lo + dh) w2 R.out (by omega) ⟨by omega, by omega⟩
    rw [show ((lo + dh : Nat) : Int) = (lo : Int) + (dh : Int) by omega] at LG
    have LG := Lib.hid LG
    go_wp2_with fail
    refine LG.out.mono ?_
    rintro e w4 ⟨rfl, R4, g4⟩
    have OK4 : GOk n (limS ⟨U, D, P, 0, n - 1, 0, 0⟩ lo (lo + dh)) := by
      obtain ⟨k1, k2, k3, k4, -, -, -⟩ := PK.out
      exact ⟨k1, k2, k3, by show 0 < P; simp only at k3; omega, by show lo ≤ min (max 0 lo) (lo + dh); omega, by show min (max 0 lo) (lo + dh) ≤ lo + dh; omega, by show lo + dh < n; omega⟩
    have I4 : Hid (w4.rowIs L 65 8 (gcell T n k (limS ⟨U, D, P, 0, n - 1, 0, 0⟩ lo (lo + dh))) ∧ GOk n (limS ⟨U, D, P, 0, n - 1, 0, 0⟩ lo (lo + dh)) ∧ w2.grownBy w4 (some L)) := ⟨R4, OK4, g4⟩
    have F4 : Hid ((limS ⟨U, D, P, 0, n - 1, 0, 0⟩ lo (lo + dh)).up = U ∧ (limS ⟨U, D, P, 0, n - 1, 0, 0⟩ lo (lo + dh)).dn = D ∧ (limS ⟨U, D, P, 0, n - 1, 0, 0⟩ lo (lo + dh)).lo = lo ∧ (limS ⟨U, D, P, 0, n - 1, 0, 0⟩ lo (lo + dh)).hi = lo + dh) := ⟨rfl, rfl, rfl, rfl⟩
    have hv := Lib.hid (show ∀ i, i < n → (f i).l ≤ 1099511627776 from fun i hi => by have := FB.out i; omega)
    have hv0 := Lib.hid (show ∀ i, i < n → 0 ≤ (f i).l from fun i hi => by have := FB.out i; omega)
    generalize limS ⟨U, D, P, 0, n - 1, 0, 0⟩ lo (lo + dh) = s4 at *
    clear LG R4 g4 OK4 M1 M2 R
    have hU100 : U ≤ 100 := PK.out.up.2
    have hi_eq : Hid (((lo + dh : Nat) : Int) = (lo : Int) + (dh : Int)) := by show _ = _; omega
    go_wp2_with fail
    go_loopw [17] (fun i wr => ∃ (j : Nat) (s : GV), j ≤ q ∧ i = .int .i64 j ∧ wr.rowIs L 65 8 (gcell T n k s) ∧ GOk n s ∧ s.up = U ∧ s.dn = D ∧ s.lo = lo ∧ s.hi = lo + dh ∧ w2.grownBy wr (some L)) (fun i _ => q - (intOf i).toNat)
    case atStart => exact ⟨0, s4, by omega, rfl, I4.out.1, I4.out.2.1, F4.out.1, F4.out.2.1, F4.out.2.2.1, F4.out.2.2.2, I4.out.2.2⟩
    case round =>
      clear I4 F4
      obtain ⟨j, s, hj, rfl, R, OK, e1, e2, e3, e4, GR⟩ := hrel
      have BR := bel_only BW.out GR hwL
      by_cases hlt : j < q
      · obtain ⟨b, off, rfl, d0⟩ := HZ.out.at BR (Nat.le_refl _) hlt
        generalize Z j = z at *
        have hx := (modOf_spec z 101 (by omega) (by omega)).2
        have MD := Lib.hid (fun W => mod_any z 101 (by omega) (by omega) W)
        generalize modOf z 101 = x at *
        have STr := ST.out.grown GR hTL
        have CQ := Lib.hid (fun (nn : Nat) => cur_any L T n k s (wr.drewN nn) (row_below R (below_drewN (Below.refl _ _) nn) (Nat.le_refl _)))
        have SM := Lib.hid (fun (nn : Nat) => smp_good L T n k s f x (wr.drewN nn) (row_below R (below_drewN (Below.refl _ _) nn) (Nat.le_refl _)) (STr.below (below_drewN (Below.refl _ _) nn) (Nat.le_refl _)) OK (by omega) hTL hv.out)
        have OK' := Lib.hid (gok_smp OK f x)
        obtain ⟨f1, f2, -, f3, f4⟩ := smp_fields f s x
        have SC := Lib.hid (smp_cu OK hv0.out x)
        have hc := OK.lh
        have FE : Hid ((smpS f s x).up = U ∧ (smpS f s x).dn = D ∧ (smpS f s x).lo = lo ∧ (smpS f s x).hi = lo + dh) := ⟨by omega, by omega, by omega, by omega⟩
        have GR := Lib.hid GR
        have BR := Lib.hid BR
        have hc' := OK'.out.lh
        rw [f3, f4, e3, e4] at hc'
        rw [e3, e4] at hc
        rw [e1, e2, e4] at SC
        have i1 : (j : Int) < q := by omega
        have i0 : (0 : Int) ≤ j := by omega
        clear R STr OK f1 f2 f3 f4
        generalize smpS f s x = s' at *
        go_upto_region 14 with fail
        go_quiet ((first | (go_at_call 31; exact Calls.quiet_of_same ((CQ.out _).mono fun e w' hh => ⟨hh.1, hh.2.symm⟩)) | (go_at_call 14; exact Calls.quiet_of_same ((MD.out _).mono fun e w' hh => ⟨hh.1, hh.2.symm⟩))))
        go_wp2_with fail
        refine (SM.out _).mono ?_
        rintro e w5 ⟨rfl, R5, g5⟩
        have GR5 := g_then (g_drewN GR.out nq) g5
        have Q0 : w5.cell? ⟨Q, 0, none⟩ = some (.int .i64 (U : Nat)) := (cut_mem GR5 hQ hQL 0).trans HQ.out.1
        have Q1 : w5.cell? ⟨Q, 1, none⟩ = some (.int .i64 (D : Nat)) := (cut_mem GR5 hQ hQL 1).trans HQ.out.2
        have S5 := S0.out.grown GR5 hGL
        have CU := Lib.hid (cur_any L T n k s' w5 R5)
        have R5 := Lib.hid R5
        have GR5 := Lib.hid GR5
        obtain ⟨sa, sb, sc⟩ := SC.out
        obtain ⟨c1, c2, c3⟩ := hc
        obtain ⟨c4, c5, -⟩ := hc'
        clear SM GR BR d0 CQ MD g5 SC
        generalize hcb : s'.cu = cb at *
        generalize hca : s.cu = ca at *
        have HCB := Lib.hid hcb
        have HCA := Lib.hid hca
        clear hcb hca
        by_cases hA : U < x
        · have eA := sa hA
          have hne : ((cb : Int) != (lo : Int) + (dh : Int)) = false := by simp; omega
          have EA := Lib.hid eA
          clear eA sa sb sc S5
          go_upto_region 16 with fail
          go_wp2_with (go_at_call 31; refine CU.out.mono ?_; rintro e w9 ⟨rfl, rfl⟩)
          go_roundw
          case rel => exact ⟨j + 1, s', by omega, by go_num, R5.out, OK'.out, FE.out.1, FE.out.2.1, FE.out.2.2.1, FE.out.2.2.2, GR5.out⟩
          case measure => simp [intOf]; omega
        by_cases hBc : D ≤ x
        · have eB := sb (by omega) hBc
          have hne : ((cb : Int) != (ca : Int)) = false := by simp; omega
          have EB := Lib.hid eB
          clear eB sa sb sc S5
          go_upto_region 16 with fail
          go_wp2_with (go_at_call 31; refine CU.out.mono ?_; rintro e w9 ⟨rfl, rfl⟩)
          go_roundw
          case rel => exact ⟨j + 1, s', by omega, by go_num, R5.out, OK'.out, FE.out.1, FE.out.2.1, FE.out.2.2.1, FE.out.2.2.2, GR5.out⟩
          case measure => simp [intOf]; omega
        obtain ⟨eC, eD⟩ := sc (by omega) (by omega)
        obtain ⟨d0, -, -⟩ := S5.cells (show ca < n by omega)
        obtain ⟨e0, -, -⟩ := S5.cells (show cb < n by omega)
        obtain ⟨m1, m2⟩ := mul_bd (show x ≤ 100 by omega) (hv0.out ca (by omega)) (hv.out ca (by omega))
        obtain ⟨m3, m4⟩ := mul_bd hU100 (hv0.out cb (by omega)) (hv.out cb (by omega))
        have i2 : (ca : Int) < n := by omega
        have i3 : (cb : Int) < n := by omega
        have n1 : ¬ ca < cb := by omega
        clear sa sb sc S5
        generalize hW : (x : Int) * (f ca).l = W at *
        generalize hF : (f ca).l = F at *
        generalize hV : (U : Int) * (f cb).l = V at *
        generalize hE : (f cb).l = E' at *
        by_cases hlt2 : cb < ca
        · go_upto_region 16 with fail
          go_upto_region 18 with (go_at_call 31; refine CU.out.mono ?_; rintro e w9 ⟨rfl, rfl⟩)
          have y1 : IntKind.u64.wrap (x : Int) = (x : Int) := IntWalk.u64_in _ (by omega)
          have y2 : IntKind.u64.wrap (U : Int) = (U : Int) := IntWalk.u64_in _ (by omega)
          have y3 : IntKind.u64.wrap W = W := IntWalk.u64_in _ (by omega)
          have y4 : IntKind.u64.wrap V = V := IntWalk.u64_in _ (by omega)
          go_quiet (fail)
          clear y1 y2 y3 y4
          go_wp2
          go_roundw
          case rel => exact ⟨j + 1, s', by omega, by go_num, row_below R5.out (below_drewN (Below.refl _ _) _) (Nat.le_refl _), OK'.out, FE.out.1, FE.out.2.1, FE.out.2.2.1, FE.out.2.2.2, g_drewN GR5.out _⟩
          case measure => simp [intOf]; omega
        · go_upto_region 16 with fail
          go_upto_region 18 with (go_at_call 31; refine CU.out.mono ?_; rintro e w9 ⟨rfl, rfl⟩)
          go_quiet (fail)
          go_wp2
          go_roundw
          case rel => exact ⟨j + 1, s', by omega, by go_num, row_below R5.out (below_drewN (Below.refl _ _) _) (Nat.le_refl _), OK'.out, FE.out.1, FE.out.2.1, FE.out.2.2.1, FE.out.2.2.2, g_drewN GR5.out _⟩
          case measure => simp [intOf]; omega
      · go_wp2_with fail
        refine (awake_any _).mono ?_
        rintro e w8 ⟨rfl, b8⟩
        go_wp2
        go_ret
        exact LP.out _ (bel2 BR b8)
end Go.Proofs.Ytfmaadfccnjnjaa
