/- SuspendAbortLikeFailure: the walk. -/
import Derived.Test.YtcmklipifhpgmaaTwo
import Derived.Test.YtcmklipifhpgmaaOpn
import Derived.Laws.StructEq
namespace Go.Proofs.Ytcmklipifhpgmaa
open Go.ChangeShapes Go.WideShapes Go.ChangeAt Go.RowKit Go.Deep Go.Joins

set_option maxRecDepth 20000 in
set_option maxHeartbeats 8000000 in
theorem ab_walk (RA : Option Addr) (m rc : Nat) (R : Nat → Int) (wh code : Int) (w : World) (h : Fl w RA 1 m (eV R)) (_ : (Lit.int .i64 wh).wf = true) (_ : (Lit.int .i64 code).wf = true) : Calls Try.prog 9 #[.slice RA m rc, .int .i64 wh, .int .i64 code] w (LawP w) := by
  by_cases hm : 20 < m
  · have hm2 : (20 : Int) < (m : Int) := by omega
    have AW := awake_any w
    clear h
    go_enter Try.func9, Try.ntmps9
    go_wp2_with fail
    refine AW.mono ?_
    clear AW
    rintro e w1 ⟨rfl, hb⟩
    have F : Hid (LawP w (.returned (.bool true)) w1) := ⟨rfl, hb⟩
    clear hb
    go_wp2
    go_ret
    exact F.out
  have hm2 : ¬ ((20 : Int) < (m : Int)) := by omega
  by_cases hm0 : m = 0
  · subst hm0
    have AW := awake_any w
    clear h
    go_enter Try.func9, Try.ntmps9
    go_wp2_with fail
    refine AW.mono ?_
    clear AW
    rintro e w1 ⟨rfl, hb⟩
    have F : Hid (LawP w (.returned (.bool true)) w1) := ⟨rfl, hb⟩
    clear hb
    go_wp2
    go_ret
    exact F.out
  have hm3 : ((m : Int) == 0) = false := by simp; omega
  by_cases hc0 : code = 0
  · subst hc0
    have AW := awake_any w
    clear h
    go_enter Try.func9, Try.ntmps9
    go_wp2_with fail
    refine AW.mono ?_
    clear AW
    rintro e w1 ⟨rfl, hb⟩
    have F : Hid (LawP w (.returned (.bool true)) w1) := ⟨rfl, hb⟩
    clear hb
    go_wp2
    go_ret
    exact F.out
  have hc1 : (code == 0) = false := by simpa using hc0
  have hc2 : (code != 0) = true := by simpa using hc0
  have OR := ord_any RA m rc R w h (by omega)
  have hn7 : n7 m ≤ 7 ∧ 1 ≤ n7 m := by unfold n7; split <;> omega
  obtain ⟨n, hn⟩ : ∃ n, n = n7 m := ⟨_, rfl⟩
  rw [← hn] at OR hn7
  have hgood := oF_good R n (by omega)
  obtain ⟨E, hE⟩ : ∃ E, E = oF R n := ⟨_, rfl⟩
  unfold OrP at OR
  rw [← hE] at OR hgood
  have HG := Lib.hid hgood
  have HC := Lib.hid hc0
  have MD : Hid (∀ W : World, Calls Try.prog 12 #[.int .i64 wh, .int .i64 (4 * (n : Int))] W (fun e w' => e = .returned (.int .i64 (modOf wh (4 * n) : Nat)) ∧ w' = W)) := fun W => by
    have h := mod_any wh (4 * n) (by omega) (by omega) W
    rw [show ((4 * n : Nat) : Int) = 4 * (n : Int) by omega] at h
    exact h
  have hk0 : modOf wh (4 * n) < 4 * n := (modOf_spec wh (4 * n) (by omega) (by omega)).2
  generalize modOf wh (4 * n) = k0 at *
  clear h hE hn hgood hc0
  go_enter Try.func9, Try.ntmps9
  go_wp2_with fail
  refine OR.mono ?_
  clear OR
  rintro e w1 ⟨v, rfl, hown, hb1⟩
  rw [show vsL (eV E) n = vsL (eV E) (n * 1) by rw [Nat.mul_one]] at hown
  obtain ⟨A, c, rfl, hF, -, -, -, hnn, -⟩ := fl_of_own hown (by omega)
  have NW := new_any (Z := fun _ => False) A n c E w1 hF hnn HG.out (fun b hb => hb.elim)
  have HB1 := Lib.hid hb1
  have HF := Lib.hid (And.intro hF hnn)
  clear hown hb1 hF hnn
  go_wp2_with fail
  refine NW.mono ?_
  clear NW
  rintro e w2 ⟨La, Ma, OA, oc, rfl, hS, hb2, hL, hM, hO⟩
  have NW := new_any (Z := fun x => x = La ∨ x = Ma) A n c E w2 (HF.out.1.below hb2 (Nat.le_refl _)) HF.out.2 HG.out (fun b hb => by obtain ⟨b1, b2, _⟩ := hS.blk; have b1 : La < w2.heap.size := b1; have b2 : Ma < w2.heap.size := b2; omega)
  have HS1 := Lib.hid (And.intro hS (And.intro hb2 (And.intro hL hM)))
  clear hS hb2 hL hM hO HF
  go_wp2_with fail
  refine NW.mono ?_
  clear NW
  rintro e w3 ⟨Lb, Mb, OB, oc2, rfl, hS, hb3, hL, hM, hO⟩
  have hsz := HB1.out.size
  obtain ⟨g1, g2, g3, g4⟩ := HS1.out
  have D0 : Hid (D2 w w3 La Ma OA Lb Mb OB (newS La Ma OA oc n E) (newS Lb Mb OB oc2 n E)) := D2.mk2 g1 (bel2 HB1.out g2) ⟨rfl, rfl, rfl⟩ ⟨by omega, by omega⟩ hS hb3 ⟨rfl, rfl, rfl⟩ ⟨hL, hM⟩ hO
  have JA := Lib.hid (J1.new HG.out La Ma OA oc)
  have JB := Lib.hid (J1.new HG.out Lb Mb OB oc2)
  have S0 : Hid (Sm (newS La Ma OA oc n E) (newS Lb Mb OB oc2 n E)) := ⟨rfl, rfl, rfl, rfl, rfl⟩
  clear hS hb3 hL hM hO HB1 hsz g1 g2 g3 g4 HS1
  go_upto_region 9 with fail
  go_loopw [12] (fun v12 wr => ∃ (s t : SQ) (i : Nat), v12 = .int .i64 i ∧ i ≤ k0 ∧ J1 s n E i ∧ J1 t n E i ∧ Sm s t ∧ D2 w wr La Ma OA Lb Mb OB s t) (fun v12 _ => k0 - (intOf v12).toNat)
  case atStart => exact ⟨_, _, 0, rfl, Nat.zero_le _, JA.out, JB.out, S0.out, D0.out⟩
  case round =>
    clear JA JB S0 D0
    obtain ⟨s, t, i, rfl, hi, hJ, hK, hSm, hD⟩ := hrel
    have MD1 := MD.out wr
    have hl := frw_len n E 3
    have hpne : s.p ≠ [] := fun e => by have := hJ.p; rw [e] at this; have := congrArg List.length this; simp at this; omega
    have htne : t.p ≠ [] := fun e => hpne (hSm.p.trans e)
    have hs0 : s.st = 0 := by rw [hJ.st, if_pos (by omega)]
    go_wp2_with fail
    refine MD1.mono ?_
    clear MD1
    rintro e wm ⟨rfl, hw⟩
    subst hw
    by_cases hlt : i < k0
    · have hlt2 : (i : Int) < (k0 : Int) := by omega
      have ST := hJ.step (by omega)
      have SU := hK.step (by omega)
      have CP := hD.cplA hJ.iv (by omega) 0
      rw [ST.1] at CP
      have JA := Lib.hid ST.2
      have JB := Lib.hid SU.2
      have SM := Lib.hid (hSm.cpl hs0 hpne)
      have HK := Lib.hid (And.intro hK.iv SU.1)
      clear ST SU hJ hK hD hSm hpne htne hs0
      go_wp2_with fail
      refine CP.mono ?_
      clear CP
      rintro e w4 ⟨rfl, hD⟩
      have CQ := hD.cplB HK.out.1 (by omega) 0
      rw [HK.out.2] at CQ
      clear hD
      go_wp2_with fail
      refine CQ.mono ?_
      clear CQ
      rintro e w5 ⟨rfl, hD⟩
      have HD := Lib.hid hD
      clear hD
      go_wp2
      go_roundw
      case rel => exact ⟨_, _, i + 1, by go_num, by omega, JA.out, JB.out, SM.out, HD.out⟩
      case measure => simp [intOf]; omega
    · obtain rfl : i = k0 := by omega
      have e1 : cplS s code = (undS s code, 0) := by
        obtain ⟨x, q, hq⟩ : ∃ x q, s.p = x :: q := by
          cases e : s.p with
          | nil => exact absurd e hpne
          | cons x q => exact ⟨x, q, rfl⟩
        unfold cplS
        rw [hq]
        simp only [hs0, if_true, if_neg HC.out]
      have e2 : aboS t = (undS t 20, 0) := by unfold aboS; rw [if_pos (hSm.st.symm.trans hs0)]
      have hI1 := hJ.iv.cpl code hpne
      rw [e1] at hI1
      have J0 : Hid (J3 (undS s code) (undS t 20) n 0 code 20) := by
        have hu := hSm.und code 20
        have hb := bk_len s
        rw [hJ.hn] at hb
        exact ⟨hu.p, rfl, rfl, rfl, rfl, by show 0 + (bk s).length ≤ 4 * n; omega, ⟨i + 1, hI1, by omega⟩, ⟨i, Iv.und hK.iv.dv hK.iv.ns 20 (by rw [hK.hn]; omega), by omega⟩⟩
      have HN : Hid ((undS s code).n = n ∧ (undS t 20).n = n) := ⟨hJ.hn, hK.hn⟩
      have CP := hD.cplA hJ.iv (by omega) code
      rw [e1] at CP
      have HK := Lib.hid (And.intro hK.iv e2)
      clear e1 e2 hI1 hJ hK hSm hD hpne htne hs0
      go_wp2_with fail
      refine CP.mono ?_
      clear CP
      rintro e w4 ⟨rfl, hD⟩
      have CQ := hD.aboB HK.out.1
      rw [HK.out.2] at CQ
      clear hD
      go_wp2_with fail
      refine CQ.mono ?_
      clear CQ
      rintro e w5 ⟨rfl, hD⟩
      have HD := Lib.hid hD
      clear hD HK
      go_upto_region 16 with fail
      go_loopw [13] (fun v13 wr => ∃ (s t : SQ) (j : Nat), v13 = .int .i64 j ∧ J3 s t n j code 20 ∧ s.n = n ∧ t.n = n ∧ D2 w wr La Ma OA Lb Mb OB s t) (fun v13 _ => 8 * n + 1 - (intOf v13).toNat)
      case atStart => exact ⟨_, _, 0, rfl, J0.out, HN.out.1, HN.out.2, HD.out⟩
      case round =>
        clear J0 HD HN
        obtain ⟨s, t, j, rfl, hJ, hsn, htn, hD⟩ := hrel
        have hj : (j : Int) ≤ 8 * (n : Int) := by have := hJ.ln; omega
        have HD := Lib.hid hD
        have NA := hD.nxtA
        have NB : Hid (∀ w', Below wr.heap.size wr w' → Calls Try.prog 24 #[.pointer (some ⟨Lb, 0, none⟩)] w' (NxP w' t)) := fun w' hb => (HD.out.below hb).nxtB
        have HJ := Lib.hid hJ
        unfold NxP nxT at NA NB
        rw [← hJ.p] at NB
        clear hD
        cases hp : s.p with
        | nil =>
          rw [hp] at NA NB
          have h3 : s.st = 3 := by rw [hJ.st, hp]; rfl
          have h4 : t.st = 3 := by rw [hJ.st2, ← hJ.p, hp]; rfl
          have r1 : resT s = .tuple #[.int .i64 code, .bool true] := by unfold resT; rw [if_pos h3, hJ.r]
          have r2 : resT t = .tuple #[.int .i64 20, .bool true] := by unfold resT; rw [if_pos h4, hJ.r2]
          have HR := Lib.hid (And.intro r1 r2)
          clear h3 h4 r1 r2 hJ hp
          simp only [List.length_nil, Nat.lt_irrefl, decide_false, List.getD_nil, opV] at NA NB
          go_wp2_with fail
          refine NA.mono ?_
          clear NA
          rintro e w3 ⟨rfl, hb3⟩
          have x0 := (bx2 w3 (.int .i64 0) (.int .i64 0) 30).1
          have x1 := (bx2 w3 (.int .i64 0) (.int .i64 0) 30).2
          have lx : w3.heap.size < (w3.alloc (.cells #[.int .i64 0, .int .i64 0] 30)).heap.size := by simp
          have hb4 : Below wr.heap.size wr (w3.alloc (.cells #[.int .i64 0, .int .i64 0] 30)) := bal hb3 _
          have NB := NB.out _ hb4
          have HB4 := Lib.hid hb4
          clear hb3 hb4
          go_wp2_with fail
          generalize (w3.alloc (.cells #[.int .i64 0, .int .i64 0] 30)) = w4 at *
          refine NB.mono ?_
          clear NB
          rintro e w5 ⟨rfl, hb5⟩
          have x0 := (hb5.cell (p := ⟨w3.heap.size, 0, none⟩) lx).trans x0
          have x1 := (hb5.cell (p := ⟨w3.heap.size, 1, none⟩) lx).trans x1
          have lx : w3.heap.size < w5.heap.size := Nat.lt_of_lt_of_le lx hb5.size
          have hb6 : Below wr.heap.size wr (w5.alloc (.cells #[.int .i64 0, .int .i64 0] 30)) := bal (bel2 HB4.out hb5) _
          have hx5 : Below w5.heap.size w5 (w5.alloc (.cells #[.int .i64 0, .int .i64 0] 30)) := bal (Below.refl _ _) _
          have y0 := (bx2 w5 (.int .i64 0) (.int .i64 0) 30).1
          have y1 := (bx2 w5 (.int .i64 0) (.int .i64 0) 30).2
          have ly : w5.heap.size < (w5.alloc (.cells #[.int .i64 0, .int .i64 0] 30)).heap.size := by simp
          have x0 := (hx5.cell (p := ⟨w3.heap.size, 0, none⟩) lx).trans x0
          have x1 := (hx5.cell (p := ⟨w3.heap.size, 1, none⟩) lx).trans x1
          have lx : w3.heap.size < (w5.alloc (.cells #[.int .i64 0, .int .i64 0] 30)).heap.size := Nat.lt_of_lt_of_le lx hx5.size
          have HB6 := Lib.hid hb6
          clear hb5 hb6 hx5 HB4
          go_upto_region 20 with fail
          generalize (w5.alloc (.cells #[.int .i64 0, .int .i64 0] 30)) = w6 at *
          have HD6 := Lib.hid (HD.out.below HB6.out)
          have RA := HD6.out.resA
          have RB := HD6.out.resB
          rw [HR.out.1] at RA
          rw [HR.out.2] at RB
          go_wp2_with fail
          refine RA.mono ?_
          clear RA
          rintro e w7 ⟨rfl, hw⟩
          subst hw
          go_wp2_with fail
          refine RB.mono ?_
          clear RB
          rintro e w8 ⟨rfl, hw⟩
          subst hw
          have AW := awake_any w8
          have HB7 := Lib.hid HD6.out.bel
          go_wp2_with fail
          refine AW.mono ?_
          clear AW
          rintro e w9 ⟨rfl, hb9⟩
          have F : Hid (LawP w (.returned (.bool true)) w9) := ⟨rfl, bel2 HB7.out hb9⟩
          clear hb9
          go_wp2
          go_ret
          exact F.out
        | cons x q =>
          rw [hp] at NA NB
          obtain ⟨ph, d⟩ := x
          have hpne : s.p ≠ [] := by rw [hp]; exact List.cons_ne_nil _ _
          have ST := hJ.step HC.out (by decide) hn7.1 hsn htn hpne
          obtain ⟨k, hk, hk2⟩ := hJ.iv
          obtain ⟨l, hl2, hl3⟩ := hJ.iv2
          have n1 := (cpl_L s 0).2.2.1.trans hsn
          have n2 := (cpl_L t 0).2.2.1.trans htn
          have HX := Lib.hid (And.intro ST (And.intro hk (And.intro hl2 (And.intro n1 n2))))
          have NA : Calls Try.prog 24 #[.pointer (some ⟨La, 0, none⟩)] wr (fun e w' => e = .returned (.tuple #[.agg #[.int .i64 ph, .int .i64 d], .bool true]) ∧ Below wr.heap.size wr w') := NA.mono (fun e w' h => ⟨by rw [h.1]; simp [opV], h.2⟩)
          have NB : Hid (∀ w', Below wr.heap.size wr w' → Calls Try.prog 24 #[.pointer (some ⟨Lb, 0, none⟩)] w' (fun e w'' => e = .returned (.tuple #[.agg #[.int .i64 ph, .int .i64 d], .bool true]) ∧ Below w'.heap.size w' w'')) := fun w' hb => (NB.out w' hb).mono (fun e w' h => ⟨by rw [h.1]; simp [opV], h.2⟩)
          clear ST hk hl2 n1 n2 hpne hJ hp hsn htn
          go_wp2_with fail
          refine NA.mono ?_
          clear NA
          rintro e w3 ⟨rfl, hb3⟩
          have x0 := (bx2 w3 (.int .i64 ph) (.int .i64 d) 30).1
          have x1 := (bx2 w3 (.int .i64 ph) (.int .i64 d) 30).2
          have lx : w3.heap.size < (w3.alloc (.cells #[.int .i64 ph, .int .i64 d] 30)).heap.size := by simp
          have hb4 : Below wr.heap.size wr (w3.alloc (.cells #[.int .i64 ph, .int .i64 d] 30)) := bal hb3 _
          have NB := NB.out _ hb4
          have HB4 := Lib.hid hb4
          clear hb3 hb4
          go_wp2_with fail
          generalize (w3.alloc (.cells #[.int .i64 ph, .int .i64 d] 30)) = w4 at *
          refine NB.mono ?_
          clear NB
          rintro e w5 ⟨rfl, hb5⟩
          have x0 := (hb5.cell (p := ⟨w3.heap.size, 0, none⟩) lx).trans x0
          have x1 := (hb5.cell (p := ⟨w3.heap.size, 1, none⟩) lx).trans x1
          have lx : w3.heap.size < w5.heap.size := Nat.lt_of_lt_of_le lx hb5.size
          have hb6 : Below wr.heap.size wr (w5.alloc (.cells #[.int .i64 ph, .int .i64 d] 30)) := bal (bel2 HB4.out hb5) _
          have hx5 : Below w5.heap.size w5 (w5.alloc (.cells #[.int .i64 ph, .int .i64 d] 30)) := bal (Below.refl _ _) _
          have y0 := (bx2 w5 (.int .i64 ph) (.int .i64 d) 30).1
          have y1 := (bx2 w5 (.int .i64 ph) (.int .i64 d) 30).2
          have ly : w5.heap.size < (w5.alloc (.cells #[.int .i64 ph, .int .i64 d] 30)).heap.size := by simp
          have x0 := (hx5.cell (p := ⟨w3.heap.size, 0, none⟩) lx).trans x0
          have x1 := (hx5.cell (p := ⟨w3.heap.size, 1, none⟩) lx).trans x1
          have lx : w3.heap.size < (w5.alloc (.cells #[.int .i64 ph, .int .i64 d] 30)).heap.size := Nat.lt_of_lt_of_le lx hx5.size
          have HB6 := Lib.hid hb6
          clear hb5 hb6 hx5 HB4
          go_upto_region 20 with fail
          generalize (w5.alloc (.cells #[.int .i64 ph, .int .i64 d] 30)) = w6 at *
          have HD6 := Lib.hid (HD.out.below HB6.out)
          have CP := HD6.out.cplA HX.out.2.1 (by omega) 0
          rw [HX.out.1.1] at CP
          go_wp2_with fail
          refine CP.mono ?_
          clear CP
          rintro e w7 ⟨rfl, hD⟩
          have CQ := hD.cplB HX.out.2.2.1 (by omega) 0
          rw [HX.out.1.2.1] at CQ
          clear hD
          go_wp2_with fail
          refine CQ.mono ?_
          clear CQ
          rintro e w8 ⟨rfl, hD⟩
          have HD8 := Lib.hid hD
          clear hD
          go_wp2
          go_roundw
          case rel => exact ⟨_, _, j + 1, by go_num, HX.out.1.2.2, HX.out.2.2.2.1, HX.out.2.2.2.2, HD8.out⟩
          case measure => simp [intOf]; omega
end Go.Proofs.Ytcmklipifhpgmaa
