/- SuspendFirstErrorIsResult: the walk. -/
import Derived.Test.YtcmklipifhpgmaaRun
import Derived.Test.YtcmklipifhpgmaaOpn
namespace Go.Proofs.Ytcmklipifhpgmaa
open Go.ChangeShapes Go.WideShapes Go.ChangeAt Go.RowKit Go.Deep Go.Joins

set_option maxRecDepth 20000 in
set_option maxHeartbeats 8000000 in
theorem fe_walk (RA : Option Addr) (m rc : Nat) (R : Nat → Int) (RB : Option Addr) (rm rbc : Nat) (R2 : Nat → Int) (w : World) (h : Fl w RA 1 m (eV R)) (h2 : Fl w RB 1 rm (eV R2)) : Calls Try.prog 8 #[.slice RA m rc, .slice RB rm rbc] w (LawP w) := by
  by_cases hm : 20 < m
  · have hm2 : (20 : Int) < (m : Int) := by omega
    have AW := awake_any w
    clear h h2
    go_enter Try.func8, Try.ntmps8
    go_wp2_with fail
    refine AW.mono ?_
    clear AW
    rintro e w1 ⟨rfl, hb⟩
    have F : Hid (LawP w (.returned (.bool true)) w1) := ⟨rfl, hb⟩
    clear hb
    go_wp2
    go_ret
    exact F.out
  have hm2 : ¬ ((20 : Int) < (m : Int)) := by omega
  by_cases hr : 60 < rm
  · have hr2 : (60 : Int) < (rm : Int) := by omega
    have AW := awake_any w
    clear h h2
    go_enter Try.func8, Try.ntmps8
    go_wp2_with fail
    refine AW.mono ?_
    clear AW
    rintro e w1 ⟨rfl, hb⟩
    have F : Hid (LawP w (.returned (.bool true)) w1) := ⟨rfl, hb⟩
    clear hb
    go_wp2
    go_ret
    exact F.out
  have hr2 : ¬ ((60 : Int) < (rm : Int)) := by omega
  have OR := ord_any RA m rc R w h (by omega)
  have hn7 : n7 m ≤ 7 := by unfold n7; split <;> omega
  obtain ⟨n, hn⟩ : ∃ n, n = n7 m := ⟨_, rfl⟩
  rw [← hn] at OR hn7
  have hgood := oF_good R n (by omega)
  obtain ⟨E, hE⟩ : ∃ E, E = oF R n := ⟨_, rfl⟩
  unfold OrP at OR
  rw [← hE] at OR hgood
  have HG := Lib.hid hgood
  have H2 := Lib.hid h2
  clear h hE hn hgood h2
  go_enter Try.func8, Try.ntmps8
  go_wp2_with fail
  refine OR.mono ?_
  clear OR
  rintro e w1 ⟨v, rfl, hown, hb1⟩
  rw [show vsL (eV E) n = vsL (eV E) (n * 1) by rw [Nat.mul_one]] at hown
  obtain ⟨A, c, rfl, hF, -, -, -, hnn, -⟩ := fl_of_own hown (by omega)
  have NW := new_any (Z := fun _ => False) A n c E w1 hF hnn HG.out (fun b hb => hb.elim)
  have HB1 := Lib.hid hb1
  clear hown hb1 hF hnn
  go_wp2_with fail
  refine NW.mono ?_
  clear NW
  rintro e w2 ⟨L, M, OA, oc, rfl, hS, hb2, hL, hM, hO⟩
  have hsz := HB1.out.size
  have D0 : Hid (D1 w w2 L M OA (newS L M OA oc n E)) := ⟨hS, bel2 HB1.out hb2, rfl, rfl, rfl, by omega, by omega⟩
  have J0 := Lib.hid (J1.new HG.out L M OA oc)
  clear hS hb2 hL hM hO HB1 hsz
  go_upto_region 8 with fail
  go_loopw [40] (fun v40 wr => ∃ (s : SQ) (k : Nat), v40 = .int .i64 k ∧ k ≤ 4 * n ∧ J1 s n E k ∧ D1 w wr L M OA s) (fun v40 _ => 4 * n - (intOf v40).toNat)
  case atStart => exact ⟨_, 0, rfl, Nat.zero_le _, J0.out, D0.out⟩
  case round =>
    clear J0 D0
    obtain ⟨s, k, rfl, hk, hJ, hD⟩ := hrel
    by_cases hlt : k < 4 * n
    · have hlt2 : (k : Int) < 4 * (n : Int) := by omega
      have ST := hJ.step hlt
      have CP := hD.cpl hJ.iv (by omega) 0
      rw [ST.1] at CP
      have J3 := Lib.hid ST.2
      clear ST hJ hD
      go_wp2_with fail
      refine CP.mono ?_
      clear CP
      rintro e w3 ⟨rfl, hD⟩
      have HD := Lib.hid hD
      clear hD
      go_wp2
      go_roundw
      case rel => exact ⟨_, k + 1, by go_num, by omega, J3.out, HD.out⟩
      case measure => simp [intOf]; omega
    · obtain rfl : k = 4 * n := by omega
      have hq : ¬ (((4 * n : Nat) : Int) < 4 * (n : Int)) := by omega
      have WK := hJ.wake
      have AS := hD.asl
      rw [WK.1] at AS
      have WC := hD.wak hJ.iv
      rw [WK.2.1] at WC
      have J5 := Lib.hid WK.2.2
      clear WK hJ hD
      go_wp2_with fail
      refine AS.mono ?_
      clear AS
      rintro e w3 ⟨rfl, hw⟩
      subst hw
      go_wp2_with fail
      refine WC.mono ?_
      clear WC
      rintro e w4 ⟨rfl, hD⟩
      have HD := Lib.hid hD
      generalize (wakS s).1 = s1 at *
      clear hD
      go_upto_region 16 with fail
      go_loopw [8, 9] (fun v8 v9 wr => ∃ (s : SQ) (f : Int) (i : Nat), v8 = .int .i64 f ∧ v9 = .int .i64 i ∧ i ≤ 4 * n ∧ J2 s n i f ∧ D1 w wr L M OA s) (fun _ v9 _ => 4 * n - (intOf v9).toNat)
      case atStart => exact ⟨s1, 0, 0, rfl, rfl, Nat.zero_le _, J5.out, HD.out⟩
      case round =>
        clear J5 HD
        obtain ⟨s, f, i, rfl, rfl, hi, hJ, hD⟩ := hrel
        by_cases hlt : i < 4 * n
        · have hlt2 : (i : Int) < 4 * (n : Int) := by omega
          have RS := hD.res
          have e3 : resT s = .tuple #[.int .i64 0, .bool false] := by
            unfold resT
            rw [if_neg (by rw [hJ.st, if_pos hlt]; decide)]
          rw [e3] at RS
          clear e3
          go_wp2_with fail
          refine RS.mono ?_
          clear RS
          rintro e w3 ⟨rfl, hw⟩
          subst hw
          by_cases hrm : i < rm
          · have RW := H2.out.below hD.bel (Nat.le_refl _)
            obtain ⟨rb, ro, rfl, hrl, r0⟩ := RW.eat hrm
            clear RW
            have ST := J2.step hJ hlt (R2 i)
            have CP := hD.cpl hJ.iv (by omega) (R2 i)
            rw [ST.1] at CP
            have J3 := Lib.hid ST.2
            have hr := hJ.r
            clear ST hJ hD
            go_wp2_with fail
            refine CP.mono ?_
            clear CP
            rintro e w5 ⟨rfl, hD⟩
            have HD := Lib.hid hD
            clear hD
            by_cases hf : f = 0
            · have J4 : Hid (J2 (cplS s (R2 i)).1 n (i + 1) (R2 i)) := by have := J3.out; rw [if_pos hf] at this; exact this
              subst hf
              clear J3 hr
              go_wp2
              go_roundw
              case rel => exact ⟨_, (R2 i), i + 1, rfl, by go_num, by omega, J4.out, HD.out⟩
              case measure => simp [intOf]; omega
            · have J4 : Hid (J2 (cplS s (R2 i)).1 n (i + 1) f) := by have := J3.out; rw [if_neg hf] at this; exact this
              have hf2 : (f == 0) = false := by simpa using hf
              clear J3 hr
              go_wp2
              go_roundw
              case rel => exact ⟨_, f, i + 1, rfl, by go_num, by omega, J4.out, HD.out⟩
              case measure => simp [intOf]; omega
          · have ST := J2.step hJ hlt 0
            have CP := hD.cpl hJ.iv (by omega) 0
            rw [ST.1] at CP
            have J3 := Lib.hid ST.2
            have hr := hJ.r
            clear ST hJ hD
            go_wp2_with fail
            refine CP.mono ?_
            clear CP
            rintro e w5 ⟨rfl, hD⟩
            have HD := Lib.hid hD
            clear hD
            by_cases hf : f = 0
            · have J4 : Hid (J2 (cplS s 0).1 n (i + 1) 0) := by have := J3.out; rw [if_pos hf] at this; exact this
              subst hf
              clear J3 hr
              go_wp2
              go_roundw
              case rel => exact ⟨_, 0, i + 1, rfl, by go_num, by omega, J4.out, HD.out⟩
              case measure => simp [intOf]; omega
            · have J4 : Hid (J2 (cplS s 0).1 n (i + 1) f) := by have := J3.out; rw [if_neg hf] at this; exact this
              have hf2 : (f == 0) = false := by simpa using hf
              clear J3 hr
              go_wp2
              go_roundw
              case rel => exact ⟨_, f, i + 1, rfl, by go_num, by omega, J4.out, HD.out⟩
              case measure => simp [intOf]; omega
        · obtain rfl : i = 4 * n := by omega
          have hq : ¬ (((4 * n : Nat) : Int) < 4 * (n : Int)) := by omega
          have FN := hJ.fin
          have RS := hD.res
          have e3 : resT s = .tuple #[.int .i64 f, .bool true] := by
            unfold resT
            rw [if_pos FN.1, hJ.r]
          rw [e3] at RS
          have CP := hD.cpl hJ.iv (by omega) 0
          rw [FN.2 0] at CP
          clear e3 FN hJ hD
          go_wp2_with fail
          refine RS.mono ?_
          clear RS
          rintro e w3 ⟨rfl, hw⟩
          subst hw
          go_wp2_with fail
          refine CP.mono ?_
          clear CP
          rintro e w6 ⟨rfl, hD6⟩
          have AW := awake_any w6
          have HB6 := Lib.hid hD6.bel
          clear hD6
          go_wp2_with fail
          refine AW.mono ?_
          clear AW
          rintro e w7 ⟨rfl, hb7⟩
          have F : Hid (LawP w (.returned (.bool true)) w7) := ⟨rfl, bel2 HB6.out hb7⟩
          clear hb7
          go_wp2
          go_ret
          exact F.out
end Go.Proofs.Ytcmklipifhpgmaa
