/- SuspendMirrors: the walk. -/
import Derived.Test.YtcmklipifhpgmaaMir
import Derived.Test.YtcmklipifhpgmaaOpn
import Derived.Laws.StructEq
namespace Go.Proofs.Ytcmklipifhpgmaa
open Go.ChangeShapes Go.WideShapes Go.ChangeAt Go.RowKit Go.Deep Go.Joins

set_option maxRecDepth 20000 in
set_option maxHeartbeats 8000000 in
theorem mi_walk (RA : Option Addr) (m rc : Nat) (R : Nat → Int) (w : World) (h : Fl w RA 1 m (eV R)) : Calls Try.prog 6 #[.slice RA m rc] w (LawP w) := by
  by_cases hm : 20 < m
  · have AW := awake_any w
    have hm2 : (20 : Int) < (m : Int) := by omega
    clear h
    go_enter Try.func6, Try.ntmps6
    go_wp2_with fail
    refine AW.mono ?_
    clear AW
    rintro e w1 ⟨rfl, hb⟩
    have F : Hid (LawP w (.returned (.bool true)) w1) := ⟨rfl, hb⟩
    clear hb
    go_wp2
    go_ret
    exact F.out
  · have OR := ord_any RA m rc R w h (by omega)
    have hm2 : ¬ ((20 : Int) < (m : Int)) := by omega
    have hn7 : n7 m ≤ 7 := by unfold n7; split <;> omega
    obtain ⟨n, hn⟩ : ∃ n, n = n7 m := ⟨_, rfl⟩
    rw [← hn] at OR hn7
    have hgood := oF_good R n (by omega)
    obtain ⟨E, hE⟩ : ∃ E, E = oF R n := ⟨_, rfl⟩
    unfold OrP at OR
    rw [← hE] at OR hgood
    clear h hE hn
    go_enter Try.func6, Try.ntmps6
    go_wp2_with fail
    refine OR.mono ?_
    clear OR
    rintro e w1 ⟨v, rfl, hown, hb1⟩
    rw [show vsL (eV E) n = vsL (eV E) (n * 1) by rw [Nat.mul_one]] at hown
    obtain ⟨A, c, rfl, hF, -, -, -, hnn, -⟩ := fl_of_own hown (by omega)
    have TR := tr_any A n c E none 0 0 (fun _ => 0) w1 hF hnn hgood ⟨by decide, .inl rfl⟩
    have HB1 := Lib.hid hb1
    have HF := Lib.hid hF
    clear hown hb1 hF hnn hgood
    go_wp2_with fail
    refine TR.mono ?_
    clear TR
    rintro e w2 ⟨L, M, OA, oc, v2, rfl, hown2, hb2⟩
    rw [tr_mir E 0 (fun _ => 0) (fun i => by simp)] at hown2
    obtain ⟨A2, c2, rfl, hF2, -⟩ := fl_of_own hown2 (by rw [mir_len]; omega)
    have FL := Lib.hid hF2
    have FO := Lib.hid (HF.out.below hb2 (Nat.le_refl _))
    have HB2 := Lib.hid (bel2 HB1.out hb2)
    have AW := awake_any w2
    rw [mir_len]
    have h8 : ((8 * n : Nat) : Int) = 8 * (n : Int) := by omega
    clear hown2 hb2 hF2 HB1 HF
    obtain ⟨W, hW⟩ : ∃ W, W = w2 := ⟨_, rfl⟩
    rw [← hW] at FL FO HB2 AW
    rw [← hW]
    clear hW
    go_wp2_with fail
    go_loopw [6] (fun v6 wr => ∃ p : Nat, v6 = .int .i64 p ∧ 1 ≤ p ∧ p ≤ 9 ∧ wr = W) (fun v6 _ => 9 - (intOf v6).toNat)
    case atStart => exact ⟨1, rfl, by decide, by decide, rfl⟩
    case round =>
      obtain ⟨p, rfl, hp1, hp9, hw⟩ := hrel
      subst hw
      by_cases hp : p = 9
      · subst hp
        go_wp2_with fail
        refine AW.mono ?_
        clear AW
        rintro e w3 ⟨rfl, hb3⟩
        have F : Hid (LawP w (.returned (.bool true)) w3) := ⟨rfl, bel2 HB2.out hb3⟩
        clear hb3
        go_wp2
        go_ret
        exact F.out
      · have hps : p = 1 ∨ p = 2 ∨ p = 3 ∨ p = 4 ∨ p = 5 ∨ p = 6 ∨ p = 7 ∨ p = 8 := by omega
        clear hp1 hp9 hp
        rcases hps with hpp | hpp | hpp | hpp | hpp | hpp | hpp | hpp
        · subst hpp
          go_wp2_with fail
          go_loopw [7] (fun v7 wq => ∃ i : Nat, v7 = .int .i64 i ∧ i ≤ n ∧ wq = wr) (fun v7 _ => n - (intOf v7).toNat)
          case atStart => exact ⟨0, rfl, Nat.zero_le _, rfl⟩
          case round =>
            obtain ⟨i, rfl, hi, hw⟩ := hrel
            subst hw
            by_cases hlt : i < n
            · obtain ⟨ob, oo, rfl, hol, oc0⟩ := FO.out.eat hlt
              obtain ⟨ob', oo', e9, hol', oc1⟩ := FO.out.eat (i := i) (by omega)
              injection e9 with e9
              injection e9 with e91 e92 _
              subst e91 e92
              have hg : (mir n E).getD (i) (0, 0) = ((1 : Int), E (i)) := by
                have := mir_get E (p := 1) (by decide) (by decide) hlt
                rw [show (1 - 1) * n + i = i by omega] at this
                exact this
              obtain ⟨lb, lo, e8, hll, lc⟩ := FL.out.at (Below.refl _ _) (Nat.le_refl _) (by rw [mir_len]; omega)
              subst e8
              have l0 := lc ((i) * 2) (by rw [mir_len]; omega)
              have l1 := lc ((i) * 2 + 1) (by rw [mir_len]; omega)
              rw [oV0, hg] at l0
              rw [oV1, hg] at l1
              have l0 : wr.cell? ⟨lb, lo + (i) * 2, none⟩ = some (.int .i64 1) := l0
              have l1 : wr.cell? ⟨lb, lo + (i) * 2 + 1, none⟩ = some (.int .i64 (E (i))) := by rw [Nat.add_assoc]; exact l1
              have hz0 : (0 : Int) ≤ (i : Int) := by omega
              have hz1 : ((i : Int)).toNat = i := by omega
              have hz2 : (i : Int) < ((8 * n : Nat) : Int) := by omega
              have hz3 : (0 : Int) ≤ (n : Int) - 1 - (i : Int) := by omega
              have hz4 : ((n : Int) - 1 - (i : Int)).toNat = n - 1 - i := by omega
              have hz5 : (n : Int) - 1 - (i : Int) < (n : Int) := by omega
              clear lc hg
              generalize E (i) = y at *
              go_wp2
              go_roundw
              case rel => exact ⟨i + 1, by go_num, by omega, trivial⟩
              case measure => simp [intOf]; omega
            · obtain rfl : i = n := by omega
              go_wp2
              go_roundw
              case rel => exact ⟨2, by go_num, by decide, by decide, trivial⟩
              case measure => simp [intOf]
        · subst hpp
          go_wp2_with fail
          go_loopw [7] (fun v7 wq => ∃ i : Nat, v7 = .int .i64 i ∧ i ≤ n ∧ wq = wr) (fun v7 _ => n - (intOf v7).toNat)
          case atStart => exact ⟨0, rfl, Nat.zero_le _, rfl⟩
          case round =>
            obtain ⟨i, rfl, hi, hw⟩ := hrel
            subst hw
            by_cases hlt : i < n
            · obtain ⟨ob, oo, rfl, hol, oc0⟩ := FO.out.eat hlt
              obtain ⟨ob', oo', e9, hol', oc1⟩ := FO.out.eat (i := n - 1 - i) (by omega)
              injection e9 with e9
              injection e9 with e91 e92 _
              subst e91 e92
              have hg : (mir n E).getD (n + i) (0, 0) = ((2 : Int), E (n - 1 - i)) := by
                have := mir_get E (p := 2) (by decide) (by decide) hlt
                rw [show (2 - 1) * n + i = n + i by omega] at this
                exact this
              obtain ⟨lb, lo, e8, hll, lc⟩ := FL.out.at (Below.refl _ _) (Nat.le_refl _) (by rw [mir_len]; omega)
              subst e8
              have l0 := lc ((n + i) * 2) (by rw [mir_len]; omega)
              have l1 := lc ((n + i) * 2 + 1) (by rw [mir_len]; omega)
              rw [oV0, hg] at l0
              rw [oV1, hg] at l1
              have l0 : wr.cell? ⟨lb, lo + (n + i) * 2, none⟩ = some (.int .i64 2) := l0
              have l1 : wr.cell? ⟨lb, lo + (n + i) * 2 + 1, none⟩ = some (.int .i64 (E (n - 1 - i))) := by rw [Nat.add_assoc]; exact l1
              have hz0 : (0 : Int) ≤ (n : Int) + (i : Int) := by omega
              have hz1 : ((n : Int) + (i : Int)).toNat = n + i := by omega
              have hz2 : (n : Int) + (i : Int) < ((8 * n : Nat) : Int) := by omega
              have hz3 : (0 : Int) ≤ (n : Int) - 1 - (i : Int) := by omega
              have hz4 : ((n : Int) - 1 - (i : Int)).toNat = n - 1 - i := by omega
              have hz5 : (n : Int) - 1 - (i : Int) < (n : Int) := by omega
              clear lc hg
              generalize E (n - 1 - i) = y at *
              go_wp2
              go_roundw
              case rel => exact ⟨i + 1, by go_num, by omega, trivial⟩
              case measure => simp [intOf]; omega
            · obtain rfl : i = n := by omega
              go_wp2
              go_roundw
              case rel => exact ⟨3, by go_num, by decide, by decide, trivial⟩
              case measure => simp [intOf]
        · subst hpp
          go_wp2_with fail
          go_loopw [7] (fun v7 wq => ∃ i : Nat, v7 = .int .i64 i ∧ i ≤ n ∧ wq = wr) (fun v7 _ => n - (intOf v7).toNat)
          case atStart => exact ⟨0, rfl, Nat.zero_le _, rfl⟩
          case round =>
            obtain ⟨i, rfl, hi, hw⟩ := hrel
            subst hw
            by_cases hlt : i < n
            · obtain ⟨ob, oo, rfl, hol, oc0⟩ := FO.out.eat hlt
              obtain ⟨ob', oo', e9, hol', oc1⟩ := FO.out.eat (i := n - 1 - i) (by omega)
              injection e9 with e9
              injection e9 with e91 e92 _
              subst e91 e92
              have hg : (mir n E).getD (2 * n + i) (0, 0) = ((3 : Int), E (n - 1 - i)) := by
                have := mir_get E (p := 3) (by decide) (by decide) hlt
                rw [show (3 - 1) * n + i = 2 * n + i by omega] at this
                exact this
              obtain ⟨lb, lo, e8, hll, lc⟩ := FL.out.at (Below.refl _ _) (Nat.le_refl _) (by rw [mir_len]; omega)
              subst e8
              have l0 := lc ((2 * n + i) * 2) (by rw [mir_len]; omega)
              have l1 := lc ((2 * n + i) * 2 + 1) (by rw [mir_len]; omega)
              rw [oV0, hg] at l0
              rw [oV1, hg] at l1
              have l0 : wr.cell? ⟨lb, lo + (2 * n + i) * 2, none⟩ = some (.int .i64 3) := l0
              have l1 : wr.cell? ⟨lb, lo + (2 * n + i) * 2 + 1, none⟩ = some (.int .i64 (E (n - 1 - i))) := by rw [Nat.add_assoc]; exact l1
              have hz0 : (0 : Int) ≤ 2 * (n : Int) + (i : Int) := by omega
              have hz1 : (2 * (n : Int) + (i : Int)).toNat = 2 * n + i := by omega
              have hz2 : 2 * (n : Int) + (i : Int) < ((8 * n : Nat) : Int) := by omega
              have hz3 : (0 : Int) ≤ (n : Int) - 1 - (i : Int) := by omega
              have hz4 : ((n : Int) - 1 - (i : Int)).toNat = n - 1 - i := by omega
              have hz5 : (n : Int) - 1 - (i : Int) < (n : Int) := by omega
              clear lc hg
              generalize E (n - 1 - i) = y at *
              go_wp2
              go_roundw
              case rel => exact ⟨i + 1, by go_num, by omega, trivial⟩
              case measure => simp [intOf]; omega
            · obtain rfl : i = n := by omega
              go_wp2
              go_roundw
              case rel => exact ⟨4, by go_num, by decide, by decide, trivial⟩
              case measure => simp [intOf]
        · subst hpp
          go_wp2_with fail
          go_loopw [7] (fun v7 wq => ∃ i : Nat, v7 = .int .i64 i ∧ i ≤ n ∧ wq = wr) (fun v7 _ => n - (intOf v7).toNat)
          case atStart => exact ⟨0, rfl, Nat.zero_le _, rfl⟩
          case round =>
            obtain ⟨i, rfl, hi, hw⟩ := hrel
            subst hw
            by_cases hlt : i < n
            · obtain ⟨ob, oo, rfl, hol, oc0⟩ := FO.out.eat hlt
              obtain ⟨ob', oo', e9, hol', oc1⟩ := FO.out.eat (i := n - 1 - i) (by omega)
              injection e9 with e9
              injection e9 with e91 e92 _
              subst e91 e92
              have hg : (mir n E).getD (3 * n + i) (0, 0) = ((4 : Int), E (n - 1 - i)) := by
                have := mir_get E (p := 4) (by decide) (by decide) hlt
                rw [show (4 - 1) * n + i = 3 * n + i by omega] at this
                exact this
              obtain ⟨lb, lo, e8, hll, lc⟩ := FL.out.at (Below.refl _ _) (Nat.le_refl _) (by rw [mir_len]; omega)
              subst e8
              have l0 := lc ((3 * n + i) * 2) (by rw [mir_len]; omega)
              have l1 := lc ((3 * n + i) * 2 + 1) (by rw [mir_len]; omega)
              rw [oV0, hg] at l0
              rw [oV1, hg] at l1
              have l0 : wr.cell? ⟨lb, lo + (3 * n + i) * 2, none⟩ = some (.int .i64 4) := l0
              have l1 : wr.cell? ⟨lb, lo + (3 * n + i) * 2 + 1, none⟩ = some (.int .i64 (E (n - 1 - i))) := by rw [Nat.add_assoc]; exact l1
              have hz0 : (0 : Int) ≤ 3 * (n : Int) + (i : Int) := by omega
              have hz1 : (3 * (n : Int) + (i : Int)).toNat = 3 * n + i := by omega
              have hz2 : 3 * (n : Int) + (i : Int) < ((8 * n : Nat) : Int) := by omega
              have hz3 : (0 : Int) ≤ (n : Int) - 1 - (i : Int) := by omega
              have hz4 : ((n : Int) - 1 - (i : Int)).toNat = n - 1 - i := by omega
              have hz5 : (n : Int) - 1 - (i : Int) < (n : Int) := by omega
              clear lc hg
              generalize E (n - 1 - i) = y at *
              go_wp2
              go_roundw
              case rel => exact ⟨i + 1, by go_num, by omega, trivial⟩
              case measure => simp [intOf]; omega
            · obtain rfl : i = n := by omega
              go_wp2
              go_roundw
              case rel => exact ⟨5, by go_num, by decide, by decide, trivial⟩
              case measure => simp [intOf]
        · subst hpp
          go_wp2_with fail
          go_loopw [7] (fun v7 wq => ∃ i : Nat, v7 = .int .i64 i ∧ i ≤ n ∧ wq = wr) (fun v7 _ => n - (intOf v7).toNat)
          case atStart => exact ⟨0, rfl, Nat.zero_le _, rfl⟩
          case round =>
            obtain ⟨i, rfl, hi, hw⟩ := hrel
            subst hw
            by_cases hlt : i < n
            · obtain ⟨ob, oo, rfl, hol, oc0⟩ := FO.out.eat hlt
              obtain ⟨ob', oo', e9, hol', oc1⟩ := FO.out.eat (i := i) (by omega)
              injection e9 with e9
              injection e9 with e91 e92 _
              subst e91 e92
              have hg : (mir n E).getD (4 * n + i) (0, 0) = ((5 : Int), E (i)) := by
                have := mir_get E (p := 5) (by decide) (by decide) hlt
                rw [show (5 - 1) * n + i = 4 * n + i by omega] at this
                exact this
              obtain ⟨lb, lo, e8, hll, lc⟩ := FL.out.at (Below.refl _ _) (Nat.le_refl _) (by rw [mir_len]; omega)
              subst e8
              have l0 := lc ((4 * n + i) * 2) (by rw [mir_len]; omega)
              have l1 := lc ((4 * n + i) * 2 + 1) (by rw [mir_len]; omega)
              rw [oV0, hg] at l0
              rw [oV1, hg] at l1
              have l0 : wr.cell? ⟨lb, lo + (4 * n + i) * 2, none⟩ = some (.int .i64 5) := l0
              have l1 : wr.cell? ⟨lb, lo + (4 * n + i) * 2 + 1, none⟩ = some (.int .i64 (E (i))) := by rw [Nat.add_assoc]; exact l1
              have hz0 : (0 : Int) ≤ 4 * (n : Int) + (i : Int) := by omega
              have hz1 : (4 * (n : Int) + (i : Int)).toNat = 4 * n + i := by omega
              have hz2 : 4 * (n : Int) + (i : Int) < ((8 * n : Nat) : Int) := by omega
              have hz3 : (0 : Int) ≤ (n : Int) - 1 - (i : Int) := by omega
              have hz4 : ((n : Int) - 1 - (i : Int)).toNat = n - 1 - i := by omega
              have hz5 : (n : Int) - 1 - (i : Int) < (n : Int) := by omega
              clear lc hg
              generalize E (i) = y at *
              go_wp2
              go_roundw
              case rel => exact ⟨i + 1, by go_num, by omega, trivial⟩
              case measure => simp [intOf]; omega
            · obtain rfl : i = n := by omega
              go_wp2
              go_roundw
              case rel => exact ⟨6, by go_num, by decide, by decide, trivial⟩
              case measure => simp [intOf]
        · subst hpp
          go_wp2_with fail
          go_loopw [7] (fun v7 wq => ∃ i : Nat, v7 = .int .i64 i ∧ i ≤ n ∧ wq = wr) (fun v7 _ => n - (intOf v7).toNat)
          case atStart => exact ⟨0, rfl, Nat.zero_le _, rfl⟩
          case round =>
            obtain ⟨i, rfl, hi, hw⟩ := hrel
            subst hw
            by_cases hlt : i < n
            · obtain ⟨ob, oo, rfl, hol, oc0⟩ := FO.out.eat hlt
              obtain ⟨ob', oo', e9, hol', oc1⟩ := FO.out.eat (i := i) (by omega)
              injection e9 with e9
              injection e9 with e91 e92 _
              subst e91 e92
              have hg : (mir n E).getD (5 * n + i) (0, 0) = ((6 : Int), E (i)) := by
                have := mir_get E (p := 6) (by decide) (by decide) hlt
                rw [show (6 - 1) * n + i = 5 * n + i by omega] at this
                exact this
              obtain ⟨lb, lo, e8, hll, lc⟩ := FL.out.at (Below.refl _ _) (Nat.le_refl _) (by rw [mir_len]; omega)
              subst e8
              have l0 := lc ((5 * n + i) * 2) (by rw [mir_len]; omega)
              have l1 := lc ((5 * n + i) * 2 + 1) (by rw [mir_len]; omega)
              rw [oV0, hg] at l0
              rw [oV1, hg] at l1
              have l0 : wr.cell? ⟨lb, lo + (5 * n + i) * 2, none⟩ = some (.int .i64 6) := l0
              have l1 : wr.cell? ⟨lb, lo + (5 * n + i) * 2 + 1, none⟩ = some (.int .i64 (E (i))) := by rw [Nat.add_assoc]; exact l1
              have hz0 : (0 : Int) ≤ 5 * (n : Int) + (i : Int) := by omega
              have hz1 : (5 * (n : Int) + (i : Int)).toNat = 5 * n + i := by omega
              have hz2 : 5 * (n : Int) + (i : Int) < ((8 * n : Nat) : Int) := by omega
              have hz3 : (0 : Int) ≤ (n : Int) - 1 - (i : Int) := by omega
              have hz4 : ((n : Int) - 1 - (i : Int)).toNat = n - 1 - i := by omega
              have hz5 : (n : Int) - 1 - (i : Int) < (n : Int) := by omega
              clear lc hg
              generalize E (i) = y at *
              go_wp2
              go_roundw
              case rel => exact ⟨i + 1, by go_num, by omega, trivial⟩
              case measure => simp [intOf]; omega
            · obtain rfl : i = n := by omega
              go_wp2
              go_roundw
              case rel => exact ⟨7, by go_num, by decide, by decide, trivial⟩
              case measure => simp [intOf]
        · subst hpp
          go_wp2_with fail
          go_loopw [7] (fun v7 wq => ∃ i : Nat, v7 = .int .i64 i ∧ i ≤ n ∧ wq = wr) (fun v7 _ => n - (intOf v7).toNat)
          case atStart => exact ⟨0, rfl, Nat.zero_le _, rfl⟩
          case round =>
            obtain ⟨i, rfl, hi, hw⟩ := hrel
            subst hw
            by_cases hlt : i < n
            · obtain ⟨ob, oo, rfl, hol, oc0⟩ := FO.out.eat hlt
              obtain ⟨ob', oo', e9, hol', oc1⟩ := FO.out.eat (i := i) (by omega)
              injection e9 with e9
              injection e9 with e91 e92 _
              subst e91 e92
              have hg : (mir n E).getD (6 * n + i) (0, 0) = ((7 : Int), E (i)) := by
                have := mir_get E (p := 7) (by decide) (by decide) hlt
                rw [show (7 - 1) * n + i = 6 * n + i by omega] at this
                exact this
              obtain ⟨lb, lo, e8, hll, lc⟩ := FL.out.at (Below.refl _ _) (Nat.le_refl _) (by rw [mir_len]; omega)
              subst e8
              have l0 := lc ((6 * n + i) * 2) (by rw [mir_len]; omega)
              have l1 := lc ((6 * n + i) * 2 + 1) (by rw [mir_len]; omega)
              rw [oV0, hg] at l0
              rw [oV1, hg] at l1
              have l0 : wr.cell? ⟨lb, lo + (6 * n + i) * 2, none⟩ = some (.int .i64 7) := l0
              have l1 : wr.cell? ⟨lb, lo + (6 * n + i) * 2 + 1, none⟩ = some (.int .i64 (E (i))) := by rw [Nat.add_assoc]; exact l1
              have hz0 : (0 : Int) ≤ 6 * (n : Int) + (i : Int) := by omega
              have hz1 : (6 * (n : Int) + (i : Int)).toNat = 6 * n + i := by omega
              have hz2 : 6 * (n : Int) + (i : Int) < ((8 * n : Nat) : Int) := by omega
              have hz3 : (0 : Int) ≤ (n : Int) - 1 - (i : Int) := by omega
              have hz4 : ((n : Int) - 1 - (i : Int)).toNat = n - 1 - i := by omega
              have hz5 : (n : Int) - 1 - (i : Int) < (n : Int) := by omega
              clear lc hg
              generalize E (i) = y at *
              go_wp2
              go_roundw
              case rel => exact ⟨i + 1, by go_num, by omega, trivial⟩
              case measure => simp [intOf]; omega
            · obtain rfl : i = n := by omega
              go_wp2
              go_roundw
              case rel => exact ⟨8, by go_num, by decide, by decide, trivial⟩
              case measure => simp [intOf]
        · subst hpp
          go_wp2_with fail
          go_loopw [7] (fun v7 wq => ∃ i : Nat, v7 = .int .i64 i ∧ i ≤ n ∧ wq = wr) (fun v7 _ => n - (intOf v7).toNat)
          case atStart => exact ⟨0, rfl, Nat.zero_le _, rfl⟩
          case round =>
            obtain ⟨i, rfl, hi, hw⟩ := hrel
            subst hw
            by_cases hlt : i < n
            · obtain ⟨ob, oo, rfl, hol, oc0⟩ := FO.out.eat hlt
              obtain ⟨ob', oo', e9, hol', oc1⟩ := FO.out.eat (i := n - 1 - i) (by omega)
              injection e9 with e9
              injection e9 with e91 e92 _
              subst e91 e92
              have hg : (mir n E).getD (7 * n + i) (0, 0) = ((8 : Int), E (n - 1 - i)) := by
                have := mir_get E (p := 8) (by decide) (by decide) hlt
                rw [show (8 - 1) * n + i = 7 * n + i by omega] at this
                exact this
              obtain ⟨lb, lo, e8, hll, lc⟩ := FL.out.at (Below.refl _ _) (Nat.le_refl _) (by rw [mir_len]; omega)
              subst e8
              have l0 := lc ((7 * n + i) * 2) (by rw [mir_len]; omega)
              have l1 := lc ((7 * n + i) * 2 + 1) (by rw [mir_len]; omega)
              rw [oV0, hg] at l0
              rw [oV1, hg] at l1
              have l0 : wr.cell? ⟨lb, lo + (7 * n + i) * 2, none⟩ = some (.int .i64 8) := l0
              have l1 : wr.cell? ⟨lb, lo + (7 * n + i) * 2 + 1, none⟩ = some (.int .i64 (E (n - 1 - i))) := by rw [Nat.add_assoc]; exact l1
              have hz0 : (0 : Int) ≤ 7 * (n : Int) + (i : Int) := by omega
              have hz1 : (7 * (n : Int) + (i : Int)).toNat = 7 * n + i := by omega
              have hz2 : 7 * (n : Int) + (i : Int) < ((8 * n : Nat) : Int) := by omega
              have hz3 : (0 : Int) ≤ (n : Int) - 1 - (i : Int) := by omega
              have hz4 : ((n : Int) - 1 - (i : Int)).toNat = n - 1 - i := by omega
              have hz5 : (n : Int) - 1 - (i : Int) < (n : Int) := by omega
              clear lc hg
              generalize E (n - 1 - i) = y at *
              go_wp2
              go_roundw
              case rel => exact ⟨i + 1, by go_num, by omega, trivial⟩
              case measure => simp [intOf]; omega
            · obtain rfl : i = n := by omega
              go_wp2
              go_roundw
              case rel => exact ⟨9, by go_num, by decide, by decide, trivial⟩
              case measure => simp [intOf]
end Go.Proofs.Ytcmklipifhpgmaa
