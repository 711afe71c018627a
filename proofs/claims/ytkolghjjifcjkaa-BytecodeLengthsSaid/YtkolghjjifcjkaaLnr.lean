/- The reference's Length. -/
import Derived.Test.YtkolghjjifcjkaaAwk
namespace Go.Proofs.Ytkolghjjifcjkaa
open Go.RowKit

theorem or_nib64 (p r : Int) (hp : p = 64 ∨ p = 128 ∨ p = 192) (h0 : 0 ≤ r) (h1 : r < 16) : bits BinOp.or IntKind.i64 p r = p + r := by
  have hr : r = 0 ∨ r = 1 ∨ r = 2 ∨ r = 3 ∨ r = 4 ∨ r = 5 ∨ r = 6 ∨ r = 7 ∨ r = 8 ∨ r = 9 ∨ r = 10 ∨ r = 11 ∨ r = 12 ∨ r = 13 ∨ r = 14 ∨ r = 15 := by omega
  rcases hp with rfl | rfl | rfl <;> rcases hr with rfl | rfl | rfl | rfl | rfl | rfl | rfl | rfl | rfl | rfl | rfl | rfl | rfl | rfl | rfl | rfl <;> decide
theorem le1 (x : Int) (h : 0 ≤ x ∧ x < 256) : leI x 1 = [x] := by simp [leI]; omega
set_option maxHeartbeats 8000000 in
theorem rlen_any (n : Int) (w : World) (hn : -9223372036854775808 ≤ n ∧ n ≤ 9223372036854775807) : Calls Try.prog 12 #[.int .i64 n] w (StB w (strOfNums (lenL n))) := by
  have EM : Hid (∀ w', Below w.heap.size w w' → lenL n = [] → StB w (strOfNums (lenL n)) (.returned (.string { data := #[] })) w') := fun w' hb h => by
    rw [h]
    exact StB.mk' rfl hb
  by_cases c1 : n < 0 ∨ 268435456 ≤ n
  · have hl := Lib.hid (EM.out w (Below.refl _ _) (by unfold lenL; rw [if_pos c1]))
    clear EM
    go_enter Try.func12, Try.ntmps12
    go_wp2_with fail
    go_loopg [3] 1 (fun g vk wr => vk = .int .i64 1 ∧ w = wr)
    case atStart => exact ⟨rfl, rfl⟩
    case round =>
      obtain ⟨rfl, rfl⟩ := hrel
      by_cases c2 : n < 0
      · have d1 : decide (0 ≤ n) = false := decide_eq_false (by omega)
        clear c1
        go_wp2
        go_ret
        exact hl.out
      · have d1 : decide (0 ≤ n) = true := decide_eq_true (by omega)
        have d2 : decide (n < 268435456) = false := decide_eq_false (by omega)
        clear c1 c2
        go_wp2
        go_ret
        exact hl.out
  have n0 : 0 ≤ n := by omega
  have n1 : n < 268435456 := by omega
  have d1 : decide (0 ≤ n) = true := decide_eq_true (by omega)
  have d2 : decide (n < 268435456) = true := decide_eq_true (by omega)
  have C1 := Lib.hid c1
  clear c1
  go_enter Try.func12, Try.ntmps12
  go_wp2_with fail
  go_loopg [3] 4 (fun g vc wr => ((g = 4 ∧ vc = .int .i64 1) ∨ (g = 3 ∧ vc = .int .i64 2 ∧ 64 ≤ n + 1) ∨ (g = 2 ∧ vc = .int .i64 3 ∧ 4096 ≤ n + 2) ∨ (g = 1 ∧ vc = .int .i64 4 ∧ 4096 ≤ n + 2 ∧ 1048576 ≤ n + 3) ∨ (g = 0 ∧ vc = .int .i64 5 ∧ 4096 ≤ n + 2 ∧ 1048576 ≤ n + 3 ∧ 268435456 ≤ n + 4)) ∧ w = wr)
  case atStart => exact ⟨.inl ⟨rfl, rfl⟩, rfl⟩
  case round =>
    obtain ⟨hor, rfl⟩ := hrel
    rcases hor with ⟨rfl, rfl⟩ | ⟨rfl, rfl, k1⟩ | ⟨rfl, rfl, k1⟩ | ⟨rfl, rfl, k1, k2⟩ | ⟨rfl, rfl, k1, k2, k3⟩
    case inl =>
      clear EM
      by_cases q : n + 1 < 64
      · have hl : Hid (lenL n = [n + 1]) := by show _ = _; unfold lenL; rw [if_neg C1.out, if_pos q]
        have P := little_any (n + 1) 1 w (by omega) (by omega) (by omega)
        rw [le1 (n + 1) (by omega)] at P
        have hw : IntKind.u64.wrap (n + 1) = n + 1 := by rw [IntKind.wrap_u64]; omega
        go_wp2_with fail
        refine P.mono ?_
        clear P
        rintro e w1 ⟨rfl, h⟩
        have B1 := Lib.hid h
        clear h
        go_wp2
        go_ret
        exact StB.mk' (by rw [hl.out]) B1.out
      · go_wp2
        go_roundg 3
        case measure => omega
        case rel => exact ⟨.inr (.inl ⟨rfl, rfl, by omega⟩), rfl⟩
    case inr.inr.inr.inr =>
      have hl := Lib.hid (EM.out w (Below.refl _ _) (by unfold lenL; rw [if_neg C1.out, if_neg (by omega), if_neg (by omega), if_neg (by omega), if_neg (by omega)]))
      clear EM
      go_wp2
      go_ret
      exact hl.out
    case inr.inl =>
      clear EM
      by_cases q : n + 2 < 4096
      · have hl : Hid (lenL n = (64 + (n + 2) % 16) :: leI ((n + 2) / 16) 1) := by show _ = _; unfold lenL; rw [if_neg C1.out, if_neg (by omega), if_pos q]
        have a1 := and15 (n + 2) (by omega) (by omega)
        have r0 : 0 ≤ (n + 2) % 16 := by omega
        have r1 : (n + 2) % 16 < 16 := by omega
        have a2 := or_nib64 64 ((n + 2) % 16) (by omega) r0 r1
        have a3 : IntKind.u64.wrap (64 + (n + 2) % 16) = 64 + (n + 2) % 16 := by rw [IntKind.wrap_u64]; omega
        have a4 : IntKind.u64.wrap ((n + 2) / 16) = (n + 2) / 16 := by rw [IntKind.wrap_u64]; omega
        have P := fun w => little_any (64 + (n + 2) % 16) 1 w (by omega) (by omega) (by omega)
        rw [le1 (64 + (n + 2) % 16) (by omega)] at P
        have Q := fun w => little_any ((n + 2) / 16) 1 w (by omega) (by omega) (by omega)
        have z1 : (strOfNums [64 + (n + 2) % 16]).size = 1 := rfl
        have z2 : (strOfNums (leI ((n + 2) / 16) 1)).size = 1 := by rw [son_size, leI_len]
        go_wp2_with fail
        refine (P _).mono ?_
        clear P
        rintro e w1 ⟨rfl, h⟩
        have B1 := Lib.hid h
        clear h
        go_wp2_with fail
        refine (Q _).mono ?_
        clear Q
        rintro e w2 ⟨rfl, h⟩
        have B2 := Lib.hid (bel2 B1.out h)
        clear h B1
        go_wp2
        go_ret
        exact StB.mk' (by rw [hl.out, son_cons]) B2.out
      · go_wp2
        go_roundg 2
        case measure => omega
        case rel => exact ⟨.inr (.inr (.inl ⟨rfl, rfl, by omega⟩)), rfl⟩
    case inr.inr.inl =>
      clear EM
      by_cases q : n + 3 < 1048576
      · have hl : Hid (lenL n = (128 + (n + 3) % 16) :: leI ((n + 3) / 16) 2) := by show _ = _; unfold lenL; rw [if_neg C1.out, if_neg (by omega), if_neg (by omega), if_pos q]
        have a1 := and15 (n + 3) (by omega) (by omega)
        have r0 : 0 ≤ (n + 3) % 16 := by omega
        have r1 : (n + 3) % 16 < 16 := by omega
        have a2 := or_nib64 128 ((n + 3) % 16) (by omega) r0 r1
        have a3 : IntKind.u64.wrap (128 + (n + 3) % 16) = 128 + (n + 3) % 16 := by rw [IntKind.wrap_u64]; omega
        have a4 : IntKind.u64.wrap ((n + 3) / 16) = (n + 3) / 16 := by rw [IntKind.wrap_u64]; omega
        have P := fun w => little_any (128 + (n + 3) % 16) 1 w (by omega) (by omega) (by omega)
        rw [le1 (128 + (n + 3) % 16) (by omega)] at P
        have Q := fun w => little_any ((n + 3) / 16) 2 w (by omega) (by omega) (by omega)
        have z1 : (strOfNums [128 + (n + 3) % 16]).size = 1 := rfl
        have z2 : (strOfNums (leI ((n + 3) / 16) 2)).size = 2 := by rw [son_size, leI_len]
        go_wp2_with fail
        refine (P _).mono ?_
        clear P
        rintro e w1 ⟨rfl, h⟩
        have B1 := Lib.hid h
        clear h
        go_wp2_with fail
        refine (Q _).mono ?_
        clear Q
        rintro e w2 ⟨rfl, h⟩
        have B2 := Lib.hid (bel2 B1.out h)
        clear h B1
        go_wp2
        go_ret
        exact StB.mk' (by rw [hl.out, son_cons]) B2.out
      · go_wp2
        go_roundg 1
        case measure => omega
        case rel => exact ⟨.inr (.inr (.inr (.inl ⟨rfl, rfl, by omega, by omega⟩))), rfl⟩
    case inr.inr.inr.inl =>
      clear EM
      by_cases q : n + 4 < 268435456
      · have hl : Hid (lenL n = (192 + (n + 4) % 16) :: leI ((n + 4) / 16) 3) := by show _ = _; unfold lenL; rw [if_neg C1.out, if_neg (by omega), if_neg (by omega), if_neg (by omega), if_pos q]
        have a1 := and15 (n + 4) (by omega) (by omega)
        have r0 : 0 ≤ (n + 4) % 16 := by omega
        have r1 : (n + 4) % 16 < 16 := by omega
        have a2 := or_nib64 192 ((n + 4) % 16) (by omega) r0 r1
        have a3 : IntKind.u64.wrap (192 + (n + 4) % 16) = 192 + (n + 4) % 16 := by rw [IntKind.wrap_u64]; omega
        have a4 : IntKind.u64.wrap ((n + 4) / 16) = (n + 4) / 16 := by rw [IntKind.wrap_u64]; omega
        have P := fun w => little_any (192 + (n + 4) % 16) 1 w (by omega) (by omega) (by omega)
        rw [le1 (192 + (n + 4) % 16) (by omega)] at P
        have Q := fun w => little_any ((n + 4) / 16) 3 w (by omega) (by omega) (by omega)
        have z1 : (strOfNums [192 + (n + 4) % 16]).size = 1 := rfl
        have z2 : (strOfNums (leI ((n + 4) / 16) 3)).size = 3 := by rw [son_size, leI_len]
        go_wp2_with fail
        refine (P _).mono ?_
        clear P
        rintro e w1 ⟨rfl, h⟩
        have B1 := Lib.hid h
        clear h
        go_wp2_with fail
        refine (Q _).mono ?_
        clear Q
        rintro e w2 ⟨rfl, h⟩
        have B2 := Lib.hid (bel2 B1.out h)
        clear h B1
        go_wp2
        go_ret
        exact StB.mk' (by rw [hl.out, son_cons]) B2.out
      · go_wp2
        go_roundg 0
        case measure => omega
        case rel => exact ⟨.inr (.inr (.inr (.inr ⟨rfl, rfl, by omega, by omega, by omega⟩))), rfl⟩
end Go.Proofs.Ytkolghjjifcjkaa
