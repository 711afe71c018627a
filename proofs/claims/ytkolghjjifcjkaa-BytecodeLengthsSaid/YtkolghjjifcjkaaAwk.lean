/- awake. -/
import Derived.Test.YtkolghjjifcjkaaAle
namespace Go.Proofs.Ytkolghjjifcjkaa
open Go.RowKit

theorem awk_dec : decI { data := #[11, 44, 1] } = (300, 3, 0) := by decide +kernel
theorem awk_app : ({ data := #[120] } : ByteArray) ++ enc 300 = { data := #[120, 11, 44, 1] } := by kernel_rfl
theorem awk_62 : ({ data := #[] } : ByteArray) ++ strOfNums (lenL 62) = { data := #[63] } := by kernel_rfl
theorem awk_63 : ({ data := #[] } : ByteArray) ++ strOfNums (lenL 63) = { data := #[65, 4] } := by kernel_rfl
theorem awake_any (w : World) : Calls Try.prog 10 #[] w (LawPost w) := by
  have P1 := int_any { data := #[11, 44, 1] } w (by decide)
  rw [awk_dec] at P1
  have P2 := fun w => app_any { data := #[120] } 300 w (by decide) (by omega) (by omega)
  rw [awk_app] at P2
  have P3 := fun w => alen_any { data := #[] } 62 w (by decide) (by omega)
  rw [awk_62] at P3
  have P4 := fun w => alen_any { data := #[] } 63 w (by decide) (by omega)
  rw [awk_63] at P4
  go_enter Try.func10, Try.ntmps10
  go_wp2_with fail
  refine P1.mono ?_
  rintro e w1 ⟨rfl, hb⟩
  have B1 := Lib.hid hb
  clear hb P1
  unfold tri
  go_wp2_with fail
  refine (P2 _).mono ?_
  rintro e w2 ⟨rfl, hb⟩
  have B2 := Lib.hid (bel2 B1.out hb)
  clear hb P2 B1
  go_wp2_with fail
  refine (P3 _).mono ?_
  rintro e w3 ⟨rfl, hb⟩
  have B3 := Lib.hid (bel2 B2.out hb)
  clear hb P3 B2
  go_wp2_with fail
  refine (P4 _).mono ?_
  rintro e w4 ⟨rfl, hb⟩
  have B4 := Lib.hid (bel2 B3.out hb)
  clear hb P4 B3
  go_wp2
  go_ret
  exact ⟨rfl, B4.out⟩
end Go.Proofs.Ytkolghjjifcjkaa
