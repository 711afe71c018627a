/- BytecodeIntegers and BytecodeDecodesIntegers: the walks. -/
import Derived.Test.YtkolghjjifcjkaaAwk
namespace Go.Proofs.Ytkolghjjifcjkaa
open Go.RowKit

theorem shr_bd (d : Int) (k : Nat) (h0 : 0 ≤ d) (h1 : d < 18446744073709551616) : 0 ≤ d / 2 ^ k ∧ d / 2 ^ k < 18446744073709551616 := by
  have hp : (0 : Int) < 2 ^ k := Int.pow_pos (by omega)
  refine ⟨Int.ediv_nonneg h0 (by omega), ?_⟩
  have := Int.ediv_le_self (2 ^ k) h0
  omega
theorem enc_size (v : Int) : (enc v).size = (encL v).length := by unfold enc; rw [son_size]
set_option maxHeartbeats 4000000 in
theorem iag_any (b : ByteArray) (d sh : Int) (z : ByteArray) (w : World) (hb : b.size ≤ 140737488351232) (hd : (Lit.int .u64 d).wf = true) (hs : (Lit.int .u8 sh).wf = true) (hz : z.size ≤ 140737488351232) : Calls Try.prog 3 #[.string b, .int .u64 d, .int .u8 sh, .string z] w (LawPost w) := by
  obtain ⟨hd0, hd1⟩ := u64_of_wf hd
  have hs' := bounds_u8 hs
  have hx := Lib.hid (shr_bd d (sh % 64).toNat hd0 hd1)
  clear hs hd
  go_enter Try.func3, Try.ntmps3
  go_wp2_with fail
  generalize d / 2 ^ (sh % 64).toNat = x at *
  obtain ⟨hx0, hx1⟩ := hx.out
  have hl := encL_len x
  have P1 := app_any b x w (by omega) hx0 hx1
  refine P1.mono ?_
  clear P1
  rintro e w1 ⟨rfl, h⟩
  have B1 := Lib.hid h
  clear h
  have hs1 := enc_size x
  have hs2 : (enc x).size ≤ 9 := by omega
  have P := fun w => refI_any x w hx0 hx1
  have Q := fun w => int_any (enc x ++ z) w (by rw [ByteArray.size_append]; omega)
  rw [decI_enc x z hx0 hx1] at Q
  go_wp2_with fail
  refine (P _).mono ?_
  rintro e w2 ⟨rfl, h⟩
  have B2 := Lib.hid (bel2 B1.out h)
  clear h B1
  go_wp2_with fail
  refine (Q _).mono ?_
  rintro e w3 ⟨rfl, h⟩
  have B3 := Lib.hid (bel2 B2.out h)
  clear h B2 Q
  unfold tri
  go_wp2_with fail
  refine (awake_any _).mono ?_
  rintro e w4 ⟨rfl, h⟩
  have B4 := Lib.hid (bel2 B3.out h)
  clear h B3
  have q1 : (x == x) = true := by simp
  have q2 : (((encL x).length : Int) == ((encL x).length : Int)) = true := by simp
  go_wp2_with fail
  refine (P _).mono ?_
  rintro e w5 ⟨rfl, h⟩
  have B5 := Lib.hid (bel2 B4.out h)
  clear h B4
  have q3 := str_t (a := b ++ enc x) rfl
  go_wp2_with fail
  refine (P _).mono ?_
  rintro e w6 ⟨rfl, h⟩
  have B6 := Lib.hid (bel2 B5.out h)
  clear h B5 P
  go_wp2
  go_ret
  exact ⟨rfl, B6.out⟩
end Go.Proofs.Ytkolghjjifcjkaa
