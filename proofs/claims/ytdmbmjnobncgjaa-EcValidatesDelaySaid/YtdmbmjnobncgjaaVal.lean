/- EcValidatesDelay. -/
import Derived.Test.YtdmbmjnobncgjaaAwk
namespace Go.Proofs.Ytdmbmjnobncgjaa
open Go.RowKit

theorem shr_bd (d : Int) (k : Nat) (h0 : 0 ≤ d) (h1 : d < 18446744073709551616) : 0 ≤ d / 2 ^ k ∧ d / 2 ^ k < 18446744073709551616 := by
  have hp : (0 : Int) < 2 ^ k := Int.pow_pos (by omega)
  refine ⟨Int.ediv_nonneg h0 (by omega), ?_⟩
  have := Int.ediv_le_self (2 ^ k) h0
  omega
set_option maxHeartbeats 2000000 in
theorem val_any (d sh : Int) (w : World) (hd : (Lit.int .u64 d).wf = true) (hs : (Lit.int .u8 sh).wf = true) : Calls Try.prog 3 #[.int .u64 d, .int .u8 sh] w (LawPost w) := by
  have hd := u64_of_wf hd
  obtain ⟨hd0, hd1⟩ := hd
  have hs' := bounds_u8 hs
  have hx := Lib.hid (shr_bd d (sh % 64).toNat hd0 hd1)
  clear hs
  go_enter Try.func3, Try.ntmps3
  go_wp2_with fail
  generalize d / 2 ^ (sh % 64).toNat = x at *
  obtain ⟨hx0, hx1⟩ := hx.out
  by_cases hb : x ≤ 4294967296
  · have hbb : decide (x ≤ 4294967296) = true := decide_eq_true hb
    refine (new_good w x hb hx0).mono ?_
    rintro e w1 ⟨rfl, k1, b1⟩
    clear k1
    have B := Lib.hid b1
    clear b1
    go_wp2_with fail
    refine (awake_any w1).mono ?_
    rintro e w2 ⟨rfl, b2⟩
    have B2 := Lib.hid (bel2 B.out b2)
    clear b2
    go_wp2
    go_ret
    exact ⟨rfl, B2.out⟩
  · have hbb : decide (x ≤ 4294967296) = false := decide_eq_false hb
    refine (new_bad w x (by omega)).mono ?_
    rintro e w1 ⟨rfl, rfl⟩
    go_wp2_with fail
    refine (awake_any w1).mono ?_
    rintro e w2 ⟨rfl, b2⟩
    have B2 := Lib.hid b2
    clear b2
    go_wp2
    go_ret
    exact ⟨rfl, B2.out⟩
end Go.Proofs.Ytdmbmjnobncgjaa
