/- PagezipRoundTrip. -/
import Derived.Test.YtpfaicdoaldioaaAwk
namespace Go.Proofs.Ytpfaicdoaldioaa
open Go.ChangeShapes Go.WideShapes Go.ChangeAt Go.RowKit Go.Deep Go.Joins

theorem u8_of_wf {n : Int} (h : (Lit.int .u8 n).wf = true) : 0 ≤ n ∧ n < 256 := by
  have := bounds_u8 h
  omega
set_option maxRecDepth 20000 in
set_option maxHeartbeats 2000000 in
theorem rt_any (A : Option Addr) (n c : Nat) (Z : Nat → Int) (s : Int) (w : World) (h : Ns .u32 w A n Z ∧ n ≤ c ∧ c ≤ 9223372036854775807) (hw : (Lit.int .u8 s).wf = true) : Calls Try.prog 4 #[.slice A n c, .int .u8 s] w (LawPost w) := by
  have hs := u8_of_wf hw
  obtain ⟨hN, hc1, hc2⟩ := h
  by_cases hb : 64 < n
  · clear hN hw
    go_enter Try.func4, Try.ntmps4
    go_wp2_with fail
    refine (awake_any _).mono ?_
    rintro e w1 ⟨rfl, hb⟩
    have HB := Lib.hid hb
    clear hb
    go_wp2
    go_ret
    exact ⟨rfl, HB.out⟩
  · have P := page_any A n c Z s w hN (by omega) hs
    clear hN hw
    go_enter Try.func4, Try.ntmps4
    go_wp2_with fail
    refine P.mono ?_
    rintro e w1 ⟨p, hp, rfl, hb1⟩
    have B1 := Lib.hid hb1
    have C := fun w => cmp_any p w
    have D := fun w => dec_any (cmp p) w (by have := cmp_size p hp; omega)
    rw [cmpR_ok p hp] at C
    rw [decR_cmp p hp] at D
    obtain ⟨z1, z2⟩ := cmp_size p hp
    clear hb1 P hb
    generalize cmp p = a at *
    go_wp2_with fail
    refine (C _).mono ?_
    rintro e w2 ⟨rfl, hb2⟩
    have B2 := Lib.hid (bel2 B1.out hb2)
    clear hb2 C B1
    unfold pairV
    go_wp2_with fail
    refine (D _).mono ?_
    rintro e w3 ⟨rfl, hb3⟩
    have B3 := Lib.hid (bel2 B2.out hb3)
    clear hb3 D B2
    unfold pairV
    have t1 := str_t (rfl : p = p)
    have y1 : (17 : Int) ≤ (a.size : Int) := by omega
    have y2 : (a.size : Int) ≤ 257 := by omega
    clear z1 z2
    go_wp2_with fail
    refine (awake_any _).mono ?_
    rintro e w4 ⟨rfl, hb4⟩
    have HB := Lib.hid (bel2 B3.out hb4)
    clear hb4 B3
    go_wp2
    go_ret
    exact ⟨rfl, HB.out⟩
end Go.Proofs.Ytpfaicdoaldioaa
