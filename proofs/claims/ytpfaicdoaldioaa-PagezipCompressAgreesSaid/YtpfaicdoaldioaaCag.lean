/- PagezipCompressAgrees. -/
import Derived.Test.YtpfaicdoaldioaaRcc
import Derived.Test.YtpfaicdoaldioaaRtw
namespace Go.Proofs.Ytpfaicdoaldioaa
open Go.ChangeShapes Go.WideShapes Go.ChangeAt Go.RowKit Go.Deep Go.Joins

set_option maxRecDepth 20000 in
set_option maxHeartbeats 4000000 in
theorem cag_any (t : ByteArray) (A : Option Addr) (n c : Nat) (Z : Nat → Int) (s : Int) (w : World) (ht : t.size ≤ 140737488351232) (h : Ns .u32 w A n Z ∧ n ≤ c ∧ c ≤ 9223372036854775807) (hw : (Lit.int .u8 s).wf = true) : Calls Try.prog 3 #[.string t, .slice A n c, .int .u8 s] w (LawPost w) := by
  have hs := u8_of_wf hw
  obtain ⟨hN, hc1, hc2⟩ := h
  by_cases hb0 : 600 < t.size
  · clear hN hw
    go_enter Try.func3, Try.ntmps3
    go_wp2_with fail
    refine (awake_any _).mono ?_
    rintro e w1 ⟨rfl, hb⟩
    have HB := Lib.hid hb
    clear hb
    go_wp2
    go_ret
    exact ⟨rfl, HB.out⟩
  by_cases hb : 64 < n
  · clear hN hw
    go_enter Try.func3, Try.ntmps3
    go_wp2_with fail
    refine (awake_any _).mono ?_
    rintro e w1 ⟨rfl, hb⟩
    have HB := Lib.hid hb
    clear hb
    go_wp2
    go_ret
    exact ⟨rfl, HB.out⟩
  · have P := Lib.hid (fun w' (hb : Below w.heap.size w w') => page_any A n c Z s w' (hN.below hb (Nat.le_refl _)) (by omega) hs)
    obtain ⟨a, b, hab⟩ : ∃ a b, cmpR t = (a, b) := ⟨(cmpR t).1, (cmpR t).2, rfl⟩
    have C1 := fun w => cmp_any t w
    have C2 := fun w => rcmp_any t w
    rw [hab] at C1 C2
    have t1 := str_t (rfl : a = a)
    have t2 : (b == b) = true := beq_self_eq_true b
    clear hN hw hab
    go_enter Try.func3, Try.ntmps3
    go_wp2_with fail
    refine (C1 _).mono ?_
    rintro e w1 ⟨rfl, hb1⟩
    have B1 := Lib.hid hb1
    clear hb1 C1
    unfold pairV
    go_wp2_with fail
    refine (C2 _).mono ?_
    rintro e w2 ⟨rfl, hb2⟩
    have B2 := Lib.hid (bel2 B1.out hb2)
    clear hb2 C2 B1
    unfold pairV
    go_wp2_with fail
    refine (P.out _ B2.out).mono ?_
    rintro e w3 ⟨p, hp, rfl, hb3⟩
    have B3 := Lib.hid (bel2 B2.out hb3)
    clear hb3 P B2
    have C1 := fun w => cmp_any p w
    have C2 := fun w => rcmp_any p w
    rw [cmpR_ok p hp] at C1 C2
    generalize cmp p = y at *
    have t3 := str_t (rfl : y = y)
    go_wp2_with fail
    refine (C1 _).mono ?_
    rintro e w4 ⟨rfl, hb4⟩
    have B4 := Lib.hid (bel2 B3.out hb4)
    clear hb4 C1 B3
    unfold pairV
    go_wp2_with fail
    refine (C2 _).mono ?_
    rintro e w5 ⟨rfl, hb5⟩
    have B5 := Lib.hid (bel2 B4.out hb5)
    clear hb5 C2 B4
    unfold pairV
    go_wp2_with fail
    refine (awake_any _).mono ?_
    rintro e w6 ⟨rfl, hb6⟩
    have HB := Lib.hid (bel2 B5.out hb6)
    clear hb6 B5
    go_wp2
    go_ret
    exact ⟨rfl, HB.out⟩
end Go.Proofs.Ytpfaicdoaldioaa
