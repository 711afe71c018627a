/- BytecodeDecodesIntegers: the walk. -/
import Derived.Test.YtkolghjjifcjkaaIag
namespace Go.Proofs.Ytkolghjjifcjkaa
open Go.RowKit

def PFX : ByteArray := { data := #[0, 1, 255, 10, 11, 12, 14, 13] }
set_option maxHeartbeats 4000000 in
theorem dag_any (s : ByteArray) (f : Int) (w : World) (hs : s.size ≤ 140737488351232) (hf : (Lit.int .u8 f).wf = true) : Calls Try.prog 4 #[.string s, .int .u8 f] w (LawPost w) := by
  have hf' := bounds_u8 hf
  obtain ⟨q, hq⟩ : ∃ q : Nat, f % 8 = q := ⟨(f % 8).toNat, by omega⟩
  have hq8 : q < 8 := by omega
  have P := int_any s w (by omega)
  have Q := fun w => rint_any s w (by omega)
  have P2 := fun w => int_any (PFX.extract q (q + 1) ++ s) w (by rw [ByteArray.size_append, ByteArray.size_extract]; omega)
  have Q2 := fun w => rint_any (PFX.extract q (q + 1) ++ s) w (by rw [ByteArray.size_append, ByteArray.size_extract]; omega)
  have E : Hid (PFX = { data := #[0, 1, 255, 10, 11, 12, 14, 13] }) := rfl
  have z1 : (PFX.extract q (q + 1)).size ≤ 1 := by rw [ByteArray.size_extract]; omega
  generalize decI (PFX.extract q (q + 1) ++ s) = t2 at *
  generalize decI s = t1 at *
  obtain ⟨a, b, c⟩ := t1
  obtain ⟨a2, b2, c2⟩ := t2
  rw [E.out] at P2 Q2 z1
  have e1 : f.tmod 8 = (q : Int) := by rw [Int.tmod_eq_emod_of_nonneg hf'.1]; exact hq
  have e2 : IntKind.u8.wrap ((q : Int) + 1) = (q : Int) + 1 := by rw [wrap_u8]; omega
  have e3 : ((q : Int) + 1).toNat = q + 1 := by omega
  have e4 : 0 ≤ (q : Int) + 1 := by omega
  clear hf hf'
  go_enter Try.func4, Try.ntmps4
  go_wp2_with fail
  refine P.mono ?_
  clear P
  rintro e w1 ⟨rfl, h⟩
  unfold tri
  have B1 := Lib.hid h
  clear h
  go_wp2_with fail
  refine (Q _).mono ?_
  rintro e w2 ⟨rfl, h⟩
  unfold tri
  have B2 := Lib.hid (bel2 B1.out h)
  clear h B1 Q
  go_wp2_with fail
  refine (P2 _).mono ?_
  rintro e w3 ⟨rfl, h⟩
  unfold tri
  have B3 := Lib.hid (bel2 B2.out h)
  clear h B2 P2
  go_wp2_with fail
  refine (Q2 _).mono ?_
  rintro e w4 ⟨rfl, h⟩
  unfold tri
  have B4 := Lib.hid (bel2 B3.out h)
  clear h B3 Q2
  go_wp2_with fail
  refine (awake_any _).mono ?_
  rintro e w5 ⟨rfl, h⟩
  have B5 := Lib.hid (bel2 B4.out h)
  clear h B4
  have qa : (a == a) = true := by simp
  have qb : (b == b) = true := by simp
  have qc : (c == c) = true := by simp
  have qa2 : (a2 == a2) = true := by simp
  have qb2 : (b2 == b2) = true := by simp
  have qc2 : (c2 == c2) = true := by simp
  go_wp2
  go_ret
  exact ⟨rfl, B5.out⟩
end Go.Proofs.Ytkolghjjifcjkaa
