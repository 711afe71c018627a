/- BytecodeLengths: the walk. -/
import Derived.Test.YtkolghjjifcjkaaLnd
import Derived.Test.YtkolghjjifcjkaaIag
import Derived.Deep.LoopGhost
namespace Go.Proofs.Ytkolghjjifcjkaa
open Go.RowKit

theorem lenL_len (n : Int) : (lenL n).length ≤ 4 := by
  unfold lenL
  split; · simp
  split; · simp
  split; · simp [leI_len]
  split; · simp [leI_len]
  split; · simp [leI_len]
  · simp
set_option maxRecDepth 100000 in
set_option maxHeartbeats 8000000 in
theorem lag_any (b : ByteArray) (d sh : Int) (z : ByteArray) (w : World) (hb : b.size ≤ 140737488351232) (hd : (Lit.int .i64 d).wf = true) (hs : (Lit.int .u8 sh).wf = true) (hz : z.size ≤ 140737488351232) : Calls Try.prog 5 #[.string b, .int .i64 d, .int .u8 sh, .string z] w (LawPost w) := by
  have hd' := bounds_i64 hd
  have hs' := bounds_u8 hs
  clear hs hd
  have LZ := fun w => len_any z w (by omega)
  have RZ := fun w => rln_any z w (by omega)
  generalize decN z = t at *
  obtain ⟨ta, tb, tc⟩ := t
  have q4 : (ta == ta) = true := by simp
  have q5 : (tb == tb) = true := by simp
  have q6 : (tc == tc) = true := by simp
  go_enter Try.func5, Try.ntmps5
  go_wp2_with fail
  have hsm : -9223372036854775808 ≤ wrap64 (IntKind.u64.wrap d / 2 ^ (sh % 64).toNat) ∧ wrap64 (IntKind.u64.wrap d / 2 ^ (sh % 64).toNat) ≤ 9223372036854775807 := by
    unfold wrap64
    omega
  generalize wrap64 (IntKind.u64.wrap d / 2 ^ (sh % 64).toNat) = sm at *
  have HB0 : Hid (b.size ≤ 281474976710656) := by show _ ≤ _; omega
  go_loopg [10, 1] 2 (fun g vi vn wr => ∃ (i : Nat) (x : Int), i + g = 2 ∧ vi = .int .i64 i ∧ vn = .int .i64 x ∧ (-9223372036854775808 ≤ x ∧ x ≤ 9223372036854775807) ∧ Below w.heap.size w wr)
  case atStart => exact ⟨0, d, by omega, rfl, rfl, hd', Below.refl _ _⟩
  case round =>
    obtain ⟨i, x, hg, rfl, rfl, hx, hB⟩ := hrel
    have B := Lib.hid hB
    clear hB
    by_cases hi : i < 2
    · obtain ⟨g, rfl⟩ : ∃ g, gk = g + 1 := ⟨gk - 1, by omega⟩
      have P := fun w => rlen_any x w hx
      have Q := fun w => alen_any b x w HB0.out hx
      have z1 : (strOfNums (lenL x)).size = (lenL x).length := son_size _
      have z2 := lenL_len x
      have R := fun w => len_any (strOfNums (lenL x) ++ z) w (by rw [ByteArray.size_append]; omega)
      have q1 := str_t (a := b ++ strOfNums (lenL x)) rfl
      have z3 : (b ++ strOfNums (lenL x)).size = b.size + (lenL x).length := by rw [ByteArray.size_append, z1]
      have HG := Lib.hid hg
      clear hg LZ RZ
      go_wp2_with fail
      refine (P _).mono ?_
      clear P
      rintro e w1 ⟨rfl, h⟩
      have B1 := Lib.hid (bel2 B.out h)
      clear h B
      go_wp2_with fail
      refine (Q _).mono ?_
      clear Q
      rintro e w2 ⟨rfl, h⟩
      have B2 := Lib.hid (bel2 B1.out h)
      clear h B1
      go_wp2_with fail
      refine (R _).mono ?_
      clear R
      rintro e w3 ⟨rfl, h⟩
      have B3 := Lib.hid (bel2 B2.out h)
      clear h B2
      by_cases hl : lenL x = []
      · have he : (strOfNums (lenL x)).toList.isEmpty = true := emp_t _ (by rw [z1, hl]; rfl)
        obtain ⟨ua, ub, uc⟩ := decN (strOfNums (lenL x) ++ z)
        unfold triN
        clear hl
        go_wp2
        go_roundg g
        case measure => omega
        case rel => exact ⟨i + 1, sm, by have := HG.out; omega, by go_num, rfl, hsm, B3.out⟩
      · have he : (strOfNums (lenL x)).toList.isEmpty = false := emp_f _ (by rw [z1]; intro q; exact hl (List.length_eq_zero_iff.1 q))
        rw [decN_enc x z hl]
        have n1 : (x != x) = false := by simp
        have n2 : (((lenL x).length : Int) != ((lenL x).length : Int)) = false := by simp
        unfold triN
        clear hl
        go_wp2
        go_roundg g
        case measure => omega
        case rel => exact ⟨i + 1, sm, by have := HG.out; omega, by go_num, rfl, hsm, B3.out⟩
    · have hi2 : i = 2 := by omega
      subst hi2
      clear hg
      go_wp2_with fail
      refine (LZ _).mono ?_
      clear LZ
      rintro e w1 ⟨rfl, h⟩
      unfold triN
      have B1 := Lib.hid (bel2 B.out h)
      clear h B
      go_wp2_with fail
      refine (RZ _).mono ?_
      clear RZ
      rintro e w2 ⟨rfl, h⟩
      unfold triN
      have B2 := Lib.hid (bel2 B1.out h)
      clear h B1
      go_wp2_with fail
      refine (awake_any _).mono ?_
      rintro e w3 ⟨rfl, h⟩
      have B3 := Lib.hid (bel2 B2.out h)
      clear h B2
      go_wp2
      go_ret
      exact ⟨rfl, B3.out⟩
end Go.Proofs.Ytkolghjjifcjkaa
