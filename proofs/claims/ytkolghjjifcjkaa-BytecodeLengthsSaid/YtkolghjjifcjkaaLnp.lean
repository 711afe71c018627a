/- Lengths: the pure part of decoding. -/
import Derived.Test.YtkolghjjifcjkaaLnr
namespace Go.Proofs.Ytkolghjjifcjkaa
open Go.RowKit

theorem numAt_snoc (s : ByteArray) (i k : Nat) : numAt s i (k + 1) = numAt s i k + 256 ^ k * bt s (i + k) := by
  induction k generalizing i with
  | zero => simp [numAt]
  | succ k ih =>
    have e1 : numAt s i (k + 1 + 1) = bt s i + 256 * numAt s (i + 1) (k + 1) := rfl
    have e2 : numAt s i (k + 1) = bt s i + 256 * numAt s (i + 1) k := rfl
    rw [e1, e2, ih (i + 1), Int.pow_succ, show i + 1 + k = i + (k + 1) by omega, Int.mul_add, ← Int.mul_assoc, Int.mul_comm (256 ^ k) 256]
    omega
def tailN (s : ByteArray) (k : Nat) (t : Int) : Int × Int × Int := if t < k then (0, 0, 3) else if strOfNums (lenL (t - k)) = s.extract 0 k then (t - k, k, 0) else (0, 0, 3)
def decN (s : ByteArray) : Int × Int × Int :=
  if s.size = 0 then (0, 0, 4) else if bt s 0 / 64 = 0 then tailN s 1 (bt s 0 % 64) else if 15 < bt s 0 % 64 then (0, 0, 3)
  else if (s.size : Int) < bt s 0 / 64 + 1 then (0, 0, 4) else tailN s ((bt s 0 / 64).toNat + 1) (bt s 0 % 16 + 16 * numAt s 1 (bt s 0 / 64).toNat)
theorem lenL_bd (n : Int) (h : 0 ≤ n) : ∀ x ∈ lenL n, 0 ≤ x ∧ x < 256 := by
  unfold lenL
  intro x hx
  split at hx
  · cases hx
  split at hx
  · simp at hx; omega
  split at hx
  · rcases List.mem_cons.1 hx with h | h
    · omega
    · exact leI_bd _ _ x h
  split at hx
  · rcases List.mem_cons.1 hx with h | h
    · omega
    · exact leI_bd _ _ x h
  split at hx
  · rcases List.mem_cons.1 hx with h | h
    · omega
    · exact leI_bd _ _ x h
  · cases hx
theorem son_app_extract (l : List Int) (b : ByteArray) : (strOfNums l ++ b).extract 0 l.length = strOfNums l := by
  apply ByteArray.ext
  have h : l.length = (strOfNums l).data.size := by rw [← son_size]; rfl
  rw [ByteArray.data_extract, ByteArray.data_append, h]
  simp
theorem decN_long (n : Int) (c : Nat) (p : Int) (z : ByteArray) (hc : c = 2 ∨ c = 3 ∨ c = 4) (hp : p = 64 * ((c : Int) - 1)) (h0 : 0 ≤ n) (h1 : (n + c) / 16 < 256 ^ (c - 1)) (hl : lenL n = (p + (n + c) % 16) :: leI ((n + c) / 16) (c - 1)) : decN (strOfNums (lenL n) ++ z) = (n, (c : Int), 0) := by
  have hlen : (lenL n).length = c := by rw [hl]; simp [leI_len]; omega
  have hs : (strOfNums (lenL n)).size = c := by rw [son_size, hlen]
  have hsz : (strOfNums (lenL n) ++ z).size = c + z.size := by rw [ByteArray.size_append, hs]
  have hb0 : bt (strOfNums (lenL n) ++ z) 0 = p + (n + c) % 16 := by
    rw [bt_app_l _ _ _ (by rw [hs]; omega), bt_son _ 0 (lenL_bd n h0) (by rw [hlen]; omega), hl]
    rfl
  have hn : numAt (strOfNums (lenL n) ++ z) 1 (c - 1) = (n + c) / 16 := numAt_leI _ _ (by omega) h1 _ 1 (fun m hm => by
    have hs1 : 1 + m < (strOfNums (lenL n)).size := by rw [hs]; omega
    rw [bt_app_l _ _ _ hs1, bt_son _ _ (lenL_bd n h0) (by rw [hlen]; rw [hs] at hs1; exact hs1), hl, Nat.add_comm 1 m]
    simp)
  have q1 : (p + (n + c) % 16) / 64 = (c : Int) - 1 := by omega
  have q2 : (p + (n + c) % 16) % 64 = (n + c) % 16 := by omega
  have q3 : (p + (n + c) % 16) % 16 = (n + c) % 16 := by omega
  have q4 : ((c : Int) - 1).toNat = c - 1 := by omega
  have q5 : c - 1 + 1 = c := by omega
  unfold decN
  rw [if_neg (by omega), hb0, q1, if_neg (by omega), q2, if_neg (by omega), if_neg (by omega), q3, q4, hn, q5]
  unfold tailN
  have q6 : (n + c) % 16 + 16 * ((n + c) / 16) = n + c := by omega
  rw [q6, if_neg (by omega), Int.add_sub_cancel]
  have e : (strOfNums (lenL n) ++ z).extract 0 c = strOfNums (lenL n) := by
    have := son_app_extract (lenL n) z
    rw [hlen] at this
    exact this
  rw [e, if_pos rfl]
theorem decN_enc (n : Int) (z : ByteArray) (h : lenL n ≠ []) : decN (strOfNums (lenL n) ++ z) = (n, ((lenL n).length : Int), 0) := by
  by_cases c1 : n < 0 ∨ 268435456 ≤ n
  · exact absurd (by unfold lenL; rw [if_pos c1]) h
  have n0 : 0 ≤ n := by omega
  by_cases c2 : n + 1 < 64
  · have hl : lenL n = [n + 1] := by unfold lenL; rw [if_neg c1, if_pos c2]
    have hb0 : bt (strOfNums (lenL n) ++ z) 0 = n + 1 := by
      rw [bt_app_l _ _ _ (by rw [son_size, hl]; simp), bt_son _ 0 (lenL_bd n n0) (by rw [hl]; simp), hl]
      rfl
    have hsz : (strOfNums (lenL n) ++ z).size = 1 + z.size := by rw [ByteArray.size_append, son_size, hl]; rfl
    unfold decN
    rw [if_neg (by omega), hb0, if_pos (by omega)]
    unfold tailN
    have q : (n + 1) % 64 = n + 1 := by omega
    have e : (strOfNums (lenL n) ++ z).extract 0 1 = strOfNums (lenL n) := by
      have := son_app_extract (lenL n) z
      rw [show (lenL n).length = 1 by rw [hl]; rfl] at this
      exact this
    rw [q, if_neg (by omega), show n + 1 - ((1 : Nat) : Int) = n by omega, e, if_pos rfl, hl]
    rfl
  by_cases c3 : n + 2 < 4096
  · have hl : lenL n = (64 + (n + 2) % 16) :: leI ((n + 2) / 16) 1 := by unfold lenL; rw [if_neg c1, if_neg c2, if_pos c3]
    rw [decN_long n 2 64 z (by omega) (by omega) n0 (by simp; omega) hl, hl]; simp [leI_len]
  by_cases c4 : n + 3 < 1048576
  · have hl : lenL n = (128 + (n + 3) % 16) :: leI ((n + 3) / 16) 2 := by unfold lenL; rw [if_neg c1, if_neg c2, if_neg c3, if_pos c4]
    rw [decN_long n 3 128 z (by omega) (by omega) n0 (by simp; omega) hl, hl]; simp [leI_len]
  by_cases c5 : n + 4 < 268435456
  · have hl : lenL n = (192 + (n + 4) % 16) :: leI ((n + 4) / 16) 3 := by unfold lenL; rw [if_neg c1, if_neg c2, if_neg c3, if_neg c4, if_pos c5]
    rw [decN_long n 4 192 z (by omega) (by omega) n0 (by simp; omega) hl, hl]; simp [leI_len]
  · exact absurd (by unfold lenL; rw [if_neg c1, if_neg c2, if_neg c3, if_neg c4, if_neg c5]) h
theorem or_hi (t x : Int) (m : Nat) (hm : m = 4 ∨ m = 12 ∨ m = 20) (h0 : 0 ≤ t) (h1 : t < 2 ^ m) (hx : 0 ≤ x ∧ x < 256) : bits BinOp.or IntKind.i64 t (x * 2 ^ m) = t + x * 2 ^ m := by
  obtain ⟨T, rfl⟩ := Int.eq_ofNat_of_zero_le h0
  obtain ⟨X, rfl⟩ := Int.eq_ofNat_of_zero_le hx.1
  have hX : X < 256 := by omega
  have hT : T < 2 ^ m := by exact Int.ofNat_lt.1 (by simpa using h1)
  have hb : (X : Int) * 2 ^ m = ((X * 2 ^ m : Nat) : Int) := by simp
  have hp : X * 2 ^ m < 4294967296 ∧ T < 4294967296 ∧ T + X * 2 ^ m < 4294967296 := by
    rcases hm with rfl | rfl | rfl <;> simp only [Nat.reducePow] at hT ⊢ <;> omega
  rw [hb]
  have e1 : (BitVec.ofInt 64 (T : Int)).toNat = T := by rw [BitVec.toNat_ofInt]; omega
  have e2 : (BitVec.ofInt 64 ((X * 2 ^ m : Nat) : Int)).toNat = X * 2 ^ m := by rw [BitVec.toNat_ofInt]; omega
  have e3 : T ||| X * 2 ^ m = T + X * 2 ^ m := by
    have := Nat.two_pow_add_eq_or_of_lt (i := m) (b := T) hT X
    rw [Nat.or_comm, Nat.mul_comm X, ← this, Nat.add_comm]
  show IntKind.i64.wrap (((BitVec.ofInt 64 (T : Int)) ||| (BitVec.ofInt 64 ((X * 2 ^ m : Nat) : Int))).toNat : Int) = _
  rw [BitVec.toNat_or, e1, e2, e3, IntWalk.i64_in _ (by omega)]
  simp
theorem and63 (x : Int) (h : 0 ≤ x ∧ x < 256) : bits BinOp.and IntKind.u8 x 63 = x % 64 := by
  obtain ⟨X, rfl⟩ := Int.eq_ofNat_of_zero_le h.1
  have e1 : (BitVec.ofInt 8 (X : Int)).toNat = X := by rw [BitVec.toNat_ofInt]; omega
  have e3 : X &&& 63 = X % 64 := Nat.and_two_pow_sub_one_eq_mod X 6
  show IntKind.u8.wrap (((BitVec.ofInt 8 (X : Int)) &&& (BitVec.ofInt 8 63)).toNat : Int) = _
  rw [BitVec.toNat_and, e1, show (BitVec.ofInt 8 63).toNat = 63 from rfl, e3, wrap_u8]
  omega
theorem and15b (x : Int) (h : 0 ≤ x ∧ x < 256) : bits BinOp.and IntKind.u8 x 15 = x % 16 := by
  obtain ⟨X, rfl⟩ := Int.eq_ofNat_of_zero_le h.1
  have e1 : (BitVec.ofInt 8 (X : Int)).toNat = X := by rw [BitVec.toNat_ofInt]; omega
  have e3 : X &&& 15 = X % 16 := Nat.and_two_pow_sub_one_eq_mod X 4
  show IntKind.u8.wrap (((BitVec.ofInt 8 (X : Int)) &&& (BitVec.ofInt 8 15)).toNat : Int) = _
  rw [BitVec.toNat_and, e1, show (BitVec.ofInt 8 15).toNat = 15 from rfl, e3, wrap_u8]
  omega
theorem and48 : ∀ x : Fin 256, (bits BinOp.and IntKind.u8 (x.val : Int) 48 != 0) = decide (15 < x.val % 64) := by decide +kernel
theorem and48i (x : Int) (h : 0 ≤ x ∧ x < 256) : (bits BinOp.and IntKind.u8 x 48 != 0) = decide (15 < x % 64) := by
  obtain ⟨X, rfl⟩ := Int.eq_ofNat_of_zero_le h.1
  have := and48 ⟨X, by omega⟩
  simp only at this
  rw [this]
  by_cases q : 15 < X % 64
  · rw [decide_eq_true q, decide_eq_true (by omega)]
  · rw [decide_eq_false q, decide_eq_false (by omega)]
end Go.Proofs.Ytkolghjjifcjkaa
