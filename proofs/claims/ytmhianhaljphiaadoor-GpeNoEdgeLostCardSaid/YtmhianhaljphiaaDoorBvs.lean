/- Sets of events as words of 64 bits: what the operators leave. -/
import Derived.Test.YtmhianhaljphiaaDoorGen
import Derived.Lib.TrailingZeros
namespace Go.Proofs.YtmhianhaljphiaaDoor
open Go.RowKit

/-- A word as an integer. -/
def u (x : BitVec 64) : Int := (x.toNat : Int)
theorem u_bd (x : BitVec 64) : 0 ≤ u x ∧ u x < 18446744073709551616 := by
  have := x.isLt
  unfold u
  omega
theorem ofInt_u (a : BitVec 64) : BitVec.ofInt 64 (u a) = a := by
  apply BitVec.eq_of_toNat_eq
  unfold u
  simp
theorem wrap_u (a : BitVec 64) : IntKind.u64.wrap (u a) = u a := by
  have := u_bd a
  rw [IntKind.wrap_u64]
  omega
theorem and_u (a b : BitVec 64) : bits BinOp.and IntKind.u64 (u a) (u b) = u (a &&& b) := by
  show IntKind.u64.wrap (((BitVec.ofInt 64 (u a)) &&& (BitVec.ofInt 64 (u b))).toNat : Int) = _
  rw [ofInt_u, ofInt_u]
  exact wrap_u _
theorem or_u (a b : BitVec 64) : bits BinOp.or IntKind.u64 (u a) (u b) = u (a ||| b) := by
  show IntKind.u64.wrap (((BitVec.ofInt 64 (u a)) ||| (BitVec.ofInt 64 (u b))).toNat : Int) = _
  rw [ofInt_u, ofInt_u]
  exact wrap_u _
theorem not_u (a b : BitVec 64) : bits BinOp.andNot IntKind.u64 (u a) (u b) = u (a &&& ~~~b) := by
  show IntKind.u64.wrap (((BitVec.ofInt 64 (u a)) &&& ~~~(BitVec.ofInt 64 (u b))).toNat : Int) = _
  rw [ofInt_u, ofInt_u]
  exact wrap_u _
theorem u_of_U64 {n : Int} (h : U64 n) : u (BitVec.ofInt 64 n) = n := by
  obtain ⟨h0, h1⟩ := h
  unfold u
  rw [BitVec.toNat_ofInt]
  omega
theorem u_inj {a b : BitVec 64} (h : u a = u b) : a = b := by
  unfold u at h
  exact BitVec.eq_of_toNat_eq (by omega)
theorem u_zero : u 0 = 0 := rfl
theorem u_eq0 (a : BitVec 64) : (u a == 0) = (a == 0#64) := by
  by_cases h : a = 0#64
  · subst h; rfl
  · have h1 : ¬ u a = 0 := fun e => h (u_inj (b := 0#64) e)
    rw [beq_eq_false_iff_ne.2 h1, beq_eq_false_iff_ne.2 h]
theorem u_ne0 (a : BitVec 64) : (u a != 0) = (a != 0#64) := by
  unfold bne
  rw [u_eq0]
/-- The word of one event. -/
def bitB (k : Nat) : BitVec 64 := BitVec.twoPow 64 k
theorem bitB_get (k j : Nat) (hk : k < 64) : (bitB k).getLsbD j = decide (j = k) := by
  unfold bitB
  rw [BitVec.getLsbD_twoPow]
  by_cases h : j = k
  · subst h; simp [hk]
  · simp [h]; omega
theorem bitB_u (k : Nat) (hk : k < 64) : u (bitB k) = 2 ^ k := by
  unfold u bitB
  rw [BitVec.toNat_twoPow, Nat.mod_eq_of_lt (Nat.pow_lt_pow_right (by omega) hk)]
  simp
theorem bitB_shl (k : Nat) (hk : k < 64) : IntKind.u64.wrap (1 * 2 ^ k) = u (bitB k) := by
  rw [← wrap_u (bitB k), bitB_u k hk, Int.one_mul]
theorem bitB_ne (k : Nat) (hk : k < 64) : bitB k ≠ 0#64 := fun h => by
  have := bitB_get k k hk
  rw [h] at this
  simp at this
def withB (s b : BitVec 64) (on : Bool) : BitVec 64 := if on then s ||| b else s &&& ~~~b
theorem withB_get (s : BitVec 64) (k : Nat) (on : Bool) (j : Nat) (hk : k < 64) (hj : j < 64) : (withB s (bitB k) on).getLsbD j = if j = k then on else s.getLsbD j := by
  unfold withB
  cases on
  · rw [if_neg (by simp), BitVec.getLsbD_and, BitVec.getLsbD_not, bitB_get _ _ hk]
    by_cases h : j = k
    · rw [if_pos h, decide_eq_true h]; simp
    · rw [if_neg h, decide_eq_false h, decide_eq_true hj]; simp
  · rw [if_pos rfl, BitVec.getLsbD_or, bitB_get _ _ hk]
    by_cases h : j = k
    · rw [if_pos h, decide_eq_true h]; simp
    · rw [if_neg h, decide_eq_false h]; simp
theorem and_bit (s : BitVec 64) (k : Nat) (hk : k < 64) : (s &&& bitB k == 0#64) = !s.getLsbD k := by
  by_cases h : s.getLsbD k = true
  · rw [h]
    refine beq_eq_false_iff_ne.2 fun e => ?_
    have : (s &&& bitB k).getLsbD k = true := by rw [BitVec.getLsbD_and, bitB_get _ _ hk, h]; simp
    rw [e] at this
    simp at this
  · have h : s.getLsbD k = false := by simpa using h
    rw [h]
    refine beq_iff_eq.2 (BitVec.eq_of_getLsbD_eq fun j hj => ?_)
    rw [BitVec.getLsbD_and, bitB_get _ _ hk]
    by_cases e : j = k
    · subst e; simp [h]
    · simp [e]
theorem and_bit' (s : BitVec 64) (k : Nat) (hk : k < 64) : (s &&& bitB k != 0#64) = s.getLsbD k := by
  unfold bne
  rw [and_bit s k hk]
  simp
theorem eq0_iff (s : BitVec 64) : s = 0#64 ↔ ∀ j, j < 64 → s.getLsbD j = false := by
  constructor
  · intro h j _; rw [h]; simp
  · intro h; exact BitVec.eq_of_getLsbD_eq fun j hj => by rw [h j hj]; simp
/-- The smallest event of a set that is not empty. -/
theorem ctz_get (s : BitVec 64) (h : s ≠ 0#64) : Lib.ctz 64 s.toNat < 64 ∧ s.getLsbD (Lib.ctz 64 s.toNat) = true ∧ ∀ j, j < Lib.ctz 64 s.toNat → s.getLsbD j = false := by
  have hn : s.toNat ≠ 0 := fun e => h (BitVec.eq_of_toNat_eq (by simpa using e))
  have e : Lib.ctz 64 s.toNat = Lib.ctzFrom 64 s.toNat := by unfold Lib.ctz; rw [if_neg hn]
  obtain ⟨m, hm, hk⟩ := Lib.ctzFrom_spec 64 s.toNat (by omega) s.isLt
  rw [e]
  generalize Lib.ctzFrom 64 s.toNat = c at *
  refine ⟨hk, ?_, fun j hj => ?_⟩
  · show s.toNat.testBit c = true
    rw [hm, Nat.testBit_two_pow_mul]
    simp [Nat.testBit_zero]
  · show s.toNat.testBit j = false
    rw [hm, Nat.testBit_two_pow_mul]
    simp
    omega
end Go.Proofs.YtmhianhaljphiaaDoor
