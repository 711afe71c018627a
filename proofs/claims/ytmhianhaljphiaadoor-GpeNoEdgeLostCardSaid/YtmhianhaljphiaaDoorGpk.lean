/- GpeWake. -/
import Derived.Test.YtmhianhaljphiaaDoorGpv
namespace Go.Proofs.YtmhianhaljphiaaDoor
open Go.ChangeShapes Go.WideShapes Go.ChangeAt Go.RowKit Go.Deep Go.Joins

theorem shr_u (x : BitVec 64) (k : Nat) : u x / 2 ^ k = u (x >>> k) := by
  unfold u
  rw [BitVec.toNat_ushiftRight, Nat.shiftRight_eq_div_pow]
  simp
theorem bit1_u (x : BitVec 64) (k : Nat) : (u ((x >>> k) &&& 1#64) == 1) = x.getLsbD k := by
  have h1 : (u ((x >>> k) &&& 1#64)) = if x.getLsbD k then 1 else 0 := by
    unfold u
    rw [BitVec.toNat_and, BitVec.toNat_ushiftRight]
    have e : (1#64).toNat = 2 ^ 1 - 1 := rfl
    rw [e, Nat.and_two_pow_sub_one_eq_mod, show x.getLsbD k = x.toNat.testBit k from rfl, Nat.testBit, Nat.and_comm, Nat.and_one_is_mod]
    have := Nat.mod_two_eq_zero_or_one (x.toNat >>> k)
    rcases this with h | h
    · rw [h]; rfl
    · rw [h]; rfl
  rw [h1]
  cases x.getLsbD k <;> rfl
theorem and1_u (x : BitVec 64) : bits BinOp.and IntKind.u64 (u x) 1 = u (x &&& 1#64) := and_u x 1#64
structure WkI (s : GpS) (t k e : BitVec 64) (n : Nat) : Prop where
  ct : s.ct = 64
  lv : s.lv = 0#64
  hd : s.hd = 0#64
  en : ∀ j, j < 64 → s.en.getLsbD j = (decide (j < n) && e.getLsbD j)
  wk : ∀ j, j < 64 → s.wk.getLsbD j = (decide (j < n) && k.getLsbD j)
  st : ∀ j, j < 64 → s.st.getLsbD j = (decide (j < n) && t.getLsbD j)
  li : ∀ j, j < 64 → n ≤ j → s.li.getLsbD j = false
theorem WkI.step {s : GpS} {t k e : BitVec 64} {n : Nat} (h : WkI s t k e n) (hn : n < 64) : WkI (setS (wkS (enS s n (e.getLsbD n)) n (k.getLsbD n)) n (t.getLsbD n)) t k e (n + 1) := by
  have nx : ∀ (f g : BitVec 64) (j : Nat), j < 64 → f.getLsbD j = (decide (j < n) && g.getLsbD j) → (if j = n then g.getLsbD n else f.getLsbD j) = (decide (j < n + 1) && g.getLsbD j) := fun f g j hj hf => by
    by_cases q : j = n
    · subst q; simp
    · rw [if_neg q, hf]
      by_cases q2 : j < n
      · rw [decide_eq_true q2, decide_eq_true (by omega)]
      · rw [decide_eq_false q2, decide_eq_false (by omega)]
  refine ⟨h.ct, h.lv, h.hd, fun j hj => ?_, fun j hj => ?_, fun j hj => ?_, fun j hj hnj => ?_⟩
  · show (withB s.en (bitB n) (e.getLsbD n)).getLsbD j = _
    rw [withB_get _ _ _ _ hn hj]; exact nx _ _ _ hj (h.en j hj)
  · show (withB s.wk (bitB n) (k.getLsbD n)).getLsbD j = _
    rw [withB_get _ _ _ _ hn hj]; exact nx _ _ _ hj (h.wk j hj)
  · show (if riseS (wkS (enS s n (e.getLsbD n)) n (k.getLsbD n)) n (t.getLsbD n) then s.st ||| bitB n else s.st).getLsbD j = _
    have r : riseS (wkS (enS s n (e.getLsbD n)) n (k.getLsbD n)) n (t.getLsbD n) = t.getLsbD n := by
      rw [rise_get _ _ _ hn]
      show (t.getLsbD n && (!s.li.getLsbD n || s.lv.getLsbD n && !s.hd.getLsbD n)) = _
      rw [h.li n hn (Nat.le_refl _)]
      simp
    rw [r]
    have g : (if t.getLsbD n then s.st ||| bitB n else s.st).getLsbD j = if j = n then t.getLsbD n else s.st.getLsbD j := by
      by_cases q : j = n
      · subst q
        rw [if_pos rfl]
        cases ht : t.getLsbD j
        · rw [if_neg (by simp), h.st j hj]; simp
        · rw [if_pos rfl, BitVec.getLsbD_or, bitB_get _ _ hn]; simp
      · rw [if_neg q]
        split
        · rw [BitVec.getLsbD_or, bitB_get _ _ hn, decide_eq_false q, Bool.or_false]
        · rfl
    rw [g]
    exact nx _ _ _ hj (h.st j hj)
  · show (withB s.li (bitB n) (t.getLsbD n)).getLsbD j = false
    rw [withB_get _ _ _ _ hn hj, if_neg (by omega)]
    exact h.li j hj (by omega)
theorem WkI.rdy {s : GpS} {t k e : BitVec 64} (h : WkI s t k e 64) : Go.Proofs.YtmhianhaljphiaaDoor.rdy s = t &&& e ∧ s.st &&& s.wk = t &&& k := by
  constructor
  · refine BitVec.eq_of_getLsbD_eq fun j hj => ?_
    rw [rdy_get _ _ hj, h.st j hj, h.en j hj, h.hd, BitVec.getLsbD_and, decide_eq_true hj]
    simp
  · refine BitVec.eq_of_getLsbD_eq fun j hj => ?_
    rw [BitVec.getLsbD_and, h.st j hj, h.wk j hj, BitVec.getLsbD_and, decide_eq_true hj]
    simp
theorem wk0 (t k e : BitVec 64) : WkI (new0 64 (lvl (fun _ => false) 64)) t k e 0 := by
  refine ⟨rfl, ?_, rfl, fun j _ => by simp [new0], fun j _ => by simp [new0], fun j _ => by simp [new0], fun j _ _ => by simp [new0]⟩
  refine BitVec.eq_of_getLsbD_eq fun j hj => ?_
  show (lvl (fun _ => false) 64).getLsbD j = _
  rw [lvl_get _ _ _ (Nat.le_refl _) hj]
  simp
theorem low_u (R : BitVec 64) (h : R ≠ 0#64) : u (R &&& (bitB (Lib.ctz 64 R.toNat) - 1#64)) = 0 := by
  obtain ⟨hk, _, hl⟩ := ctz_get R h
  generalize Lib.ctz 64 R.toNat = c at *
  have e : R &&& (bitB c - 1#64) = 0#64 := by
    apply BitVec.eq_of_toNat_eq
    rw [BitVec.toNat_and]
    have e1 : (bitB c - 1#64).toNat = 2 ^ c - 1 := by
      have hp : 2 ^ c < 2 ^ 64 := Nat.pow_lt_pow_right (by omega) hk
      have hp1 : 1 ≤ 2 ^ c := Nat.one_le_two_pow
      have e0 : (bitB c).toNat = 2 ^ c := by unfold bitB; rw [BitVec.toNat_twoPow, Nat.mod_eq_of_lt hp]
      rw [BitVec.toNat_sub, e0]
      show (2 ^ 64 - 1 + 2 ^ c) % 2 ^ 64 = _
      omega
    rw [e1, Nat.and_two_pow_sub_one_eq_mod]
    apply Nat.eq_of_testBit_eq
    intro j
    rw [Nat.testBit_mod_two_pow]
    by_cases q : j < c
    · rw [show R.toNat.testBit j = R.getLsbD j from rfl, hl j q]; simp
    · simp [q]
  rw [e]; rfl
theorem sub1_u (c : Nat) (hc : c < 64) : IntKind.u64.wrap (u (bitB c) - 1) = u (bitB c - 1#64) := by
  have hp : 2 ^ c < 2 ^ 64 := Nat.pow_lt_pow_right (by omega) hc
  have hp1 : 1 ≤ 2 ^ c := Nat.one_le_two_pow
  have e0 : (bitB c).toNat = 2 ^ c := by unfold bitB; rw [BitVec.toNat_twoPow, Nat.mod_eq_of_lt hp]
  rw [IntKind.wrap_u64]
  unfold u
  rw [BitVec.toNat_sub, e0]
  show _ = (((2 ^ 64 - 1 + 2 ^ c) % 2 ^ 64 : Nat) : Int)
  generalize 2 ^ c = p at *
  omega
end Go.Proofs.YtmhianhaljphiaaDoor
