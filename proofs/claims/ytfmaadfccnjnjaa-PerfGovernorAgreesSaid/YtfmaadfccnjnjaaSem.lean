/- What a transition does: it is safe, it ends at the target, and its two operations are not safe in the other order. -/
import Derived.Test.YtfmaadfccnjnjaaSgw
namespace Go.Proofs.Ytfmaadfccnjnjaa
open Go.RowKit

theorem vld_le {n : Nat} {f : Nat → St} (hv : vld n f = true) {i : Nat} : ∀ {j : Nat}, i ≤ j → j < n → (f i).r ≤ (f j).r := by
  intro j
  induction j with
  | zero =>
    intro h _
    have : i = 0 := by omega
    subst this; exact Int.le_refl _
  | succ j ih =>
    intro h1 h2
    have hs := (vld_step hv h2).2.1
    rcases Nat.lt_or_ge i (j + 1) with h3 | h3
    · have := ih (by omega) (by omega); omega
    · have : i = j + 1 := by omega
      subst this; exact Int.le_refl _
theorem idx_self {n : Nat} {f : Nat → St} (hv : vld n f = true) {i : Nat} (hi : i < n) : idx n f (f i).l = some i :=
  idx_at hi rfl fun j hj => by have := vld_lt hv hj hi; omega
theorem okS_self {n : Nat} {f : Nat → St} (hv : vld n f = true) {i : Nat} (hi : i < n) (v : Int) : okS n f ⟨(f i).l, v⟩ = decide ((f i).r ≤ v) := by
  unfold okS
  rw [idx_self hv hi]
theorem tr_safe {n : Nat} {f : Nat → St} (hv : vld n f = true) {a b : Nat} (ha : a < n) (hb : b < n) :
    okSTo n f (atL (trL f a b)) ⟨(f a).l, (f a).r⟩ (trL f a b).length = true ∧ stTo (atL (trL f a b)) ⟨(f a).l, (f a).r⟩ (trL f a b).length = ⟨(f b).l, (f b).r⟩ := by
  unfold trL trV
  by_cases h1 : a = b
  · subst h1; simp [okSTo, stTo]
  · rw [if_neg h1]
    by_cases h2 : (f a).r = (f b).r
    · rw [if_pos h2]
      simp [okSTo, stTo, stS, atL, okS_self hv hb, h2]
    · rw [if_neg h2]
      by_cases h3 : a < b
      · rw [if_pos h3]
        have := vld_le hv (show a ≤ b by omega) hb
        simp [okSTo, stTo, stS, atL, okS_self hv hb, okS_self hv ha, this]
      · rw [if_neg h3]
        have := vld_le hv (show b ≤ a by omega) ha
        simp [okSTo, stTo, stS, atL, okS_self hv hb, this]
theorem tr_rev {n : Nat} {f : Nat → St} (hv : vld n f = true) {a b : Nat} (ha : a < n) (hb : b < n) (hl : (trL f a b).length = 2) :
    okSTo n f (atL [atL (trL f a b) 1, atL (trL f a b) 0]) ⟨(f a).l, (f a).r⟩ 2 = false := by
  revert hl
  unfold trL trV
  by_cases h1 : a = b
  · subst h1; simp
  · rw [if_neg h1]
    by_cases h2 : (f a).r = (f b).r
    · rw [if_pos h2]
      simp
    · rw [if_neg h2]
      intro _
      by_cases h3 : a < b
      · rw [if_pos h3]
        have := vld_le hv (show a ≤ b by omega) hb
        have h4 : ¬ (f b).r ≤ (f a).r := by omega
        simp [okSTo, stTo, stS, atL, okS_self hv hb, h4]
      · rw [if_neg h3]
        have := vld_le hv (show b ≤ a by omega) ha
        have h4 : ¬ (f a).r ≤ (f b).r := by omega
        simp [okSTo, stTo, stS, atL, okS_self hv ha, h4]
theorem trOk_in {n : Nat} {f : Nat → St} (hv : vld n f = true) {a b : Nat} (ha : a < n) (hb : b < n) : trOk n f a b = true := by
  unfold trOk inT
  rw [hv]
  simp; omega
theorem safe_tr {n : Nat} {f : Nat → St} (hv : vld n f = true) {a : Nat} (ha : a < n) (m : Nat) (g : Nat → PO) : safeB n f (a : Int) m g = okSTo n f g ⟨(f a).l, (f a).r⟩ m := by
  unfold safeB inT
  rw [hv]
  simp [ha]
end Go.Proofs.Ytfmaadfccnjnjaa
