/- BlockdevPowerLoss: what a power loss leaves. -/
import Derived.Test.YtoafoikphpdimaaRlw
namespace Go.Proofs.Ytoafoikphpdimaa
open Go.ChangeShapes Go.WideShapes Go.ChangeAt Go.RowKit Go.Deep Go.Joins

theorem str_d (a b : ByteArray) : (a.toList == b.toList) = decide (a = b) := by
  by_cases h : a = b
  · rw [str_t h, decide_eq_true h]
  · rw [str_f h, decide_eq_false h]
theorem apk_all (S : List ByteArray) (C : List CW) (q : Nat → Bool) : ∀ k, (∀ j, j < k → q j = true) → apk S C q k = apk S C (fun _ => true) k := by
  intro k
  induction k with
  | zero => intro _; rfl
  | succ k ih =>
    intro h
    rw [apk_step, apk_step, if_pos (h k (by omega)), if_pos rfl, ih (fun j hj => h j (by omega))]
theorem apk_none (S : List ByteArray) (C : List CW) (q : Nat → Bool) : ∀ k, (∀ j, j < k → q j = false) → apk S C q k = S := by
  intro k
  induction k with
  | zero => intro _; rfl
  | succ k ih =>
    intro h
    rw [apk_f (h k (by omega)), ih (fun j hj => h j (by omega))]
def allB (q : Nat → Bool) (n : Nat) : Nat → Bool
  | 0 => true
  | i + 1 => allB q n i && kq q n i
def noneB (q : Nat → Bool) (n : Nat) : Nat → Bool
  | 0 => true
  | i + 1 => noneB q n i && !kq q n i
theorem allB_at {q : Nat → Bool} {n : Nat} : ∀ {i : Nat}, allB q n i = true → ∀ j, j < i → kq q n j = true := by
  intro i
  induction i with
  | zero => intro _ j hj; omega
  | succ i ih =>
    intro h j hj
    have h : (allB q n i && kq q n i) = true := h
    rw [Bool.and_eq_true] at h
    rcases Nat.lt_or_ge j i with h1 | h1
    · exact ih h.1 j h1
    · have : j = i := by omega
      subst this
      exact h.2
theorem noneB_at {q : Nat → Bool} {n : Nat} : ∀ {i : Nat}, noneB q n i = true → ∀ j, j < i → kq q n j = false := by
  intro i
  induction i with
  | zero => intro _ j hj; omega
  | succ i ih =>
    intro h j hj
    have h : (noneB q n i && !kq q n i) = true := h
    rw [Bool.and_eq_true] at h
    rcases Nat.lt_or_ge j i with h1 | h1
    · exact ih h.1 j h1
    · have : j = i := by omega
      subst this
      simpa using h.2
/-- Whether a sector holds its old content or what a write since then has brought. -/
def okB (S1 S2 : List ByteArray) (j : Nat) (g : Nat → Cl) (N : Nat) : Nat → Bool
  | 0 => decide (S2.getD j ByteArray.empty = S1.getD j ByteArray.empty)
  | i + 1 => okB S1 S2 j g N i || (decide (modOf (g i).s N = j) && decide (S2.getD j ByteArray.empty = secS (g i).d))
theorem okB_up {S1 S2 : List ByteArray} {j : Nat} {g : Nat → Cl} {N i : Nat} (h : okB S1 S2 j g N i = true) : ∀ m, i ≤ m → okB S1 S2 j g N m = true := by
  intro m
  induction m with
  | zero => intro hm; have : i = 0 := by omega
            subst this; exact h
  | succ m ih =>
    intro hm
    rcases Nat.lt_or_ge m i with h1 | h1
    · have : i = m + 1 := by omega
      subst this
      exact h
    · show (okB S1 S2 j g N m || _) = true
      rw [ih h1]
      rfl
theorem apk_at (S : List ByteArray) (g : Nat → Cl) (N m : Nat) (q : Nat → Bool) (j : Nat) (hj : j < S.length) : ∀ k, k ≤ m → (apk S (wlN g N m) q k).getD j ByteArray.empty = S.getD j ByteArray.empty ∨ ∃ i, i < k ∧ modOf (g i).s N = j ∧ (apk S (wlN g N m) q k).getD j ByteArray.empty = secS (g i).d := by
  intro k
  induction k with
  | zero => intro _; exact .inl rfl
  | succ k ih =>
    intro hk
    by_cases hq : q k = true
    · rw [apk_t hq (by rw [wlN_len]; omega)]
      have e := wlN_get g N m k (by omega)
      rw [List.getElem?_eq_getElem (by rw [wlN_len]; omega)] at e
      injection e with e
      rw [e]
      by_cases hat : modOf (g k).s N = j
      · refine .inr ⟨k, by omega, hat, ?_⟩
        subst hat
        rw [List.getD_eq_getElem?_getD, List.getElem?_set_self (by rw [apk_set]; exact hj)]
        rfl
      · have e2 : ((apk S (wlN g N m) q k).set (modOf (g k).s N) (secS (g k).d)).getD j ByteArray.empty = (apk S (wlN g N m) q k).getD j ByteArray.empty := by
          rw [List.getD_eq_getElem?_getD, List.getD_eq_getElem?_getD, List.getElem?_set_ne hat]
        rw [e2]
        rcases ih (by omega) with h | ⟨i, hi, h1, h2⟩
        · exact .inl h
        · exact .inr ⟨i, by omega, h1, h2⟩
    · rw [apk_f (by simpa using hq)]
      rcases ih (by omega) with h | ⟨i, hi, h1, h2⟩
      · exact .inl h
      · exact .inr ⟨i, by omega, h1, h2⟩
theorem okB_end (S : List ByteArray) (g : Nat → Cl) (N m : Nat) (q : Nat → Bool) (j : Nat) (hj : j < S.length) : okB S (apk S (wlN g N m) q m) j g N m = true := by
  rcases apk_at S g N m q j hj m (Nat.le_refl _) with h | ⟨i, hi, h1, h2⟩
  · exact okB_up (i := 0) (decide_eq_true h) m (Nat.zero_le _)
  · refine okB_up (i := i + 1) ?_ m (by omega)
    show (_ || (decide (modOf (g i).s N = j) && decide _)) = true
    rw [decide_eq_true h1, decide_eq_true h2]
    simp
/-- The disk after the first writes and the Flush, with the writes since. -/
def pS (N L X : Nat) (S : List ByteArray) (C : List CW) : DkS := { s0 N L X with S := S, C := C }
theorem pS_wr (N L X : Nat) (S : List ByteArray) (g : Nat → Cl) (i : Nat) (hN : 1 ≤ N ∧ N ≤ 1000000) : wrS (pS N L X S (wlN g N i)) (modOf (g i).s N : Nat) (secS (g i).d) = (pS N L X S (wlN g N (i + 1)), 0) :=
  wr_plain (s := { s0 N L X with S := S }) (g := g) (N := N) (i := i) rfl hN rfl rfl
theorem last_step (S : List ByteArray) (g : Nat → Cl) (N m i : Nat) (hi : i < m) : apk S (wlN g N m) (fun _ => true) (i + 1) = (apk S (wlN g N m) (fun _ => true) i).set (modOf (g i).s N) (secS (g i).d) := by
  rw [apk_t rfl (by rw [wlN_len]; exact hi)]
  have e := wlN_get g N m i hi
  rw [List.getElem?_eq_getElem (by rw [wlN_len]; exact hi)] at e
  injection e with e
  rw [e]
end Go.Proofs.Ytoafoikphpdimaa
