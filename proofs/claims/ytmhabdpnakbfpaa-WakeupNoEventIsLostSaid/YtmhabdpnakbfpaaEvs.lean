/- How many events a call counts. -/
import Derived.Test.YtmhabdpnakbfpaaDo
namespace Go.Proofs.Ytmhabdpnakbfpaa
open Go.ChangeShapes Go.WideShapes Go.ChangeAt Go.RowKit Go.Deep Go.Joins

theorem wI_in {x : Int} (h0 : 0 ≤ x) (h : x ≤ 1000000) : wI x = x := IntWalk.wrap64_in _ (by omega)
theorem advK_q (s : WS) (now : Int) (k j : Nat) (h : k ≤ j) : (advK s now k).q j = s.q j := by
  induction k with
  | zero => rfl
  | succ k ih =>
    unfold advK
    split
    · show (if j = k then _ else _) = _
      rw [if_neg (by omega)]
      exact ih (by omega)
    · exact ih (by omega)
theorem advK_done (s : WS) (now : Int) (k j : Nat) (h : j < k) : dueB (advK s now k) now j = false := by
  induction k with
  | zero => omega
  | succ k ih =>
    unfold advK
    by_cases hd : dueB (advK s now k) now k = true
    · rw [if_pos hd]
      rcases Nat.lt_or_ge j k with h1 | h1
      · have := ih h1
        have hq : ((advK s now k).endS k).q j = (advK s now k).q j := if_neg (by omega)
        unfold dueB at this ⊢
        rw [hq]
        exact this
      · have : j = k := by omega
        subst this
        show ((if j = j then (⟨false, false, 0⟩ : Src) else (advK s now j).q j).on && _) = false
        rw [if_pos rfl]
        rfl
    · rw [if_neg hd]
      rcases Nat.lt_or_ge j k with h1 | h1
      · exact ih h1
      · have : j = k := by omega
        subst this
        simpa using hd
theorem advK_al (s : WS) (now : Int) (k : Nat) : (advK s now k).al = s.al ∧ (advK s now k).a = s.a := by
  induction k with
  | zero => exact ⟨rfl, rfl⟩
  | succ k ih =>
    unfold advK
    split <;> exact ih
theorem advK_ev (s : WS) (now : Int) (k : Nat) (h0 : 0 ≤ s.ev) (h1 : s.ev ≤ 1000) (hk : k ≤ 32) : s.ev ≤ (advK s now k).ev ∧ (advK s now k).ev ≤ s.ev + k := by
  induction k with
  | zero => exact ⟨Int.le_refl _, by show s.ev ≤ s.ev + ((0 : Nat) : Int); omega⟩
  | succ k ih =>
    have ih := ih (by omega)
    unfold advK
    split
    · show s.ev ≤ wI ((advK s now k).ev + 1) ∧ wI ((advK s now k).ev + 1) ≤ _
      rw [wI_in (by omega) (by omega)]
      omega
    · omega
/-- Only the source i may be due. -/
theorem advK_ev1 (s : WS) (now : Int) (i k : Nat) (h0 : 0 ≤ s.ev) (h1 : s.ev ≤ 2000) (hd : ∀ j, j < k → j ≠ i → dueB s now j = false) : s.ev ≤ (advK s now k).ev ∧ (advK s now k).ev ≤ s.ev + (if i < k then 1 else 0) := by
  induction k with
  | zero => exact ⟨Int.le_refl _, by rw [if_neg (by omega)]; show s.ev ≤ s.ev + 0; omega⟩
  | succ k ih =>
    have ih := ih (fun j hj hne => hd j (by omega) hne)
    have hq : dueB (advK s now k) now k = dueB s now k := by
      unfold dueB
      rw [advK_q s now k k (Nat.le_refl _)]
    unfold advK
    by_cases hi : k = i
    · subst hi
      rw [if_neg (by omega)] at ih
      rw [if_pos (show k < k + 1 by omega)]
      split
      · show s.ev ≤ wI ((advK s now k).ev + 1) ∧ wI ((advK s now k).ev + 1) ≤ _
        rw [wI_in (by omega) (by omega)]
        omega
      · omega
    · rw [hq, hd k (by omega) hi, if_neg Bool.false_ne_true]
      by_cases hik : i < k
      · rw [if_pos hik] at ih
        rw [if_pos (by omega)]
        exact ih
      · rw [if_neg hik] at ih
        rw [if_neg (by omega)]
        exact ih
theorem advA_ev (s : WS) (now : Int) (h0 : 0 ≤ s.ev) (h1 : s.ev ≤ 3000) : s.ev ≤ (advA s now).ev ∧ (advA s now).ev ≤ s.ev + (if s.al && decide (s.a ≤ now) then 1 else 0) := by
  unfold advA
  by_cases h : (s.al && decide (s.a ≤ now)) = true
  · rw [if_pos h, if_pos h]
    show s.ev ≤ wI (s.ev + 1) ∧ wI (s.ev + 1) ≤ _
    rw [wI_in (by omega) (by omega)]
    omega
  · rw [if_neg h, if_neg h]
    omega
theorem advA_q (s : WS) (now : Int) : (advA s now).q = s.q ∧ (advA s now).n = s.n := by
  unfold advA
  split <;> exact ⟨rfl, rfl⟩
/-- After an advance nothing is due. -/
theorem adv_done (s : WS) (now : Int) : (∀ j, j < s.n → dueB (adv s now) now j = false) ∧ ((adv s now).al && decide ((adv s now).a ≤ now)) = false := by
  refine ⟨fun j hj => ?_, ?_⟩
  · have := advK_done s now s.n j hj
    unfold dueB at this ⊢
    rw [show (adv s now).q = (advK s now s.n).q from (advA_q _ now).1]
    exact this
  · show ((advA (advK s now s.n) now).al && decide ((advA (advK s now s.n) now).a ≤ now)) = false
    unfold advA
    by_cases h : ((advK s now s.n).al && decide ((advK s now s.n).a ≤ now)) = true
    · rw [if_pos h]; rfl
    · rw [if_neg h]; simpa using h
theorem adv_ev (s : WS) (now : Int) (h0 : 0 ≤ s.ev) (h1 : s.ev ≤ 1000) (hn : s.n ≤ 32) : s.ev ≤ (adv s now).ev ∧ (adv s now).ev ≤ s.ev + s.n + 1 := by
  have a := advK_ev s now s.n h0 h1 hn
  have b := advA_ev (advK s now s.n) now (by omega) (by omega)
  show s.ev ≤ (advA (advK s now s.n) now).ev ∧ (advA (advK s now s.n) now).ev ≤ _
  split at b <;> omega
/-- Only the source i or the alarm may be due: at most one of them is, where the other is not. -/
theorem adv_ev1 (s : WS) (now : Int) (i : Nat) (h0 : 0 ≤ s.ev) (h1 : s.ev ≤ 2000) (hd : ∀ j, j < s.n → j ≠ i → dueB s now j = false) (ha : (s.al && decide (s.a ≤ now)) = false) : s.ev ≤ (adv s now).ev ∧ (adv s now).ev ≤ s.ev + 1 := by
  have a := advK_ev1 s now i s.n h0 h1 hd
  have al := advK_al s now s.n
  have b := advA_ev (advK s now s.n) now (by omega) (by split at a <;> omega)
  rw [al.1, al.2, ha, if_neg Bool.false_ne_true] at b
  show s.ev ≤ (advA (advK s now s.n) now).ev ∧ (advA (advK s now s.n) now).ev ≤ _
  split at a <;> omega
theorem adv_ev0 (s : WS) (now : Int) (h0 : 0 ≤ s.ev) (h1 : s.ev ≤ 2000) (hd : ∀ j, j < s.n → dueB s now j = false) : s.ev ≤ (adv s now).ev ∧ (adv s now).ev ≤ s.ev + 1 := by
  have a := advK_ev1 s now s.n s.n h0 h1 (fun j hj _ => hd j hj)
  rw [if_neg (by omega)] at a
  have b := advA_ev (advK s now s.n) now (by omega) (by omega)
  show s.ev ≤ (advA (advK s now s.n) now).ev ∧ (advA (advK s now s.n) now).ev ≤ _
  split at b <;> omega
/-- A call counts at most n + 2 events, and none if it fails. -/
def Grow (s : WS) (r : WS × Int) : Prop := s.ev ≤ r.1.ev ∧ r.1.ev ≤ s.ev + s.n + 2 ∧ (r.2 ≠ 0 → r.1.ev = s.ev) ∧ r.1.n = s.n
theorem grow_no (s : WS) (e : Int) : Grow s (s, e) := ⟨Int.le_refl _, by show s.ev ≤ s.ev + s.n + 2; omega, fun _ => rfl, rfl⟩
theorem do_grow (s : WS) (m : Nat) (x : Ar) (h0 : 0 ≤ s.ev) (h1 : s.ev ≤ 1000) (hn : s.n ≤ 32) : Grow s (doK s m x) := by
  have ok : ∀ t : WS, s.ev ≤ t.ev → t.ev ≤ s.ev + s.n + 2 → t.n = s.n → Grow s (t, 0) := fun t a b c => ⟨a, b, fun h => absurd rfl h, c⟩
  have nA : ∀ now, (adv s now).n = s.n := fun now => (sm_adv s now).n
  unfold doK
  split
  · unfold actS
    split
    · have := adv_ev s x.t h0 h1 hn
      exact ok _ this.1 (by show (adv s x.t).ev ≤ _; omega) (nA _)
    · exact grow_no s 1
  split
  · unfold deaS
    split
    · have a := adv_ev s x.t h0 h1 hn
      refine ok _ ?_ ?_ ?_
      · split
        · show s.ev ≤ wI ((adv s x.t).ev + 1); rw [wI_in (by omega) (by omega)]; omega
        · exact a.1
      · split
        · show wI ((adv s x.t).ev + 1) ≤ _; rw [wI_in (by omega) (by omega)]; omega
        · omega
      · split
        · exact nA _
        · exact nA _
    · exact grow_no s 1
  split
  · unfold pulS
    split
    · have a := adv_ev s x.t h0 h1 hn
      have d := adv_done s x.t
      have pn : (pulQ (adv s x.t) x.s.toNat (wU (x.t + x.o))).n = s.n := (sm_pulQ _ _ _).n.trans (nA _)
      have pe : (pulQ (adv s x.t) x.s.toNat (wU (x.t + x.o))).ev = (adv s x.t).ev := by
        unfold pulQ
        split
        · split <;> rfl
        · rfl
      have pa : (pulQ (adv s x.t) x.s.toNat (wU (x.t + x.o))).al = (adv s x.t).al ∧ (pulQ (adv s x.t) x.s.toNat (wU (x.t + x.o))).a = (adv s x.t).a := by
        unfold pulQ
        split
        · split <;> exact ⟨rfl, rfl⟩
        · exact ⟨rfl, rfl⟩
      have pq : ∀ j, j ≠ x.s.toNat → (pulQ (adv s x.t) x.s.toNat (wU (x.t + x.o))).q j = (adv s x.t).q j := fun j hj => by
        unfold pulQ
        split
        · split
          · show (if j = _ then _ else _) = _; rw [if_neg hj]
          · rfl
        · show (if j = _ then _ else _) = _; rw [if_neg hj]
      have b := adv_ev1 (pulQ (adv s x.t) x.s.toNat (wU (x.t + x.o))) x.t x.s.toNat (by rw [pe]; omega) (by rw [pe]; omega) (fun j hj hne => by
        rw [pn] at hj
        have := d.1 j hj
        unfold dueB at this ⊢
        rw [pq j hne]
        exact this) (by rw [pa.1, pa.2]; exact d.2)
      rw [pe] at b
      exact ok _ (by omega) (by omega) ((sm_adv _ _).n.trans pn)
    · exact grow_no s 1
  split
  · unfold salS
    split
    · have a := adv_ev s x.t h0 h1 hn
      have d := adv_done s x.t
      have b := adv_ev0 { adv s x.t with al := true, a := x.o } x.t (by show 0 ≤ (adv s x.t).ev; omega) (by show (adv s x.t).ev ≤ 2000; omega) (fun j hj => d.1 j (by have : j < (adv s x.t).n := hj; rw [nA] at this; exact this))
      have b : (adv s x.t).ev ≤ (adv { adv s x.t with al := true, a := x.o } x.t).ev ∧ (adv { adv s x.t with al := true, a := x.o } x.t).ev ≤ (adv s x.t).ev + 1 := b
      exact ok _ (by omega) (by omega) ((sm_adv _ _).n.trans (nA _))
    · exact grow_no s 1
  split
  · unfold avS
    split
    · have := adv_ev s x.t h0 h1 hn
      exact ok _ this.1 (by omega) (nA _)
    · exact grow_no s 1
  split
  · unfold armS
    split
    · split
      · have := adv_ev s x.t h0 h1 hn
        exact ok _ this.1 (by show (adv s x.t).ev ≤ _; omega) (nA _)
      · exact grow_no s 17
    · exact grow_no s 1
  · exact ok _ (Int.le_refl _) (by show s.ev ≤ _; omega) rfl
end Go.Proofs.Ytmhabdpnakbfpaa
