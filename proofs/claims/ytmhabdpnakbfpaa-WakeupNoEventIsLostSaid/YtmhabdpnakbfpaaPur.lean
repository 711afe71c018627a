/- Sources that are all inactive; a pulse of one of them. -/
import Derived.Test.YtmhabdpnakbfpaaSta
namespace Go.Proofs.Ytmhabdpnakbfpaa
open Go.ChangeShapes Go.WideShapes Go.ChangeAt Go.RowKit Go.Deep Go.Joins

section
variable {w0 w w' : World} {s t t' : WS} {y : Ry}
/-- A call of the sources alone: the reference is as it was. -/
theorem DM.imp {v : Value} {e : Ending} (h : DM w0 w s y t) (hS : Sm t t') (hp : OpP w t t' v e w') : e = .returned v ∧ DM w0 w' s y t' := by
  obtain ⟨he, hd⟩ := h.d.op1 hS hp
  have hr : Rk w' s y := h.r.keep (fun b hb => by
    have hlt : b < w.heap.size := by rcases hb with rfl | rfl | rfl; exact h.r.lL; exact h.r.lX; exact h.r.lY
    refine hp.2.2.block b hlt (fun e => ?_)
    have := h.aL
    rcases e with e | ⟨e, h0⟩
    · rcases hb with hb | hb | hb <;> omega
    · have := h.aX h0
      rcases hb with hb | hb | hb <;> omega)
  exact ⟨he, hd, hr, h.l, h.x, h.y', by rw [hS.L]; exact h.aL, by rw [hS.X, hS.n]; exact h.aX⟩
theorem DM.below (h : DM w0 w s y t) (hb : Below w.heap.size w w') : DM w0 w' s y t := ⟨h.d.below hb, h.r.below hb, h.l, h.x, h.y', h.aL, h.aX⟩
theorem D2.dm (h : D2 w0 w s y) : DM w0 w s y s := ⟨h.d, h.r, h.l, h.x, h.y', h.aL, h.aX⟩
end
theorem advK_off (s : WS) (now : Int) (k i : Nat) (h : (s.q i).on = false) : ((advK s now k).q i).on = false := by
  induction k with
  | zero => exact h
  | succ k ih =>
    unfold advK
    split
    · show (if i = k then (⟨false, false, 0⟩ : Src) else (advK s now k).q i).on = false
      by_cases e : i = k
      · rw [if_pos e]
      · rw [if_neg e]; exact ih
    · exact ih
theorem adv_off (s : WS) (now : Int) (i : Nat) (h : (s.q i).on = false) : ((adv s now).q i).on = false := by
  rw [show (adv s now).q = (advK s now s.n).q from (advA_q _ now).1]
  exact advK_off s now s.n i h
theorem cntK_off (s : WS) (k : Nat) (h : ∀ i, i < k → (s.q i).on = false) : cntK s k = 0 := by
  induction k with
  | zero => rfl
  | succ k ih =>
    unfold cntK
    rw [if_neg (by rw [h k (by omega)]; exact Bool.false_ne_true)]
    exact ih (fun i hi => h i (by omega))
theorem cntK_one (s : WS) (p k : Nat) (h : ∀ i, i < k → i ≠ p → (s.q i).on = false) (hp : (s.q p).on = true) : cntK s k = if p < k then 1 else 0 := by
  induction k with
  | zero => rw [if_neg (by omega)]; rfl
  | succ k ih =>
    have ih := ih (fun i hi => h i (by omega))
    unfold cntK
    by_cases e : k = p
    · subst e
      rw [if_pos hp, ih, if_neg (by omega), if_pos (by omega)]
    · rw [if_neg (by rw [h k (by omega) e]; exact Bool.false_ne_true), ih]
      by_cases h2 : p < k
      · rw [if_pos h2, if_pos (by omega)]
      · rw [if_neg h2, if_neg (by omega)]
theorem due_off {s : WS} {now : Int} {i : Nat} (h : (s.q i).on = false) : dueB s now i = false := by unfold dueB; rw [h]; rfl
/-- All are inactive and no alarm is set. -/
structure Idle (s : WS) : Prop where
  q : ∀ i, i < s.n → (s.q i).on = false
  al : s.al = false
theorem idle_adv (s : WS) (now : Int) (hq : ∀ i, i < s.n → (s.q i).on = false) (ha : s.al = true → s.a ≤ now) : Idle (adv s now) := by
  refine ⟨fun i hi => adv_off s now i (hq i (by rw [(sm_adv s now).n] at hi; exact hi)), ?_⟩
  have d := (adv_done s now).2
  cases h : (adv s now).al with
  | false => rfl
  | true =>
    obtain ⟨h1, h2⟩ := adv_alm s now h
    rw [h, h2, decide_eq_true (ha h1)] at d
    cases d
theorem idle_quiet {s : WS} (h : Idle s) (now : Int) : adv s now = { s with ck := now } := adv_quiet s now (fun j hj => due_off (h.q j hj)) (by rw [h.al]; rfl)
/-- One source is active until T. -/
def onS (s : WS) (p : Nat) (T ck : Int) : WS := { s.putQ p ⟨true, true, T⟩ with ck := ck }
theorem onS_quiet {s : WS} (h : Idle s) (p : Nat) (T ck now : Int) (hn : now < T) : adv (onS s p T ck) now = onS s p T now := by
  rw [adv_quiet (onS s p T ck) now (fun j hj => ?_) (by show (s.al && _) = false; rw [h.al]; rfl)]
  · rfl
  · unfold dueB
    show ((if j = p then (⟨true, true, T⟩ : Src) else s.q j).on && ((if j = p then (⟨true, true, T⟩ : Src) else s.q j).hd && decide ((if j = p then (⟨true, true, T⟩ : Src) else s.q j).t ≤ now))) = false
    by_cases e : j = p
    · rw [if_pos e]
      show (true && (true && decide (T ≤ now))) = false
      rw [decide_eq_false (by omega)]
      rfl
    · rw [if_neg e, h.q j hj]; rfl
theorem onS_cnt {s : WS} (h : Idle s) {p : Nat} (hp : p < s.n) (T ck : Int) : cnt (onS s p T ck) = 1 := by
  show cntK (onS s p T ck) s.n = 1
  refine (cntK_one (onS s p T ck) p s.n (fun i hi e => ?_) ?_).trans (if_pos hp)
  · show (if i = p then (⟨true, true, T⟩ : Src) else s.q i).on = false
    rw [if_neg e]
    exact h.q i hi
  · show (if p = p then (⟨true, true, T⟩ : Src) else s.q p).on = true
    rw [if_pos rfl]
theorem onS_end {s : WS} (h : Idle s) {p : Nat} (hp : p < s.n) (T ck : Int) : (adv (onS s p T ck) T).ev = wI (s.ev + 1) ∧ cnt (adv (onS s p T ck) T) = 0 := by
  have K : ∀ k, k ≤ s.n → advK (onS s p T ck) T k = if p < k then (onS s p T T).endS p else onS s p T T := fun k => by
    induction k with
    | zero => intro _; rw [if_neg (by omega)]; rfl
    | succ k ih =>
      intro hk
      have ih := ih (by omega)
      have dq : dueB (advK (onS s p T ck) T k) T k = decide (k = p) := by
        unfold dueB
        rw [advK_q _ _ k k (Nat.le_refl _)]
        show ((if k = p then (⟨true, true, T⟩ : Src) else s.q k).on && ((if k = p then (⟨true, true, T⟩ : Src) else s.q k).hd && decide ((if k = p then (⟨true, true, T⟩ : Src) else s.q k).t ≤ T))) = _
        by_cases e : k = p
        · rw [if_pos e, decide_eq_true e]
          show (true && (true && decide (T ≤ T))) = true
          rw [decide_eq_true (Int.le_refl _)]
          rfl
        · rw [if_neg e, h.q k (by omega), decide_eq_false e]; rfl
      unfold advK
      rw [dq, ih]
      by_cases e : k = p
      · subst e
        rw [if_neg (show ¬ k < k by omega), if_pos (show k < k + 1 by omega), if_pos (decide_eq_true rfl)]
      · rw [if_neg (by rw [decide_eq_false e]; exact Bool.false_ne_true)]
        by_cases h2 : p < k
        · rw [if_pos h2, if_pos (by omega)]
        · rw [if_neg h2, if_neg (by omega)]
  have K := K s.n (Nat.le_refl _)
  rw [if_pos hp] at K
  have E : adv (onS s p T ck) T = (onS s p T T).endS p := by
    show advA (advK (onS s p T ck) T s.n) T = _
    rw [K]
    unfold advA
    show (if s.al && _ then _ else _) = _
    rw [h.al, Bool.false_and, if_neg Bool.false_ne_true]
  rw [E]
  refine ⟨rfl, ?_⟩
  show cntK ((onS s p T T).endS p) s.n = 0
  refine cntK_off _ _ (fun i hi => ?_)
  show (if i = p then (⟨false, false, 0⟩ : Src) else (if i = p then (⟨true, true, T⟩ : Src) else s.q i)).on = false
  by_cases e : i = p
  · rw [if_pos e]
  · rw [if_neg e, if_neg e]; exact h.q i hi
theorem vt_ok {s : WS} {now : Int} (h1 : s.ck ≤ now) (h2 : now ≤ 100000) : vtB s now = true := by unfold vtB; rw [decide_eq_true h1, decide_eq_true (by omega)]; rfl
theorem v_ok {s : WS} {p : Nat} {now : Int} (hp : p < s.n) (h1 : s.ck ≤ now) (h2 : now ≤ 100000) : vB s p now = true := by unfold vB; rw [decide_eq_true (by omega), decide_eq_true (by omega), vt_ok h1 h2]; rfl
/-- A pulse of an inactive source. -/
theorem pul_idle {s : WS} (h : Idle s) {p : Nat} (hp : p < s.n) (T h' : Int) (hc : s.ck ≤ T) (h0 : 0 ≤ T) (h1 : T ≤ 10000) (h2 : 1 ≤ h') (h3 : h' ≤ 10000) : pulS s p T h' = (onS s p (T + h') T, 0) := by
  have e : pulS s p T h' = (adv (pulQ (adv s T) p (wU (T + h'))) T, 0) := by
    unfold pulS
    rw [v_ok hp hc (by omega), decide_eq_true (show h' ≤ 1152921504606846976 by omega)]
    rfl
  rw [e, idle_quiet h, wU_in (by omega) (by omega)]
  have q : pulQ { s with ck := T } p (T + h') = onS s p (T + h') T := by
    unfold pulQ
    rw [if_neg (by show ¬ (s.q p).on = true; rw [h.q p hp]; exact Bool.false_ne_true)]
    rfl
  rw [q, onS_quiet h p (T + h') T T (by omega)]
/-- Deactivating the source j: what was inactive stays so. -/
theorem dea_step {s : WS} {j : Nat} (hj : j < s.n) (C : Int) (hc : s.ck ≤ C) (h1 : C ≤ 10000) (hq : ∀ i, i < j → (s.q i).on = false) (ha : s.al = true → s.a ≤ C + 11) :
    (deaS s j C).2 = 0 ∧ (deaS s j C).1.ck = C ∧ (∀ i, i < j + 1 → ((deaS s j C).1.q i).on = false) ∧ ((deaS s j C).1.al = true → (deaS s j C).1.a ≤ C + 11) := by
  have e : deaS s j C = (if ((adv s C).q j).on then (adv s C).endS j else adv s C, 0) := by
    unfold deaS
    rw [v_ok hj hc (by omega)]
    rfl
  rw [e]
  refine ⟨rfl, ?_, fun i hi => ?_, fun h => ?_⟩
  · show (if ((adv s C).q j).on = true then (adv s C).endS j else adv s C).ck = C
    split <;> exact adv_ck s C
  · show ((if ((adv s C).q j).on = true then (adv s C).endS j else adv s C).q i).on = false
    rcases Nat.lt_or_ge i j with h | h
    · have := adv_off s C i (hq i h)
      split
      · show (if i = j then (⟨false, false, 0⟩ : Src) else (adv s C).q i).on = false
        rw [if_neg (by omega)]
        exact this
      · exact this
    · have : i = j := by omega
      subst this
      split
      · show (if i = i then (⟨false, false, 0⟩ : Src) else (adv s C).q i).on = false
        rw [if_pos rfl]
      · rename_i hh
        simpa using hh
  · have hal : (adv s C).al = true := by
      have h : (if ((adv s C).q j).on = true then (adv s C).endS j else adv s C).al = true := h
      split at h <;> exact h
    obtain ⟨h3, h4⟩ := adv_alm s C hal
    have := ha h3
    show (if ((adv s C).q j).on = true then (adv s C).endS j else adv s C).a ≤ C + 11
    split
    · show (adv s C).a ≤ _; omega
    · omega
end Go.Proofs.Ytmhabdpnakbfpaa
