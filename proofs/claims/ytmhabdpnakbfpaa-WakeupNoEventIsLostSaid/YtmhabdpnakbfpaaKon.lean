/- A call that counts no event leaves every active source active. -/
import Derived.Test.YtmhabdpnakbfpaaPur
namespace Go.Proofs.Ytmhabdpnakbfpaa
open Go.ChangeShapes Go.WideShapes Go.ChangeAt Go.RowKit Go.Deep Go.Joins

theorem advK_due (s : WS) (now : Int) (k j : Nat) (h0 : 0 ≤ s.ev) (h1 : s.ev ≤ 1000) (hk : k ≤ 32) (hj : j < k) (hd : dueB s now j = true) : s.ev + 1 ≤ (advK s now k).ev := by
  induction k with
  | zero => omega
  | succ k ih =>
    have a := advK_ev s now k h0 h1 (by omega)
    have hq : dueB (advK s now k) now k = dueB s now k := by
      unfold dueB
      rw [advK_q s now k k (Nat.le_refl _)]
    unfold advK
    rcases Nat.lt_or_ge j k with h | h
    · have ih := ih (by omega) h
      split
      · show s.ev + 1 ≤ wI ((advK s now k).ev + 1)
        rw [wI_in (by omega) (by omega)]
        omega
      · exact ih
    · have : j = k := by omega
      subst this
      rw [hq, hd, if_pos rfl]
      show s.ev + 1 ≤ wI ((advK s now j).ev + 1)
      rw [wI_in (by omega) (by omega)]
      omega
theorem adv_same (s : WS) (now : Int) (h0 : 0 ≤ s.ev) (h1 : s.ev ≤ 1000) (hn : s.n ≤ 32) (h : (adv s now).ev ≤ s.ev) : adv s now = { s with ck := now } := by
  have a := advK_ev s now s.n h0 h1 hn
  have b := advA_ev (advK s now s.n) now (by omega) (by omega)
  have h : (advA (advK s now s.n) now).ev ≤ s.ev := h
  have nd : ∀ j, j < s.n → dueB s now j = false := fun j hj => by
    cases hd : dueB s now j with
    | false => rfl
    | true =>
      have := advK_due s now s.n j h0 h1 hn hj hd
      omega
  have e := advK_quiet s now s.n nd
  refine adv_quiet s now nd ?_
  cases ha : (s.al && decide (s.a ≤ now)) with
  | false => rfl
  | true =>
    rw [e] at h
    unfold advA at h
    have h : (if s.al && decide (s.a ≤ now) then ({ s with ck := now, al := false, ev := wI (s.ev + 1) } : WS) else { s with ck := now }).ev ≤ s.ev := h
    rw [ha, if_pos rfl] at h
    have h : wI (s.ev + 1) ≤ s.ev := h
    rw [wI_in (by omega) (by omega)] at h
    omega
theorem keep_on (s : WS) (m : Nat) (x : Ar) (h0 : 0 ≤ s.ev) (h1 : s.ev ≤ 900) (hn : s.n ≤ 32) (h : (doK s m x).1.ev = s.ev) (i : Nat) (hon : (s.q i).on = true) : ((doK s m x).1.q i).on = true := by
  have ge := adv_ev s x.t h0 (by omega) hn
  have same := fun h => adv_same s x.t h0 (by omega) hn h
  have pon : ∀ (t : WS) (k : Nat) (z : Src), z.on = true → (t.q i).on = true → ((t.putQ k z).q i).on = true := fun t k z hz ht => by
    show (if i = k then z else t.q i).on = true
    by_cases e : i = k
    · rw [if_pos e]; exact hz
    · rw [if_neg e]; exact ht
  unfold doK at h ⊢
  split at h
  · rename_i hc
    rw [if_pos hc]
    unfold actS at h ⊢
    split at h
    · rename_i hv
      rw [if_pos hv]
      have h : (adv s x.t).ev = s.ev := h
      refine pon _ _ ⟨true, false, 0⟩ rfl ?_
      rw [same (by omega)]
      exact hon
    · rename_i hv
      rw [if_neg hv]
      exact hon
  rename_i n1
  rw [if_neg n1]
  split at h
  · rename_i hc
    rw [if_pos hc]
    unfold deaS at h ⊢
    split at h
    · rename_i hv
      rw [if_pos hv]
      by_cases ho : ((adv s x.t).q x.s.toNat).on = true
      · rw [if_pos ho] at h
        have h : wI ((adv s x.t).ev + 1) = s.ev := h
        rw [wI_in (by omega) (by omega)] at h
        omega
      · rw [if_neg ho] at h ⊢
        have h : (adv s x.t).ev = s.ev := h
        show ((adv s x.t).q i).on = true
        rw [same (by omega)]
        exact hon
    · rename_i hv
      rw [if_neg hv]
      exact hon
  rename_i n2
  rw [if_neg n2]
  split at h
  · rename_i hc
    rw [if_pos hc]
    unfold pulS at h ⊢
    split at h
    · rename_i hv
      rw [if_pos hv]
      have pn : (pulQ (adv s x.t) x.s.toNat (wU (x.t + x.o))).n = s.n := (sm_pulQ _ _ _).n.trans (sm_adv _ _).n
      have pe : (pulQ (adv s x.t) x.s.toNat (wU (x.t + x.o))).ev = (adv s x.t).ev := by
        unfold pulQ
        split
        · split <;> rfl
        · rfl
      have pq : ((adv s x.t).q i).on = true → ((pulQ (adv s x.t) x.s.toNat (wU (x.t + x.o))).q i).on = true := fun ht => by
        unfold pulQ
        split
        · split
          · exact pon _ _ _ rfl ht
          · exact ht
        · exact pon _ _ _ rfl ht
      have h : (adv (pulQ (adv s x.t) x.s.toNat (wU (x.t + x.o))) x.t).ev = s.ev := h
      have g2 := adv_ev (pulQ (adv s x.t) x.s.toNat (wU (x.t + x.o))) x.t (by omega) (by omega) (by omega)
      show ((adv (pulQ (adv s x.t) x.s.toNat (wU (x.t + x.o))) x.t).q i).on = true
      rw [adv_same _ x.t (by omega) (by omega) (by omega) (by omega)]
      refine pq ?_
      rw [same (by omega)]
      exact hon
    · rename_i hv
      rw [if_neg hv]
      exact hon
  rename_i n3
  rw [if_neg n3]
  split at h
  · rename_i hc
    rw [if_pos hc]
    unfold salS at h ⊢
    split at h
    · rename_i hv
      rw [if_pos hv]
      have h : (adv { adv s x.t with al := true, a := x.o } x.t).ev = s.ev := h
      have g2 := adv_ev { adv s x.t with al := true, a := x.o } x.t (by show 0 ≤ (adv s x.t).ev; omega) (by show (adv s x.t).ev ≤ 1000; omega) (by show (adv s x.t).n ≤ 32; rw [(sm_adv s x.t).n]; exact hn)
      have g3 : (adv s x.t).ev ≤ (adv { adv s x.t with al := true, a := x.o } x.t).ev := g2.1
      show ((adv { adv s x.t with al := true, a := x.o } x.t).q i).on = true
      rw [adv_same { adv s x.t with al := true, a := x.o } x.t (by show 0 ≤ (adv s x.t).ev; omega) (by show (adv s x.t).ev ≤ 1000; omega) (by show (adv s x.t).n ≤ 32; rw [(sm_adv s x.t).n]; exact hn) (by show _ ≤ (adv s x.t).ev; omega)]
      show ((adv s x.t).q i).on = true
      rw [same (by omega)]
      exact hon
    · rename_i hv
      rw [if_neg hv]
      exact hon
  rename_i n4
  rw [if_neg n4]
  split at h
  · rename_i hc
    rw [if_pos hc]
    unfold avS at h ⊢
    split at h
    · rename_i hv
      rw [if_pos hv]
      have h : (adv s x.t).ev = s.ev := h
      show ((adv s x.t).q i).on = true
      rw [same (by omega)]
      exact hon
    · rename_i hv
      rw [if_neg hv]
      exact hon
  rename_i n5
  rw [if_neg n5]
  split at h
  · rename_i hc
    rw [if_pos hc]
    unfold armS at h ⊢
    split at h
    · rename_i hv
      rw [if_pos hv]
      split at h
      · rename_i hv2
        rw [if_pos hv2]
        have h : (adv s x.t).ev = s.ev := h
        show ((adv s x.t).q i).on = true
        rw [same (by omega)]
        exact hon
      · rename_i hv2
        rw [if_neg hv2]
        exact hon
    · rename_i hv
      rw [if_neg hv]
      exact hon
  · rename_i n6
    rw [if_neg n6]
    exact hon
/-- Some source is active. -/
theorem cntK_pos (s : WS) (k : Nat) : 0 < cntK s k ↔ ∃ i, i < k ∧ (s.q i).on = true := by
  induction k with
  | zero => exact ⟨fun h => by simp [cntK] at h, fun ⟨i, hi, _⟩ => by omega⟩
  | succ k ih =>
    unfold cntK
    by_cases h : (s.q k).on = true
    · rw [if_pos h]
      exact ⟨fun _ => ⟨k, by omega, h⟩, fun _ => by omega⟩
    · rw [if_neg h, ih]
      refine ⟨fun ⟨i, hi, ho⟩ => ⟨i, by omega, ho⟩, fun ⟨i, hi, ho⟩ => ⟨i, ?_, ho⟩⟩
      rcases Nat.lt_or_ge i k with h2 | h2
      · exact h2
      · have : i = k := by omega
        subst this
        exact absurd ho h
/-- Once an event has begun, it is seen for ever. -/
theorem begun_stays (s : WS) (m : Nat) (x : Ar) (e0 : Int) (h0 : 0 ≤ s.ev) (h1 : s.ev ≤ 900) (hn : s.n ≤ 32) (he : e0 ≤ s.ev) (h : s.ev ≠ e0 ∨ 0 < cnt s) : (doK s m x).1.ev ≠ e0 ∨ 0 < cnt (doK s m x).1 := by
  have G := do_grow s m x h0 (by omega) hn
  obtain ⟨g1, _, _, g4⟩ := G
  by_cases e : (doK s m x).1.ev = e0
  · right
    have e1 : s.ev = e0 := by omega
    rcases h with h | h
    · exact absurd e1 h
    · obtain ⟨i, hi, ho⟩ := (cntK_pos s s.n).1 h
      exact (cntK_pos _ _).2 ⟨i, by rw [g4]; exact hi, keep_on s m x h0 h1 hn (by omega) i ho⟩
  · exact .inl e
end Go.Proofs.Ytmhabdpnakbfpaa
