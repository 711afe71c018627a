/- What holds after some calls that are not raw. -/
import Derived.Test.YtmhabdpnakbfpaaTwo
namespace Go.Proofs.Ytmhabdpnakbfpaa
open Go.ChangeShapes Go.WideShapes Go.ChangeAt Go.RowKit Go.Deep Go.Joins

theorem adv_ck (s : WS) (now : Int) : (adv s now).ck = now := by
  have h : ∀ k, (advK s now k).ck = now := fun k => by
    induction k with
    | zero => rfl
    | succ k ih =>
      unfold advK
      split <;> exact ih
  show (advA (advK s now s.n) now).ck = now
  unfold advA
  split <;> exact h _
theorem adv_alm (s : WS) (now : Int) (h : (adv s now).al = true) : s.al = true ∧ (adv s now).a = s.a := by
  have al := advK_al s now s.n
  have h : (advA (advK s now s.n) now).al = true := h
  show _ ∧ (advA (advK s now s.n) now).a = s.a
  unfold advA at h ⊢
  split at h
  · cases h
  · rename_i hc
    rw [if_neg hc]
    exact ⟨al.1 ▸ h, al.2⟩
structure Iv (s : WS) (i : Nat) : Prop where
  e0 : 0 ≤ s.ev
  e1 : s.ev ≤ 6 * (i : Int)
  c : s.ck ≤ 9 * (i : Int)
  a : s.al = true → s.a ≤ s.ck + 11
/-- The clock and the alarm after a call. -/
theorem do_ca (s : WS) (m : Nat) (x : Ar) (ht : s.ck ≤ x.t) (ho : m = 5 → x.o ≤ x.t + 11) (ha : s.al = true → s.a ≤ s.ck + 11) :
    ((doK s m x).1.ck = s.ck ∨ (doK s m x).1.ck = x.t) ∧ ((doK s m x).1.al = true → (doK s m x).1.a ≤ (doK s m x).1.ck + 11) := by
  have A : ∀ t : WS, t.ck = x.t → (t.al = true → s.al = true ∧ t.a = s.a) → (t.ck = s.ck ∨ t.ck = x.t) ∧ (t.al = true → t.a ≤ t.ck + 11) := fun t h1 h2 => ⟨.inr h1, fun h => by
    obtain ⟨h3, h4⟩ := h2 h
    have := ha h3
    omega⟩
  have B : (s.ck = s.ck ∨ s.ck = x.t) ∧ (s.al = true → s.a ≤ s.ck + 11) := ⟨.inl rfl, ha⟩
  have ca := adv_ck s x.t
  have aa := adv_alm s x.t
  unfold doK
  split
  · unfold actS
    split
    · exact A ((adv s x.t).putQ x.s.toNat ⟨true, false, 0⟩) ca aa
    · exact B
  split
  · unfold deaS
    split
    · by_cases h : ((adv s x.t).q x.s.toNat).on = true
      · rw [if_pos h]
        exact A ((adv s x.t).endS x.s.toNat) ca aa
      · rw [if_neg h]
        exact A (adv s x.t) ca aa
    · exact B
  split
  · unfold pulS
    split
    · refine A _ (adv_ck _ _) (fun h => ?_)
      obtain ⟨h1, h2⟩ := adv_alm _ _ h
      have pa : (pulQ (adv s x.t) x.s.toNat (wU (x.t + x.o))).al = (adv s x.t).al ∧ (pulQ (adv s x.t) x.s.toNat (wU (x.t + x.o))).a = (adv s x.t).a := by
        unfold pulQ
        split
        · split <;> exact ⟨rfl, rfl⟩
        · exact ⟨rfl, rfl⟩
      rw [pa.1] at h1
      rw [pa.2] at h2
      obtain ⟨h3, h4⟩ := aa h1
      exact ⟨h3, h2.trans h4⟩
    · exact B
  split
  · rename_i h5
    unfold salS
    split
    · have c2 := adv_ck { adv s x.t with al := true, a := x.o } x.t
      refine ⟨.inr c2, fun h => ?_⟩
      obtain ⟨_, h2⟩ := adv_alm _ _ h
      have h2 : (adv { adv s x.t with al := true, a := x.o } x.t).a = x.o := h2
      have := ho h5
      show (adv { adv s x.t with al := true, a := x.o } x.t).a ≤ (adv { adv s x.t with al := true, a := x.o } x.t).ck + 11
      omega
    · exact B
  split
  · unfold avS
    split
    · exact A (adv s x.t) ca aa
    · exact B
  split
  · unfold armS
    split
    · split
      · exact A { adv s x.t with ar := true, rm := x.e } ca aa
      · exact B
    · exact B
  · exact B
theorem wU_in {x : Int} (h0 : 0 ≤ x) (h1 : x ≤ 1000000) : wU x = x := by unfold wU; rw [IntKind.wrap_u64]; omega
theorem iv_step {s : WS} {i : Nat} (h : Iv s i) (hi : i ≤ 50) (h0 : 0 ≤ s.ck) (hn : s.n ≤ 4) (c : Cl) (hr : c.raw = false) (ht : 0 ≤ c.t) (hh : 0 ≤ c.h) (k : Nat) :
    Iv (doK s (modOf c.k 9) (atR c k s.ck s.ev)).1 (i + 1) := by
  have t0 : 0 ≤ c.t.tmod 10 := Int.tmod_nonneg _ ht
  have t1 : c.t.tmod 10 < 10 := Int.tmod_lt_of_pos _ (by decide)
  have u0 : 0 ≤ c.h.tmod 12 := Int.tmod_nonneg _ hh
  have u1 : c.h.tmod 12 < 12 := Int.tmod_lt_of_pos _ (by decide)
  have c9 := h.c
  have xt : (atR c k s.ck s.ev).t = s.ck + c.t.tmod 10 := by
    unfold atR
    rw [if_neg (by rw [hr]; exact Bool.false_ne_true)]
    exact wU_in (by omega) (by omega)
  have xo : modOf c.k 9 = 5 → (atR c k s.ck s.ev).o ≤ (atR c k s.ck s.ev).t + 11 := fun h5 => by
    rw [xt]
    unfold atR
    rw [if_neg (by rw [hr]; exact Bool.false_ne_true)]
    show (if modOf c.k 9 = 5 then wU (wU (s.ck + c.t.tmod 10) + c.h.tmod 12) else c.h.tmod 12) ≤ _
    rw [if_pos h5, wU_in (show 0 ≤ s.ck + c.t.tmod 10 by omega) (by omega), wU_in (by omega) (by omega)]
    omega
  have G := do_grow s (modOf c.k 9) (atR c k s.ck s.ev) h.e0 (by have := h.e1; omega) (by omega)
  have C := do_ca s (modOf c.k 9) (atR c k s.ck s.ev) (by rw [xt]; omega) xo h.a
  obtain ⟨g1, g2, _, _⟩ := G
  have e0 := h.e0
  have e1 := h.e1
  refine ⟨by omega, by omega, ?_, C.2⟩
  rcases C.1 with e | e
  · rw [e]; omega
  · rw [e, xt]; omega
theorem Iv.loc {s : WS} {i : Nat} (h : Iv s i) (L X : Nat) (A : Option Addr) (c : Nat) : Iv (s.loc L X A c) i := ⟨h.e0, h.e1, h.c, h.a⟩
/-- Where nothing is due only the clock goes on. -/
theorem advK_quiet (s : WS) (now : Int) (k : Nat) (hd : ∀ j, j < k → dueB s now j = false) : advK s now k = { s with ck := now } := by
  induction k with
  | zero => rfl
  | succ k ih =>
    have ih := ih (fun j hj => hd j (by omega))
    have : dueB (advK s now k) now k = false := by
      rw [ih]
      exact hd k (by omega)
    unfold advK
    rw [this, if_neg Bool.false_ne_true]
    exact ih
theorem adv_quiet (s : WS) (now : Int) (hd : ∀ j, j < s.n → dueB s now j = false) (ha : (s.al && decide (s.a ≤ now)) = false) : adv s now = { s with ck := now } := by
  unfold adv
  rw [advK_quiet s now s.n hd]
  unfold advA
  show (if s.al && decide (s.a ≤ now) then _ else _) = _
  rw [ha, if_neg Bool.false_ne_true]
end Go.Proofs.Ytmhabdpnakbfpaa
