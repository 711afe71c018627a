/- What MustAbort says after the sources were armed, call by call. -/
import Derived.Test.YtmhabdpnakbfpaaKar
namespace Go.Proofs.Ytmhabdpnakbfpaa
open Go.ChangeShapes Go.WideShapes Go.ChangeAt Go.RowKit Go.Deep Go.Joins

theorem cntK_q {s t : WS} (h : t.q = s.q) (k : Nat) : cntK t k = cntK s k := by
  induction k with
  | zero => rfl
  | succ k ih =>
    unfold cntK
    rw [ih, h]
theorem cnt_q {s t : WS} (h : t.q = s.q) (hn : t.n = s.n) : cnt t = cnt s := by
  unfold cnt
  rw [hn, cntK_q h]
/-- E: the count at Arm; b: an event has begun since; a: still armed. -/
structure Ab (s : WS) (E : Int) (b a : Bool) : Prop where
  he : E ≤ s.ev
  hb : b = ((s.ev != E) || decide (0 < cnt s))
  ha : s.ar = a
  hm : a = true → s.rm = E
theorem Ab.loc {s : WS} {E : Int} {b a : Bool} (h : Ab s E b a) (L X : Nat) (A : Option Addr) (c : Nat) : Ab (s.loc L X A c) E b a := ⟨h.he, h.hb.trans (by
  rw [show cnt (s.loc L X A c) = cnt s from cnt_q rfl rfl]
  rfl), h.ha, h.hm⟩
theorem Ab.mab {s : WS} {E : Int} {b a : Bool} (h : Ab s E b a) : mab s = (a && b) := by
  unfold Ytmhabdpnakbfpaa.mab
  rw [h.ha, h.hb]
  cases a with
  | false => rfl
  | true => rw [h.hm rfl]
theorem ab_step {s : WS} {E : Int} {b a : Bool} (h : Ab s E b a) (m : Nat) (x : Ar) (hm : m < 9) (h7 : m ≠ 7) (h0 : 0 ≤ s.ev) (h1 : s.ev ≤ 900) (hn : s.n ≤ 32) :
    Ab (doK s m x).1 E (b || ((doK s m x).1.ev != E) || decide (0 < cnt (doK s m x).1)) (a && decide (m ≠ 8)) := by
  have G := do_grow s m x h0 (by omega) hn
  obtain ⟨g1, _, _, _⟩ := G
  have he := h.he
  refine ⟨by omega, ?_, ?_, ?_⟩
  · have hq := h.hb
    cases hb : b with
    | false => rw [Bool.false_or]
    | true =>
      have B := begun_stays s m x E h0 h1 hn he (by
        rw [hb] at hq
        rcases Bool.or_eq_true_iff.1 hq.symm with q | q
        · exact .inl (bne_iff_ne.1 q)
        · exact .inr (of_decide_eq_true q))
      rw [Bool.true_or, Bool.true_or]
      symm
      rcases B with q | q
      · rw [bne_iff_ne.2 q]; rfl
      · rw [decide_eq_true q, Bool.or_true]
  · by_cases h8 : m = 8
    · subst h8
      rw [decide_eq_false (by omega), Bool.and_false]
      rfl
    · rw [decide_eq_true h8, Bool.and_true]
      exact (keep_ar s m x (by omega)).1.trans h.ha
  · intro ht
    rw [Bool.and_eq_true] at ht
    have h8 := of_decide_eq_true ht.2
    exact (keep_ar s m x (by omega)).2.trans (h.hm ht.1)
theorem ab_start {s : WS} (ck : Int) (h : cnt s = 0) : Ab { s with ck := ck, ar := true, rm := s.ev } s.ev false true := ⟨Int.le_refl _, by
  have h : cnt { s with ck := ck, ar := true, rm := s.ev } = 0 := (cnt_q (s := s) (t := { s with ck := ck, ar := true, rm := s.ev }) rfl rfl).trans h
  rw [h]
  simp, rfl, fun _ => rfl⟩
/-- An alarm that still stands after a call at now lies ahead. -/
theorem adv_ahead (s : WS) (now : Int) : ((adv s now).al && decide ((adv s now).a ≤ now)) = false := by
  show ((advA (advK s now s.n) now).al && decide ((advA (advK s now s.n) now).a ≤ now)) = false
  unfold advA
  split
  · rfl
  · rename_i h
    exact Bool.eq_false_iff.2 h
theorem dea_ahead {s : WS} {j : Nat} (hj : j < s.n) (C : Int) (hc : s.ck ≤ C) (h1 : C ≤ 10000) : ((deaS s j C).1.al && decide ((deaS s j C).1.a ≤ C)) = false := by
  have v : vB s j C = true := by
    unfold vB
    rw [vt_ok hc (by omega), decide_eq_true (by omega), decide_eq_true (by omega)]
    rfl
  unfold deaS
  rw [if_pos v]
  show (((if ((adv s C).q (j : Int).toNat).on then _ else _ : WS)).al && _) = false
  split <;> exact adv_ahead s C
/-- Where nothing is due and no source is active, Arm at the clock succeeds. -/
theorem arm_idle {s : WS} (h0 : 0 ≤ s.ck) (h1 : s.ck ≤ 1000000) (hd : ∀ j, j < s.n → (s.q j).on = false) (ha : (s.al && decide (s.a ≤ s.ck)) = false) : armS s s.ev s.ck = ({ s with ar := true, rm := s.ev }, 0) := by
  have q : adv s s.ck = { s with ck := s.ck } := adv_quiet s s.ck (fun j hj => by unfold dueB; rw [hd j hj]; rfl) ha
  have c : cnt s = 0 := cntK_off s s.n hd
  have v : vtB s s.ck = true := by unfold vtB; rw [decide_eq_true (by omega), decide_eq_true (by omega)]; rfl
  unfold armS
  rw [v, q, if_pos rfl, if_pos ⟨rfl, c⟩]
/-- iv_step with any count in the arguments. -/
theorem iv_step_at {s : WS} {i : Nat} (h : Iv s i) (hi : i ≤ 50) (h0 : 0 ≤ s.ck) (hn : s.n ≤ 4) (c : Cl) (hr : c.raw = false) (ht : 0 ≤ c.t) (hh : 0 ≤ c.h) (k : Nat) (ev : Int) :
    Iv (doK s (modOf c.k 9) (atR c k s.ck ev)).1 (i + 1) := by
  have t0 : 0 ≤ c.t.tmod 10 := Int.tmod_nonneg _ ht
  have t1 : c.t.tmod 10 < 10 := Int.tmod_lt_of_pos _ (by decide)
  have u0 : 0 ≤ c.h.tmod 12 := Int.tmod_nonneg _ hh
  have u1 : c.h.tmod 12 < 12 := Int.tmod_lt_of_pos _ (by decide)
  have c9 := h.c
  have xt : (atR c k s.ck ev).t = s.ck + c.t.tmod 10 := by
    unfold atR
    rw [if_neg (by rw [hr]; exact Bool.false_ne_true)]
    exact wU_in (by omega) (by omega)
  have xo : modOf c.k 9 = 5 → (atR c k s.ck ev).o ≤ (atR c k s.ck ev).t + 11 := fun h5 => by
    rw [xt]
    unfold atR
    rw [if_neg (by rw [hr]; exact Bool.false_ne_true)]
    show (if modOf c.k 9 = 5 then wU (wU (s.ck + c.t.tmod 10) + c.h.tmod 12) else c.h.tmod 12) ≤ _
    rw [if_pos h5, wU_in (show 0 ≤ s.ck + c.t.tmod 10 by omega) (by omega), wU_in (by omega) (by omega)]
    omega
  have G := do_grow s (modOf c.k 9) (atR c k s.ck ev) h.e0 (by have := h.e1; omega) (by omega)
  have C := do_ca s (modOf c.k 9) (atR c k s.ck ev) (by rw [xt]; omega) xo h.a
  obtain ⟨g1, g2, _, _⟩ := G
  have e0 := h.e0
  have e1 := h.e1
  refine ⟨by omega, by omega, ?_, C.2⟩
  rcases C.1 with e | e
  · rw [e]; omega
  · rw [e, xt]; omega
end Go.Proofs.Ytmhabdpnakbfpaa
