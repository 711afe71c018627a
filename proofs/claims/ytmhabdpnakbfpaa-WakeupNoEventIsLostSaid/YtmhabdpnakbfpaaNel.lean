/- An event that has begun: what follows a call that begins one. -/
import Derived.Test.YtmhabdpnakbfpaaAbp
namespace Go.Proofs.Ytmhabdpnakbfpaa
open Go.ChangeShapes Go.WideShapes Go.ChangeAt Go.RowKit Go.Deep Go.Joins

/-- An event has begun since the count was E. -/
structure Bg (s : WS) (E : Int) : Prop where
  e : E ≤ s.ev
  b : s.ev ≠ E ∨ 0 < cnt s
theorem Bg.loc {s : WS} {E : Int} (h : Bg s E) (L X : Nat) (A : Option Addr) (c : Nat) : Bg (s.loc L X A c) E :=
  ⟨h.e, by rw [show cnt (s.loc L X A c) = cnt s from cnt_q rfl rfl]; exact h.b⟩
theorem bg_step {s : WS} {E : Int} (h : Bg s E) (m : Nat) (x : Ar) (h0 : 0 ≤ s.ev) (h1 : s.ev ≤ 900) (hn : s.n ≤ 32) : Bg (doK s m x).1 E :=
  ⟨by have := (do_grow s m x h0 (by omega) hn).1; have := h.e; omega, begun_stays s m x E h0 h1 hn h.e h.b⟩
theorem av_do (s : WS) (now : Int) (h : vtB s now = true) : (doK s 6 ⟨0, now, 0, 0⟩).1 = adv s now := by
  show (avS s now).1 = _
  unfold avS
  rw [if_pos h]
theorem bg_adv {s : WS} {E : Int} (h : Bg s E) (now : Int) (hv : vtB s now = true) (h0 : 0 ≤ s.ev) (h1 : s.ev ≤ 900) (hn : s.n ≤ 32) : Bg (adv s now) E := by
  rw [← av_do s now hv]
  exact bg_step h 6 _ h0 h1 hn
theorem arm_busy {s : WS} {E : Int} (h : Bg s E) (now : Int) (hc : s.ck ≤ now) (hn1 : now ≤ 100000) (h0 : 0 ≤ s.ev) (h1 : s.ev ≤ 900) (hn : s.n ≤ 32) : armS s E now = (s, 17) := by
  have v := vt_ok hc hn1
  have B := bg_adv h now v h0 h1 hn
  unfold armS
  rw [if_pos v, if_neg (fun q => by rcases B.b with b | b <;> omega)]
theorem cnt_on {s : WS} {p : Nat} (hp : p < s.n) (h : (s.q p).on = true) : 0 < cnt s := (cntK_pos s s.n).2 ⟨p, hp, h⟩
theorem off_of_cnt {s : WS} (h : cnt s = 0) (p : Nat) (hp : p < s.n) : (s.q p).on = false := by
  cases q : (s.q p).on with
  | false => rfl
  | true => have := cnt_on hp q; omega
theorem adv_e {s : WS} (now : Int) (h0 : 0 ≤ s.ev) (h1 : s.ev ≤ 800) (hn : s.n ≤ 4) : s.ev ≤ (adv s now).ev ∧ (adv s now).ev ≤ s.ev + 5 := by
  have := adv_ev s now h0 (by omega) (by omega)
  omega
/-- What the beginning of an event leaves. -/
structure Bgn (s t : WS) (E C : Int) : Prop where
  b : Bg t E
  ck : t.ck = C
  e0 : 0 ≤ t.ev
  e1 : t.ev ≤ s.ev + 12
  n : t.n = s.n
  a : t.al = true → t.a ≤ C + 11
  sm : Sm s t
theorem begin_act {s : WS} {p : Nat} {C : Int} (hp : p < s.n) (hn : s.n ≤ 4) (hc : s.ck ≤ C) (h1 : C ≤ 10000) (e0 : 0 ≤ s.ev) (e1 : s.ev ≤ 800) (ha : s.al = true → s.a ≤ C + 11) : (actS s p C).2 = 0 ∧ Bgn s (actS s p C).1 s.ev C := by
  have E : actS s p C = ((adv s C).putQ p ⟨true, false, 0⟩, 0) := by unfold actS; rw [if_pos (v_ok hp hc (by omega))]; rfl
  have SM := sm_act s p C
  have A := adv_e (s := s) C e0 e1 hn
  rw [E] at SM ⊢
  refine ⟨rfl, ⟨A.1, .inr (cnt_on (p := p) ?_ ?_)⟩, adv_ck s C, ?_, ?_, SM.n, ?_, SM⟩
  · show p < (adv s C).n
    rw [(sm_adv s C).n]; exact hp
  · show (if p = p then (⟨true, false, 0⟩ : Src) else _).on = true
    rw [if_pos rfl]
  · show 0 ≤ (adv s C).ev; omega
  · show (adv s C).ev ≤ _; omega
  · intro h
    have := adv_alm s C h
    exact this.2 ▸ ha this.1
theorem begin_pul {s : WS} {p : Nat} {C h : Int} (hz : cnt s = 0) (hp : p < s.n) (hn : s.n ≤ 4) (hc : s.ck ≤ C) (hC0 : 0 ≤ C) (h1 : C ≤ 10000) (e0 : 0 ≤ s.ev) (e1 : s.ev ≤ 800) (hh0 : 0 ≤ h) (hh : h ≤ 10) (ha : s.al = true → s.a ≤ C + 11) : (pulS s p C h).2 = 0 ∧ Bgn s (pulS s p C h).1 s.ev C := by
  have Q : pulQ (adv s C) p (wU (C + h)) = (adv s C).putQ p ⟨true, true, wU (C + h)⟩ := by
    unfold pulQ
    rw [adv_off s C p (off_of_cnt hz p hp)]
    rfl
  have E : pulS s p C h = (adv ((adv s C).putQ p ⟨true, true, wU (C + h)⟩) C, 0) := by
    unfold pulS
    rw [v_ok hp hc (by omega), decide_eq_true (show h ≤ 1152921504606846976 by omega), ← Q]; rfl
  have SM := sm_pul s p C h
  have A := adv_e (s := s) C e0 e1 hn
  rw [E] at SM ⊢
  have nn : ((adv s C).putQ p ⟨true, true, wU (C + h)⟩).n = s.n := (sm_adv s C).n
  have B : Bg ((adv s C).putQ p ⟨true, true, wU (C + h)⟩) s.ev := ⟨A.1, .inr (cnt_on (p := p) (by rw [nn]; exact hp) (by show (if p = p then (⟨true, true, wU (C + h)⟩ : Src) else _).on = true; rw [if_pos rfl]))⟩
  have e0' : 0 ≤ ((adv s C).putQ p ⟨true, true, wU (C + h)⟩).ev := by show 0 ≤ (adv s C).ev; omega
  have e1' : ((adv s C).putQ p ⟨true, true, wU (C + h)⟩).ev ≤ s.ev + 5 := A.2
  have al' : ((adv s C).putQ p ⟨true, true, wU (C + h)⟩).al = true → ((adv s C).putQ p ⟨true, true, wU (C + h)⟩).a ≤ C + 11 := fun q => by
    have := adv_alm s C q
    exact this.2 ▸ ha this.1
  have ckv : vtB ((adv s C).putQ p ⟨true, true, wU (C + h)⟩) C = true := vt_ok (by show (adv s C).ck ≤ C; rw [adv_ck]; omega) (by omega)
  generalize (adv s C).putQ p ⟨true, true, wU (C + h)⟩ = v at *
  have A2 := adv_ev v C e0' (by omega) (by omega)
  have B2 := bg_adv B C ckv e0' (by omega) (by omega)
  refine ⟨rfl, B2, adv_ck v C, by show 0 ≤ (adv v C).ev; omega, by show (adv v C).ev ≤ _; omega, SM.n, ?_, SM⟩
  intro q
  have := adv_alm v C q
  exact this.2 ▸ al' this.1
theorem begin_sal {s : WS} {C : Int} (hn : s.n ≤ 4) (hc : s.ck ≤ C) (h1 : C ≤ 10000) (e0 : 0 ≤ s.ev) (e1 : s.ev ≤ 800) : (salS s C C).2 = 0 ∧ Bgn s (salS s C C).1 s.ev C := by
  have E : salS s C C = (adv { adv s C with al := true, a := C } C, 0) := by
    unfold salS
    rw [vt_ok hc (by omega), decide_eq_true (show C ≤ 1152921504606846976 by omega)]; rfl
  have SM := sm_sal s C C
  have A := adv_e (s := s) C e0 e1 hn
  rw [E] at SM ⊢
  have nn : ({ adv s C with al := true, a := C } : WS).n = s.n := (sm_adv s C).n
  have e0' : 0 ≤ ({ adv s C with al := true, a := C } : WS).ev := by show 0 ≤ (adv s C).ev; omega
  have e1' : ({ adv s C with al := true, a := C } : WS).ev ≤ s.ev + 5 := A.2
  have e2' : s.ev ≤ ({ adv s C with al := true, a := C } : WS).ev := A.1
  have hal : ({ adv s C with al := true, a := C } : WS).al = true := rfl
  have haa : ({ adv s C with al := true, a := C } : WS).a = C := rfl
  generalize ({ adv s C with al := true, a := C } : WS) = v at *
  have A2 := adv_ev v C e0' (by omega) (by omega)
  have K := advK_ev v C v.n e0' (by omega) (by omega)
  have G : (adv v C).ev = (advK v C v.n).ev + 1 := by
    show (advA (advK v C v.n) C).ev = _
    unfold advA
    have q := advK_al v C v.n
    rw [if_pos (by rw [q.1, q.2, hal, haa]; exact decide_eq_true (Int.le_refl _))]
    exact wI_in (by omega) (by omega)
  refine ⟨rfl, ⟨by show s.ev ≤ (adv v C).ev; omega, .inl (by show (adv v C).ev ≠ s.ev; omega)⟩, adv_ck v C, by show 0 ≤ (adv v C).ev; omega, by show (adv v C).ev ≤ _; omega, SM.n, ?_, SM⟩
  intro q
  have D := (adv_done v C).2
  rw [q] at D
  have := of_decide_eq_false (p := (adv v C).a ≤ C) (by simpa using D)
  have e := (adv_alm v C q).2
  rw [e, haa] at this
  omega
/-- The clock after a call. -/
theorem do_now (s : WS) (m : Nat) (x : Ar) : ((doK s m x).2 = 0 → m < 8 → (doK s m x).1.ck = x.t) ∧ ((doK s m x).2 ≠ 0 ∨ 8 ≤ m → (doK s m x).1.ck = s.ck) := by
  unfold doK
  split
  · unfold actS
    split
    · exact ⟨fun _ _ => adv_ck s x.t, fun h => by rcases h with h | h; exact absurd rfl h; omega⟩
    · exact ⟨fun h => (by cases h), fun _ => rfl⟩
  split
  · unfold deaS
    split
    · refine ⟨fun _ _ => ?_, fun h => by rcases h with h | h; exact absurd rfl h; omega⟩
      show (if ((adv s x.t).q x.s.toNat).on then _ else _ : WS).ck = _
      split <;> exact adv_ck s x.t
    · exact ⟨fun h => (by cases h), fun _ => rfl⟩
  split
  · unfold pulS
    split
    · exact ⟨fun _ _ => adv_ck _ x.t, fun h => by rcases h with h | h; exact absurd rfl h; omega⟩
    · exact ⟨fun h => (by cases h), fun _ => rfl⟩
  split
  · unfold salS
    split
    · exact ⟨fun _ _ => adv_ck _ x.t, fun h => by rcases h with h | h; exact absurd rfl h; omega⟩
    · exact ⟨fun h => (by cases h), fun _ => rfl⟩
  split
  · unfold avS
    split
    · exact ⟨fun _ _ => adv_ck _ x.t, fun h => by rcases h with h | h; exact absurd rfl h; omega⟩
    · exact ⟨fun h => (by cases h), fun _ => rfl⟩
  split
  · unfold armS
    split
    · split
      · exact ⟨fun _ _ => adv_ck s x.t, fun h => by rcases h with h | h; exact absurd rfl h; omega⟩
      · exact ⟨fun h => (by cases h), fun _ => rfl⟩
    · exact ⟨fun h => (by cases h), fun _ => rfl⟩
  · exact ⟨fun _ h => by omega, fun _ => rfl⟩
theorem do_ck0 (s : WS) (m : Nat) (x : Ar) (h : 0 ≤ s.ck) (hx : 0 ≤ x.t) : 0 ≤ (doK s m x).1.ck := by
  have D := do_now s m x
  by_cases q : (doK s m x).2 = 0 ∧ m < 8
  · rw [D.1 q.1 q.2]; exact hx
  · rw [D.2 (by by_cases e : (doK s m x).2 = 0; exact .inr (by omega); exact .inl e)]; exact h
end Go.Proofs.Ytmhabdpnakbfpaa
