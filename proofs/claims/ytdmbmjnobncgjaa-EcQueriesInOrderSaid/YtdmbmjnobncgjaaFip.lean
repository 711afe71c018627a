/- finish on the states: a write and a read end in time with the right result. -/
import Derived.Test.YtdmbmjnobncgjaaTmo
namespace Go.Proofs.Ytdmbmjnobncgjaa

def finP : Nat → Nat → TrS → EcS → Int → (Nat → Int) → Nat → TrS × EcS × Int × Bool
  | 0, _, t, s, n, _, _ => (t, s, n, false)
  | k + 1, i, t, s, n, Z, len => if 5 ≤ (sStep t s n).1.st then ((sStep t s n).1, (sStep t s n).2, n, true) else finP k (i + 1) (sStep t s n).1 (sStep t s n).2 (n + if i < len ∧ i < 40 then Z i % 5 else 1) Z len
/-- The phases of a transaction that waits: so many, the last one P, and what holds at the end. -/
structure Chain (P : Nat) (d : Int) (Q : Nat → TrS → EcS → Prop) (E : TrS → EcS → Prop) : Prop where
  us : ∀ p t s, Q p t s → t.st < 5 ∧ s.us = true
  ck : ∀ p t s c, Q p t s → Q p t { s with ck := c }
  go : ∀ p t s n, Q p t s → s.ck ≤ n → s.du ≤ n → n < 1000000 → (p < P ∧ ∃ t' s', sAct t s n = (true, t', s') ∧ Q (p + 1) t' s' ∧ s'.ck = n ∧ s'.du = n + d) ∨ ∃ t' s', sAct t s n = (true, t', s') ∧ E t' s' ∧ t'.st = 5 ∧ s'.ck = n
theorem chain_run {P : Nat} {d : Int} {Q : Nat → TrS → EcS → Prop} {E : TrS → EcS → Prop} (C : Chain P d Q E) (n : Int) (hn : n < 1000000) : ∀ (m p k : Nat) (t : TrS) (s : EcS), P - p ≤ m → p ≤ P → m + 2 ≤ k → Q p t s → s.ck ≤ n →
    (∃ t' s', sRun k t s n = (t', s') ∧ E t' s' ∧ t'.st = 5 ∧ s'.ck = n) ∨ ∃ p' t' s', p' ≤ P ∧ sRun k t s n = (t', s') ∧ Q p' t' s' ∧ s'.ck = n ∧ n < s'.du ∧ ((p' = p ∧ s'.du = s.du) ∨ (p + 1 ≤ p' ∧ s.du ≤ n ∧ s'.du = n + d)) := by
  intro m
  induction m with
  | zero =>
    intro p k t s h1 h2 h3 hq hck
    obtain ⟨k, rfl⟩ : ∃ j, k = j + 2 := ⟨k - 2, by omega⟩
    by_cases hd : s.du ≤ n
    · rcases C.go p t s n hq hck hd hn with ⟨hp, _⟩ | ⟨t', s', ha, he, h5, hc⟩
      · omega
      · refine .inl ⟨t', s', ?_, he, h5, hc⟩
        rw [run_more (k + 1) t t' s s' n (C.us p t s hq).1 ha, run_end _ _ _ _ (by omega)]
    · refine .inr ⟨p, t, { s with ck := max s.ck n }, h2, run_busy (k + 1) t s n (C.us p t s hq).1 (C.us p t s hq).2 (by omega), C.ck p t s _ hq, by show max s.ck n = n; omega, by show n < s.du; omega, .inl ⟨rfl, rfl⟩⟩
  | succ m ih =>
    intro p k t s h1 h2 h3 hq hck
    obtain ⟨k, rfl⟩ : ∃ j, k = j + 1 := ⟨k - 1, by omega⟩
    by_cases hd : s.du ≤ n
    · rcases C.go p t s n hq hck hd hn with ⟨hp, t', s', ha, hq', hc, hd'⟩ | ⟨t', s', ha, he, h5, hc⟩
      · rw [run_more k t t' s s' n (C.us p t s hq).1 ha]
        rcases ih (p + 1) k t' s' (by omega) (by omega) (by omega) hq' (by omega) with h | ⟨p2, t2, s2, e1, e2, e3, e4, e5, e6⟩
        · exact .inl h
        · refine .inr ⟨p2, t2, s2, e1, e2, e3, e4, e5, .inr ⟨?_, hd, ?_⟩⟩
          · rcases e6 with e6 | e6 <;> omega
          · rcases e6 with e6 | e6 <;> omega
      · refine .inl ⟨t', s', ?_, he, h5, hc⟩
        rw [run_more k t t' s s' n (C.us p t s hq).1 ha, run_end _ _ _ _ (by omega)]
    · refine .inr ⟨p, t, { s with ck := max s.ck n }, h2, run_busy k t s n (C.us p t s hq).1 (C.us p t s hq).2 (by omega), C.ck p t s _ hq, by show max s.ck n = n; omega, by show n < s.du; omega, .inl ⟨rfl, rfl⟩⟩
/-- A Step whose loop has ended or waits before the deadline. -/
theorem step_of_run {t : TrS} {s : EcS} {n : Int} {r : TrS × EcS} (h : sRun 18 t s n = r) (hd : n < r.1.dl ∨ 5 ≤ r.1.st) : sStep t s n = r := by
  unfold sStep
  rw [h]
  show (if r.1.st < 5 ∧ r.1.dl ≤ n then _ else r) = r
  rw [if_neg (fun x => by omega)]
theorem sRun_dl (k : Nat) (t : TrS) (s : EcS) (n : Int) : (sRun k t s n).1.dl = t.dl := by
  induction k generalizing t s with
  | zero => rfl
  | succ k ih =>
    show (if t.st < 5 then _ else _ : TrS × EcS).1.dl = _
    split
    · split
      · rw [ih]; exact (act_keep t s n).2.2.2.1
      · exact (act_keep t s n).2.2.2.1
    · rfl
theorem chain_fin {P : Nat} {d : Int} {Q : Nat → TrS → EcS → Prop} {E : TrS → EcS → Prop} (C : Chain P d Q E) (hP : P ≤ 2) (hd0 : 0 ≤ d) (hd : d < 8) (Z : Nat → Int) (len : Nat) (n0 : Int) (h0 : 0 ≤ n0) (hn0 : n0 < 100000) :
    ∀ (k i p : Nat) (t : TrS) (s : EcS) (n : Int), i + k = 200 → p ≤ P → Q p t s → s.ck ≤ n → n ≤ n0 + 4 * i → t.dl = n0 + 1000 → 8 * (P - p : Nat) + max 0 (s.du - n) + max 0 ((i : Int) - 40) ≤ 32 →
    ∃ t' s' n', finP k i t s n Z len = (t', s', n', true) ∧ E t' s' ∧ t'.st = 5 ∧ s'.ck = n' ∧ n' ≤ n0 + 800 ∧ n ≤ n' := by
  intro k
  induction k with
  | zero => intro i p t s n h1 h2 hq hck hn hdl hphi; omega
  | succ k ih =>
    intro i p t s n h1 h2 hq hck hn hdl hphi
    rcases chain_run C n (by omega) (P - p) p 18 t s (Nat.le_refl _) h2 (by omega) hq hck with ⟨t', s', hr, he, h5, hc⟩ | ⟨p', t', s', hp', hr, hq', hc, hdu, hph⟩
    · have hs := step_of_run hr (.inr (by show 5 ≤ t'.st; omega))
      refine ⟨t', s', n, ?_, he, h5, hc, by omega, by omega⟩
      show (if 5 ≤ (sStep t s n).1.st then _ else _) = _
      rw [hs, if_pos (by show 5 ≤ t'.st; omega)]
    · have hdl' : t'.dl = n0 + 1000 := by
        have := sRun_dl 18 t s n
        rw [hr] at this
        exact this.trans hdl
      have hs := step_of_run hr (.inl (by show n < t'.dl; omega))
      have hst := (C.us p' t' s' hq').1
      have hx : ∀ x : Int, x = (if i < len ∧ i < 40 then Z i % 5 else 1) → 0 ≤ x ∧ x ≤ 4 ∧ (40 ≤ i → 1 ≤ x) := by
        intro x hx
        subst hx
        split
        · next h =>
          have := Int.emod_nonneg (Z i) (show (5 : Int) ≠ 0 by omega)
          have := Int.emod_lt_of_pos (Z i) (show (0 : Int) < 5 by omega)
          omega
        · omega
      obtain ⟨x0, x4, x1⟩ := hx _ rfl
      have e : finP (k + 1) i t s n Z len = finP k (i + 1) t' s' (n + if i < len ∧ i < 40 then Z i % 5 else 1) Z len := by
        show (if 5 ≤ (sStep t s n).1.st then _ else _) = _
        rw [hs, if_neg (by show ¬ 5 ≤ t'.st; omega)]
      rw [e]
      generalize (if i < len ∧ i < 40 then Z i % 5 else 1) = x at *
      have ip : 8 * (P - p' : Nat) + max 0 (s'.du - (n + x)) + max 0 (((i + 1 : Nat) : Int) - 40) ≤ 32 := by
        rcases hph with ⟨rfl, hh⟩ | ⟨hh, hh2, hh3⟩
        · rw [hh]; omega
        · omega
      obtain ⟨t2, s2, n2, f1, f2, f3, f4, f5, f6⟩ := ih (i + 1) p' t' s' (n + x) (by omega) hp' hq' (by omega) (by omega) hdl' ip
      exact ⟨t2, s2, n2, f1, f2, f3, f4, f5, by omega⟩
theorem chain_all {P : Nat} {d : Int} {Q : Nat → TrS → EcS → Prop} {E : TrS → EcS → Prop} (C : Chain P d Q E) (hP : P ≤ 2) (hd0 : 0 ≤ d) (hd : d < 8) (Z : Nat → Int) (len : Nat) (n0 : Int) (h0 : 0 ≤ n0) (hn0 : n0 < 100000)
    (t t1 : TrS) (s s1 : EcS) (hst : t.st < 5) (h1 : sAct t s n0 = (true, t1, s1)) (hq : Q 0 t1 s1) (hck : s1.ck = n0) (hdu : s1.du = n0 + d) (hdl : t.dl = n0 + 1000) :
    ∃ t' s' n', finP 200 0 t s n0 Z len = (t', s', n', true) ∧ E t' s' ∧ t'.st = 5 ∧ s'.ck = n' ∧ n' ≤ n0 + 800 ∧ n0 ≤ n' := by
  have hm := run_more 17 t t1 s s1 n0 hst h1
  rcases chain_run C n0 (by omega) P 0 17 t1 s1 (by omega) (by omega) (by omega) hq (by omega) with ⟨t', s', hr, he, h5, hc⟩ | ⟨p', t', s', hp', hr, hq', hc, hdu', hph⟩
  · have hs := step_of_run (hm.trans hr) (.inr (by show 5 ≤ t'.st; omega))
    refine ⟨t', s', n0, ?_, he, h5, hc, by omega, by omega⟩
    show (if 5 ≤ (sStep t s n0).1.st then _ else _) = _
    rw [hs, if_pos (by show 5 ≤ t'.st; omega)]
  · have hdl' : t'.dl = n0 + 1000 := by
      have := sRun_dl 18 t s n0
      rw [hm, hr] at this
      exact this.trans hdl
    have hs := step_of_run (hm.trans hr) (.inl (by show n0 < t'.dl; omega))
    have hst' := (C.us p' t' s' hq').1
    have hx : ∀ x : Int, x = (if 0 < len ∧ 0 < 40 then Z 0 % 5 else 1) → 0 ≤ x ∧ x ≤ 4 := by
      intro x hx
      subst hx
      split
      · have := Int.emod_nonneg (Z 0) (show (5 : Int) ≠ 0 by omega)
        have := Int.emod_lt_of_pos (Z 0) (show (0 : Int) < 5 by omega)
        omega
      · omega
    obtain ⟨x0, x4⟩ := hx _ rfl
    have e : finP 200 0 t s n0 Z len = finP 199 1 t' s' (n0 + if 0 < len ∧ 0 < 40 then Z 0 % 5 else 1) Z len := by
      show (if 5 ≤ (sStep t s n0).1.st then _ else _) = _
      rw [hs, if_neg (by show ¬ 5 ≤ t'.st; omega)]
    rw [e]
    generalize (if 0 < len ∧ 0 < 40 then Z 0 % 5 else 1) = x at *
    obtain ⟨t2, s2, n2, f1, f2, f3, f4, f5, f6⟩ := chain_fin C hP hd0 hd Z len n0 h0 hn0 199 1 p' t' s' (n0 + x) (by omega) hp' hq' (by omega) (by omega) hdl' (by omega)
    exact ⟨t2, s2, n2, f1, f2, f3, f4, f5, by omega⟩
/-- A controller that does nothing. -/
def Rest (s : EcS) (d : Int) (R : Nat → Int) : Prop := s.us = false ∧ s.un = false ∧ s.dl = d ∧ s.reg = R
def Qw (ad v d : Int) (R : Nat → Int) (p : Nat) (t : TrS) (s : EcS) : Prop :=
  t.cd = 129 ∧ t.ad = ad ∧ t.dt = v ∧ s.us = true ∧ s.un = false ∧ s.dl = d ∧ s.reg = R ∧ ((p = 0 ∧ t.st = 1 ∧ s.cm = true ∧ s.vl = 129) ∨ (p = 1 ∧ t.st = 2 ∧ s.cm = false ∧ s.vl = ad ∧ s.cd = 129 ∧ s.ad = false) ∨ (p = 2 ∧ t.st = 4 ∧ s.cm = false ∧ s.vl = v ∧ s.cd = 129 ∧ s.ad = true ∧ s.aa = ad))
def Qr (ad d : Int) (R : Nat → Int) (p : Nat) (t : TrS) (s : EcS) : Prop :=
  t.cd = 128 ∧ t.ad = ad ∧ s.us = true ∧ s.un = false ∧ s.dl = d ∧ s.reg = R ∧ ((p = 0 ∧ t.st = 1 ∧ s.cm = true ∧ s.vl = 128) ∨ (p = 1 ∧ t.st = 3 ∧ s.cm = false ∧ s.vl = ad ∧ s.cd = 128))
theorem adv_due {s : EcS} {n : Int} (hu : s.us = true) (hck : s.ck ≤ n) (hd : s.du ≤ n) : sAdv s n = if s.cm = true then sStart { s with ck := n, us := false } s.vl else sTake { s with ck := n, us := false } s.vl := by
  unfold sAdv
  rw [show max s.ck n = n by omega, if_neg (by simp [hu]; omega)]
theorem lat_small {a d : Int} (h0 : a < 1000000) (hd : d < 8) : lat a d = a + d := by unfold lat; rw [if_pos (by omega)]
theorem chain_w (ad v d : Int) (R : Nat → Int) (hd : d < 8) : Chain 2 d (Qw ad v d R) (fun _ s => Rest s d (updR R ad.toNat v)) := by
  refine ⟨fun p t s h => ?_, fun p t s c h => h, fun p t s n h hck hdu hn => ?_⟩
  · obtain ⟨h1, h2, h3, h4, h5, h6, h7, h8⟩ := h
    exact ⟨by omega, h4⟩
  · obtain ⟨h1, h2, h3, h4, h5, h6, h7, h8⟩ := h
    have ha := adv_due h4 hck hdu
    rcases h8 with ⟨rfl, a1, a2, a3⟩ | ⟨rfl, a1, a2, a3, a4, a5⟩ | ⟨rfl, a1, a2, a3, a4, a5, a6⟩
    · have ha : sAdv s n = { s with ck := n, us := false, cd := s.vl, ad := false } := ha.trans (by rw [if_pos a2]; unfold sStart; rw [if_pos (.inr a3)])
      refine .inl ⟨by omega, { t with st := 2 }, { s with ck := n, us := true, cm := false, vl := t.ad, du := lat n s.dl, cd := s.vl, ad := false }, ?_, ⟨h1, h2, h3, rfl, h5, h6, h7, .inr (.inl ⟨rfl, rfl, rfl, h2, a3, rfl⟩)⟩, rfl, by show lat n s.dl = _; rw [h6, lat_small hn hd]⟩
      unfold sAct
      rw [ha, if_neg (by simp), if_neg (by omega), if_pos a1, if_pos h1]
      unfold sWri
      rw [if_neg (by simp)]
    · have ha : sAdv s n = { s with ck := n, us := false, aa := s.vl, ad := true } := ha.trans (by rw [if_neg (by simp [a2])]; unfold sTake; rw [if_neg (by show ¬ s.cd = 128; omega), if_pos a4, if_neg (by show ¬ s.ad = true; simp [a5])])
      refine .inl ⟨by omega, { t with st := 4 }, { s with ck := n, us := true, cm := false, vl := t.dt, du := lat n s.dl, aa := s.vl, ad := true }, ?_, ⟨h1, h2, h3, rfl, h5, h6, h7, .inr (.inr ⟨rfl, rfl, rfl, h3, a4, rfl, a3⟩)⟩, rfl, by show lat n s.dl = _; rw [h6, lat_small hn hd]⟩
      unfold sAct
      rw [ha, if_neg (by simp), if_neg (by omega), if_neg (by omega), if_pos a1]
      unfold sWri
      rw [if_neg (by simp)]
    · have ha : sAdv s n = { s with ck := n, us := false, reg := updR s.reg s.aa.toNat s.vl, cd := 0 } := ha.trans (by rw [if_neg (by simp [a2])]; unfold sTake; rw [if_neg (by show ¬ s.cd = 128; omega), if_pos a4, if_pos a5])
      refine .inr ⟨{ t with st := 5 }, { s with ck := n, us := false, reg := updR s.reg s.aa.toNat s.vl, cd := 0 }, ?_, ⟨rfl, h5, h6, by show updR s.reg s.aa.toNat s.vl = _; rw [h7, a6, a3]⟩, rfl, rfl⟩
      unfold sAct
      rw [ha, if_neg (by simp), if_neg (by omega), if_neg (by omega), if_neg (by omega), if_neg (by omega), if_pos a1]
theorem chain_r (ad d : Int) (R : Nat → Int) (hd : d < 8) : Chain 1 d (Qr ad d R) (fun t s => Rest s d R ∧ t.vl = R ad.toNat) := by
  refine ⟨fun p t s h => ?_, fun p t s c h => h, fun p t s n h hck hdu hn => ?_⟩
  · obtain ⟨h1, h2, h4, h5, h6, h7, h8⟩ := h
    exact ⟨by omega, h4⟩
  · obtain ⟨h1, h2, h4, h5, h6, h7, h8⟩ := h
    have ha := adv_due h4 hck hdu
    rcases h8 with ⟨rfl, a1, a2, a3⟩ | ⟨rfl, a1, a2, a3, a4⟩
    · have ha : sAdv s n = { s with ck := n, us := false, cd := s.vl, ad := false } := ha.trans (by rw [if_pos a2]; unfold sStart; rw [if_pos (.inl a3)])
      refine .inl ⟨by omega, { t with st := 3 }, { s with ck := n, us := true, cm := false, vl := t.ad, du := lat n s.dl, cd := s.vl, ad := false }, ?_, ⟨h1, h2, rfl, h5, h6, h7, .inr ⟨rfl, rfl, rfl, h2, a3⟩⟩, rfl, by show lat n s.dl = _; rw [h6, lat_small hn hd]⟩
      unfold sAct
      rw [ha, if_neg (by simp), if_neg (by omega), if_pos a1, if_neg (by omega)]
      unfold sWri
      rw [if_neg (by simp)]
    · have ha : sAdv s n = { s with ck := n, us := false, ou := s.reg s.vl.toNat, un := true, cd := 0 } := ha.trans (by rw [if_neg (by simp [a2])]; unfold sTake; rw [if_pos a4])
      refine .inr ⟨{ t with st := 5, vl := s.reg s.vl.toNat }, { s with ck := n, us := false, ou := s.reg s.vl.toNat, un := false, cd := 0 }, ?_, ⟨⟨rfl, rfl, h6, h7⟩, by show s.reg s.vl.toNat = _; rw [h7, a3]⟩, rfl, rfl⟩
      unfold sAct
      rw [ha, if_neg (by simp), if_neg (by omega), if_neg (by omega), if_neg (by omega), if_pos a1, if_pos rfl]
theorem act_first (t : TrS) (s : EcS) (n : Int) (hst : t.st = 0) (hu : s.us = false) (hun : s.un = false) (hck : s.ck ≤ n) : sAct t s n = (true, { t with st := if t.cd = 132 then 3 else 1 }, { s with ck := n, us := true, cm := true, vl := t.cd, du := lat n s.dl }) := by
  have ha : sAdv s n = { s with ck := n } := by unfold sAdv; rw [if_pos (.inl hu), show max s.ck n = n by omega]
  unfold sAct
  rw [ha, if_neg (by simp [hu]), if_pos hst, if_neg (by simp [hun])]
  unfold sWri
  rw [if_neg (show ¬ ({ s with ck := n } : EcS).us = true by show ¬ s.us = true; simp [hu])]
theorem fin_write (ad v d : Int) (R : Nat → Int) (Z : Nat → Int) (len : Nat) (n0 : Int) (h0 : 0 ≤ n0) (hn0 : n0 < 100000) (hd0 : 0 ≤ d) (hd : d < 8) (t : TrS) (s : EcS) (ht : t = ⟨129, ad, v, n0 + 1000, 0, 0⟩) (hs : Rest s d R) (hck : s.ck ≤ n0) :
    ∃ t' s' n', finP 200 0 t s n0 Z len = (t', s', n', true) ∧ Rest s' d (updR R ad.toNat v) ∧ t'.st = 5 ∧ s'.ck = n' ∧ n' ≤ n0 + 800 ∧ n0 ≤ n' := by
  subst ht
  obtain ⟨s1, s2, s3, s4⟩ := hs
  exact chain_all (chain_w ad v d R hd) (by omega) hd0 hd Z len n0 h0 hn0 _ _ s _ (by show (0 : Int) < 5; omega) (act_first _ s n0 rfl s1 s2 hck) ⟨rfl, rfl, rfl, rfl, s2, s3, s4, .inl ⟨rfl, rfl, rfl, rfl⟩⟩ rfl (by show lat n0 s.dl = _; rw [s3, lat_small (by omega) hd]) rfl
theorem fin_read (ad d : Int) (R : Nat → Int) (Z : Nat → Int) (len : Nat) (n0 : Int) (h0 : 0 ≤ n0) (hn0 : n0 < 100000) (hd0 : 0 ≤ d) (hd : d < 8) (t : TrS) (s : EcS) (ht : t = ⟨128, ad, 0, n0 + 1000, 0, 0⟩) (hs : Rest s d R) (hck : s.ck ≤ n0) :
    ∃ t' s' n', finP 200 0 t s n0 Z len = (t', s', n', true) ∧ (Rest s' d R ∧ t'.vl = R ad.toNat) ∧ t'.st = 5 ∧ s'.ck = n' ∧ n' ≤ n0 + 800 ∧ n0 ≤ n' := by
  subst ht
  obtain ⟨s1, s2, s3, s4⟩ := hs
  exact chain_all (chain_r ad d R hd) (by omega) hd0 hd Z len n0 h0 hn0 _ _ s _ (by show (0 : Int) < 5; omega) (act_first _ s n0 rfl s1 s2 hck) ⟨rfl, rfl, rfl, s2, s3, s4, .inl ⟨rfl, rfl, rfl, rfl⟩⟩ rfl (by show lat n0 s.dl = _; rw [s3, lat_small (by omega) hd]) rfl
end Go.Proofs.Ytdmbmjnobncgjaa
