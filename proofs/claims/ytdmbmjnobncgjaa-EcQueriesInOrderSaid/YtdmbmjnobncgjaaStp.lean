/- act as one contract; Step. -/
import Derived.Test.YtdmbmjnobncgjaaAcs
import Derived.Deep.LoopGhost
namespace Go.Proofs.Ytdmbmjnobncgjaa
open Go.RowKit

theorem beq_f {a b : Int} (h : a ≠ b) : (a == b) = false := by simp [h]
theorem act_any (w : World) (L T : Nat) (s : EcS) (t : TrS) (now : Int) (h : EcQ w L s) (hn : U64 now) (ht : TrW w T t) (hne : T ≠ L) (hx : s.xq T) (h0 : 0 ≤ t.st) (h4 : t.st < 5) :
    Calls Try.prog 42 #[.pointer (some ⟨T, 0, none⟩), .pointer (some ⟨L, 0, none⟩), .int .u64 now] w (AP w L T (sAct t s now).2.2 (sAct t s now).2.1 (.bool (sAct t s now).1)) := by
  unfold sAct
  by_cases hu : (sAdv s now).us = true
  · rw [if_pos hu]
    exact act_busy w L T s t now h hn ht hne hu
  rw [if_neg hu]
  have hu : (sAdv s now).us = false := by simpa using hu
  rcases (show t.st = 0 ∨ t.st = 1 ∨ t.st = 2 ∨ t.st = 3 ∨ t.st = 4 by omega) with hs | hs | hs | hs | hs
  · rw [if_pos hs]
    by_cases hun : (sAdv s now).un = true
    · rw [if_pos hun]
      exact act_0u w L T s t now h hn ht hne hx hu hs hun
    · rw [if_neg hun]
      by_cases hc : t.cd = 132
      · rw [if_pos hc]
        exact act_0q w L T s t now h hn ht hne hx hu hs (by simpa using hun) (by simp [hc])
      · rw [if_neg hc]
        exact act_0c w L T s t now h hn ht hne hx hu hs (by simpa using hun) (beq_f hc)
  · rw [if_neg (by omega), if_pos hs]
    by_cases hc : t.cd = 129
    · rw [if_pos hc]
      exact act_1w w L T s t now h hn ht hne hx hu hs (by simp [hc])
    · rw [if_neg hc]
      exact act_1r w L T s t now h hn ht hne hx hu hs (beq_f hc)
  · rw [if_neg (by omega), if_neg (by omega), if_pos hs]
    exact act_2 w L T s t now h hn ht hne hx hu hs
  · rw [if_neg (by omega), if_neg (by omega), if_neg (by omega), if_pos hs]
    by_cases hun : (sAdv s now).un = true
    · rw [if_pos hun]
      exact act_3r w L T s t now h hn ht hne hx hu hs hun
    · rw [if_neg hun]
      exact act_3e w L T s t now h hn ht hne hx hu hs (by simpa using hun)
  · rw [if_neg (by omega), if_neg (by omega), if_neg (by omega), if_neg (by omega), if_pos hs]
    exact act_4 w L T s t now h hn ht hne hx hu hs
def muB (s : EcS) : Nat := (if s.un = true then 1 else 0) + (if s.us = true then 2 else 0)
def mu (t : TrS) (s : EcS) : Nat := 3 * (5 - t.st).toNat + muB s
theorem adv_mu (s : EcS) (now : Int) (hu : (sAdv s now).us = false) : muB (sAdv s now) ≤ muB s := by
  by_cases h : s.us = false
  · have : (sAdv s now).un = s.un := by unfold sAdv; rw [if_pos (.inl h)]
    unfold muB
    rw [this, hu, h]
    omega
  · unfold muB
    rw [hu, if_pos (show s.us = true by simpa using h)]
    split <;> split <;> simp_all <;> omega
theorem wri_mu (s : EcS) (cm : Bool) (v : Int) (hu : s.us = false) : muB (sWri s cm v) = muB s + 2 := by
  have e : sWri s cm v = { s with us := true, cm := cm, vl := v, du := lat s.ck s.dl } := by unfold sWri; rw [if_neg (by simp [hu])]
  rw [e]
  unfold muB
  rw [hu]
  rfl
theorem un_mu (s : EcS) (h : s.un = true) : muB { s with un := false } + 1 = muB s := by
  unfold muB
  simp only [h, if_pos]
  simp
  omega
theorem sWri_xq (s : EcS) (cm : Bool) (v : Int) : (sWri s cm v).xq = s.xq ∧ (sWri s cm v).ck = s.ck ∧ (sWri s cm v).dl = s.dl := by
  unfold sWri; split <;> exact ⟨rfl, rfl, rfl⟩
theorem act_mu (t : TrS) (s : EcS) (now : Int) (h0 : 0 ≤ t.st) (h4 : t.st < 5) (hb : (sAct t s now).1 = true) : mu (sAct t s now).2.1 (sAct t s now).2.2 < mu t s ∧ 0 ≤ (sAct t s now).2.1.st ∧ (sAct t s now).2.1.st ≤ 5 := by
  revert hb
  unfold sAct
  by_cases hu : (sAdv s now).us = true
  · rw [if_pos hu]; intro h; cases h
  rw [if_neg hu]
  have hu : (sAdv s now).us = false := by simpa using hu
  have ha := adv_mu s now hu
  generalize sAdv s now = a at *
  rcases (show t.st = 0 ∨ t.st = 1 ∨ t.st = 2 ∨ t.st = 3 ∨ t.st = 4 by omega) with hs | hs | hs | hs | hs
  · rw [if_pos hs]
    by_cases hun : a.un = true
    · rw [if_pos hun]
      have := un_mu _ hun
      intro _
      refine ⟨?_, by show 0 ≤ t.st; omega, by show t.st ≤ 5; omega⟩
      show 3 * (5 - t.st).toNat + muB { a with un := false } < 3 * (5 - t.st).toNat + muB s
      omega
    · rw [if_neg hun]
      have := wri_mu a true t.cd hu
      intro _
      refine ⟨?_, by show 0 ≤ (if t.cd = 132 then (3 : Int) else 1); split <;> omega, by show (if t.cd = 132 then (3 : Int) else 1) ≤ 5; split <;> omega⟩
      show 3 * (5 - (if t.cd = 132 then (3 : Int) else 1)).toNat + muB (sWri a true t.cd) < 3 * (5 - t.st).toNat + muB s
      split <;> omega
  · rw [if_neg (by omega), if_pos hs]
    have := wri_mu a false t.ad hu
    intro _
    refine ⟨?_, by show 0 ≤ (if t.cd = 129 then (2 : Int) else 3); split <;> omega, by show (if t.cd = 129 then (2 : Int) else 3) ≤ 5; split <;> omega⟩
    show 3 * (5 - (if t.cd = 129 then (2 : Int) else 3)).toNat + muB (sWri a false t.ad) < 3 * (5 - t.st).toNat + muB s
    split <;> omega
  · rw [if_neg (by omega), if_neg (by omega), if_pos hs]
    have := wri_mu a false t.dt hu
    intro _
    refine ⟨?_, by show (0 : Int) ≤ 4; omega, by show (4 : Int) ≤ 5; omega⟩
    show 3 * (5 - (4 : Int)).toNat + muB (sWri a false t.dt) < 3 * (5 - t.st).toNat + muB s
    omega
  · rw [if_neg (by omega), if_neg (by omega), if_neg (by omega), if_pos hs]
    by_cases hun : a.un = true
    · rw [if_pos hun]
      have := un_mu _ hun
      intro _
      refine ⟨?_, by show (0 : Int) ≤ 5; omega, by show (5 : Int) ≤ 5; omega⟩
      show 3 * (5 - (5 : Int)).toNat + muB { a with un := false } < 3 * (5 - t.st).toNat + muB s
      omega
    · rw [if_neg hun]
      intro h; cases h
  · rw [if_neg (by omega), if_neg (by omega), if_neg (by omega), if_neg (by omega), if_pos hs]
    intro _
    refine ⟨?_, by show (0 : Int) ≤ 5; omega, by show (5 : Int) ≤ 5; omega⟩
    show 3 * (5 - (5 : Int)).toNat + muB a < 3 * (5 - t.st).toNat + muB s
    omega
theorem act_keep (t : TrS) (s : EcS) (now : Int) : (sAct t s now).2.2.xq = s.xq ∧ (sAct t s now).2.2.ck = max s.ck now ∧ (sAct t s now).2.2.dl = s.dl ∧ (sAct t s now).2.1.dl = t.dl ∧ (sAct t s now).2.1.cd = t.cd := by
  obtain ⟨a, b, c⟩ := sAdv_xq s now
  have W := fun cm v => sWri_xq (sAdv s now) cm v
  unfold sAct
  split
  · exact ⟨a, b, c, rfl, rfl⟩
  split
  · split
    · exact ⟨a, b, c, rfl, rfl⟩
    · exact ⟨(W _ _).1.trans a, (W _ _).2.1.trans b, (W _ _).2.2.trans c, rfl, rfl⟩
  split
  · exact ⟨(W _ _).1.trans a, (W _ _).2.1.trans b, (W _ _).2.2.trans c, rfl, rfl⟩
  split
  · exact ⟨(W _ _).1.trans a, (W _ _).2.1.trans b, (W _ _).2.2.trans c, rfl, rfl⟩
  split
  · split <;> exact ⟨a, b, c, rfl, rfl⟩
  split <;> exact ⟨a, b, c, rfl, rfl⟩
/-- The loop of Step, at most k rounds. -/
def sRun : Nat → TrS → EcS → Int → TrS × EcS
  | 0, t, s, _ => (t, s)
  | k + 1, t, s, now => if t.st < 5 then (if (sAct t s now).1 = true then sRun k (sAct t s now).2.1 (sAct t s now).2.2 now else (sAct t s now).2) else (t, s)
/-- Step on the states. -/
def sStep (t : TrS) (s : EcS) (now : Int) : TrS × EcS :=
  let r := sRun 18 t s now
  if r.1.st < 5 ∧ r.1.dl ≤ now then ({ r.1 with st := 6 }, r.2) else r
def stVal (t : TrS) : Value := if t.st = 5 then .tuple #[.int .u8 t.vl, .bool true, .int .i64 0] else if t.st = 6 then .tuple #[.int .u8 0, .bool true, .int .i64 14] else .tuple #[.int .u8 0, .bool false, .int .i64 0]
theorem mu_le (t : TrS) (s : EcS) (h0 : 0 ≤ t.st) : mu t s ≤ 18 := by
  unfold mu muB
  split <;> split <;> omega
end Go.Proofs.Ytdmbmjnobncgjaa
