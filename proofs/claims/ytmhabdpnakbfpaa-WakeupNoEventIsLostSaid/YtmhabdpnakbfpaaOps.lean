/- The pure functions of the sources; validTime, valid, end. -/
import Derived.Test.YtmhabdpnakbfpaaBas
namespace Go.Proofs.Ytmhabdpnakbfpaa
open Go.ChangeShapes Go.WideShapes Go.ChangeAt Go.RowKit Go.Deep Go.Joins

def wI (x : Int) : Int := wrap64 x
def vtB (s : WS) (now : Int) : Bool := decide (s.ck ≤ now) && decide (now ≤ 1152921504606846976)
def vB (s : WS) (i now : Int) : Bool := decide (0 ≤ i) && decide (i < s.n) && vtB s now
def WS.endS (s : WS) (i : Nat) : WS := { s.putQ i ⟨false, false, 0⟩ with ev := wI (s.ev + 1) }
/-- A call of a method that changes nothing. -/
def PuP (w : World) (v : Value) (e : Ending) (w' : World) : Prop := e = .returned v ∧ w = w'
/-- A call of a method that leaves the state s'. -/
def OpP (w : World) (s s' : WS) (v : Value) (e : Ending) (w' : World) : Prop := e = .returned v ∧ Wk w' s' ∧ CW s w w'
section
variable {w : World} {s : WS}
set_option maxRecDepth 20000 in
set_option maxHeartbeats 2000000 in
theorem vt_any (h : Wk w s) (now : Int) : Calls Try.prog 38 #[.pointer (some ⟨s.L, 0, none⟩), .int .u64 now] w (PuP w (.bool (vtB s now))) := by
  have c6 := h.c6
  have E : Hid (vtB s now = (decide (s.ck ≤ now) && decide (now ≤ 1152921504606846976))) := rfl
  generalize vtB s now = b at *
  clear h
  generalize s.ck = ck at *
  by_cases h1 : ck ≤ now
  · rw [decide_eq_true h1] at E
    go_enter Try.func38, Try.ntmps38
    go_wp2
    go_ret
    exact ⟨by rw [E.out]; rfl, rfl⟩
  · rw [decide_eq_false h1] at E
    go_enter Try.func38, Try.ntmps38
    go_wp2
    go_ret
    exact ⟨by rw [E.out]; rfl, rfl⟩
set_option maxRecDepth 20000 in
set_option maxHeartbeats 2000000 in
theorem val_any (h : Wk w s) (i now : Int) : Calls Try.prog 36 #[.pointer (some ⟨s.L, 0, none⟩), .int .i64 i, .int .u64 now] w (PuP w (.bool (vB s i now))) := by
  have c0 := h.c0
  have P := Lib.hid (vt_any h now)
  have E : Hid (vB s i now = (decide (0 ≤ i) && decide (i < s.n) && vtB s now)) := rfl
  generalize vB s i now = b at *
  generalize vtB s now = vt at *
  clear h
  generalize s.n = n at *
  by_cases h1 : 0 ≤ i
  · rw [decide_eq_true h1, Bool.true_and] at E
    by_cases h2 : i < (n : Int)
    · rw [decide_eq_true h2, Bool.true_and] at E
      go_enter Try.func36, Try.ntmps36
      go_wp2_with fail
      refine P.out.mono ?_
      rintro e w2 ⟨rfl, rfl⟩
      go_wp2
      go_ret
      exact ⟨by rw [E.out]; rfl, rfl⟩
    · rw [decide_eq_false h2, Bool.false_and] at E
      go_enter Try.func36, Try.ntmps36
      go_wp2
      go_ret
      exact ⟨by rw [E.out]; rfl, rfl⟩
  · rw [decide_eq_false h1, Bool.false_and, Bool.false_and] at E
    go_enter Try.func36, Try.ntmps36
    go_wp2
    go_ret
    exact ⟨by rw [E.out]; rfl, rfl⟩
theorem Wk.row' (h : Wk w s) {i : Nat} (hi : i < s.n) : s.A = some ⟨s.X, 0, none⟩ := by
  rcases h.row with h0 | h0
  · exact h0
  · omega
theorem Wk.endS (h : Wk w s) {i : Nat} (hi : i < s.n) : Wk ((((w.setCell ⟨s.X, i * 3, none⟩ (.bool false)).setCell ⟨s.X, i * 3 + 1, none⟩ (.bool false)).setCell ⟨s.X, i * 3 + 2, none⟩ (.int .u64 0)).setCell ⟨s.L, 1, none⟩ (.int .i64 (wI (s.ev + 1)))) (s.endS i) :=
  (h.setQ i hi ⟨false, false, 0⟩).setL 1 _ (s.endS i) ⟨rfl, rfl, rfl, rfl, rfl, rfl⟩ (by decide) rfl rfl rfl rfl rfl rfl
theorem cw_refl : CW s w w := Chg.refl _ _
theorem cw_setX (h0 : 0 < s.n) (j : Nat) (v : Value) {w' : World} (h : CW s w w') : CW s w (w'.setCell ⟨s.X, j, none⟩ v) := h.trans ((Chg.set w' s.X j v).mono (fun _ _ e => .inr ⟨e, h0⟩))
theorem cw_setL (j : Nat) (v : Value) {w' : World} (h : CW s w w') : CW s w (w'.setCell ⟨s.L, j, none⟩ v) := h.trans ((Chg.set w' s.L j v).mono (fun _ _ e => .inl e))
theorem cw_below {w' w2 : World} (h : CW s w w') (hb : Below w'.heap.size w' w2) : CW s w w2 := h.trans (Chg.of_below hb _)
set_option maxRecDepth 20000 in
set_option maxHeartbeats 4000000 in
theorem end_any (h : Wk w s) (i : Nat) (hi : i < s.n) : Calls Try.prog 39 #[.pointer (some ⟨s.L, 0, none⟩), .int .i64 i] w (OpP w s (s.endS i) (.tuple #[])) := by
  have c0 := h.c0
  have c1 := h.c1
  have fL := h.fL 1
  have hpos : 0 < s.n := by omega
  have fX0 := h.fX hpos (i * 3)
  have fX1 := h.fX hpos (i * 3 + 1)
  have fX2 := h.fX hpos (i * 3 + 2)
  obtain ⟨x0, x1, x2⟩ := h.src i hi
  have XL := h.XL hpos
  have LX : s.L ≠ s.X := fun e => h.XL hpos e.symm
  have lL := h.lL
  have lX := h.lX hpos
  rw [h.row' hi] at c0
  have hin : (i : Int) < (s.n : Int) := by omega
  have F := Lib.hid (show OpP w s (s.endS i) (.tuple #[]) (.returned (.tuple #[])) _ from ⟨rfl, h.endS hi, cw_setL _ _ (cw_setX hpos _ _ (cw_setX hpos _ _ (cw_setX hpos _ _ cw_refl)))⟩)
  generalize s.endS i = s' at *
  have hn := h.hn
  clear h
  unfold wI at F
  go_enter Try.func39, Try.ntmps39
  go_wp2_with fail
  refine bodyPost_ret (results_none rfl _ _ _) rfl ?_
  exact F.out
end
end Go.Proofs.Ytmhabdpnakbfpaa
