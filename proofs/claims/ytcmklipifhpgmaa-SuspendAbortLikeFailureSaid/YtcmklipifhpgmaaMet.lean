/- Asleep, Result, Wake, Abort, Next. -/
import Derived.Test.YtcmklipifhpgmaaUnd
import Derived.Laws.ResultCell
namespace Go.Proofs.Ytcmklipifhpgmaa
open Go.ChangeShapes Go.WideShapes Go.ChangeAt Go.RowKit Go.Deep Go.Joins

theorem asl_any {Z : Nat → Prop} {w : World} {s : SQ} (h : Sq Z w s) : Calls Try.prog 28 #[.pointer (some ⟨s.L, 0, none⟩)] w fun e w' => e = .returned (.bool (s.st == 1)) ∧ w' = w := by
  obtain ⟨PA, pc, hb, -⟩ := h.ex
  have c1 := hb.c1
  have lL := hb.lL
  clear hb h
  go_enter Try.func28, Try.ntmps28
  go_wp2
  go_ret
  exact ⟨rfl, rfl⟩
def resT (s : SQ) : Value := if s.st = 3 then .tuple #[.int .i64 s.r, .bool true] else .tuple #[.int .i64 0, .bool false]
theorem res_any {Z : Nat → Prop} {w : World} {s : SQ} (h : Sq Z w s) : Calls Try.prog 26 #[.pointer (some ⟨s.L, 0, none⟩)] w fun e w' => e = .returned (resT s) ∧ w' = w := by
  obtain ⟨PA, pc, hb, -⟩ := h.ex
  have c1 := hb.c1
  have c4 := hb.c4
  have lL := hb.lL
  unfold resT
  by_cases h3 : s.st = 3
  · rw [if_pos h3]
    rw [h3] at c1
    clear hb h h3
    go_enter Try.func26, Try.ntmps26
    go_wp2
    go_ret2
    exact ⟨rfl, rfl⟩
  · rw [if_neg h3]
    obtain ⟨x, hx⟩ : ∃ x, x = s.st := ⟨_, rfl⟩
    rw [← hx] at c1 h3
    have e3 : (x != 3) = true := by simpa using h3
    clear hb h hx h3
    go_enter Try.func26, Try.ntmps26
    go_wp2
    go_ret2
    exact ⟨rfl, rfl⟩
/-- What a method gives: an error, and the sequence's next state. -/
def MeP (Z : Nat → Prop) (w : World) (s s' : SQ) (r : Int) (e : Ending) (w' : World) : Prop := e = .returned (.int .i64 r) ∧ Sq Z w' s' ∧ Chg (fun b => b = s.L ∨ b = s.M ∨ w.heap.size ≤ b) w w'
def wakS (s : SQ) : SQ × Int := if s.st = 1 then (undS s 0, 0) else (s, 9)
def aboS (s : SQ) : SQ × Int := if s.st = 0 then (undS s 20, 0) else (s, 9)
theorem wak_any {Z : Nat → Prop} {w : World} {s : SQ} (h : Sq Z w s) (hd : Dv s) : Calls Try.prog 22 #[.pointer (some ⟨s.L, 0, none⟩)] w (MeP Z w s (wakS s).1 (wakS s).2) := by
  have hZ := h.far
  obtain ⟨PA, pc, hb, -⟩ := h.ex
  have c1 := hb.c1
  have lL := hb.lL
  by_cases h3 : s.st = 1
  · have e : wakS s = (undS s 0, 0) := by unfold wakS; rw [if_pos h3]
    rw [e]
    have UN := und_any hb hd hZ 0
    rw [h3] at c1
    clear hb h h3 e
    go_enter Try.func22, Try.ntmps22
    go_wp2_with fail
    refine UN.mono ?_
    clear UN
    rintro e w1 ⟨rfl, hS, hC⟩
    have FIN : Hid (MeP Z w s (undS s 0) 0 (.returned (.int .i64 0)) w1) := ⟨rfl, hS, hC.mono (fun b _ e => by rcases e with e | e; exact .inl e; exact .inr (.inr e))⟩
    clear hS hC
    go_wp2
    go_ret
    exact FIN.out
  · have e : wakS s = (s, 9) := by unfold wakS; rw [if_neg h3]
    rw [e]
    have FIN : Hid (MeP Z w s s 9 (.returned (.int .i64 9)) w) := ⟨rfl, h, Chg.refl _ _⟩
    obtain ⟨x, hx⟩ : ∃ x, x = s.st := ⟨_, rfl⟩
    rw [← hx] at c1 h3
    have e3 : (x != 1) = true := by simpa using h3
    clear hb h hx h3 e
    go_enter Try.func22, Try.ntmps22
    go_wp2
    go_ret
    exact FIN.out
theorem abo_any {Z : Nat → Prop} {w : World} {s : SQ} (h : Sq Z w s) (hd : Dv s) : Calls Try.prog 20 #[.pointer (some ⟨s.L, 0, none⟩)] w (MeP Z w s (aboS s).1 (aboS s).2) := by
  have hZ := h.far
  obtain ⟨PA, pc, hb, -⟩ := h.ex
  have c1 := hb.c1
  have lL := hb.lL
  by_cases h3 : s.st = 0
  · have e : aboS s = (undS s 20, 0) := by unfold aboS; rw [if_pos h3]
    rw [e]
    have UN := und_any hb hd hZ 20
    rw [h3] at c1
    clear hb h h3 e
    go_enter Try.func20, Try.ntmps20
    go_wp2_with fail
    refine UN.mono ?_
    clear UN
    rintro e w1 ⟨rfl, hS, hC⟩
    have FIN : Hid (MeP Z w s (undS s 20) 0 (.returned (.int .i64 0)) w1) := ⟨rfl, hS, hC.mono (fun b _ e => by rcases e with e | e; exact .inl e; exact .inr (.inr e))⟩
    clear hS hC
    go_wp2
    go_ret
    exact FIN.out
  · have e : aboS s = (s, 9) := by unfold aboS; rw [if_neg h3]
    rw [e]
    have FIN : Hid (MeP Z w s s 9 (.returned (.int .i64 9)) w) := ⟨rfl, h, Chg.refl _ _⟩
    obtain ⟨x, hx⟩ : ∃ x, x = s.st := ⟨_, rfl⟩
    rw [← hx] at c1 h3
    have e3 : (x != 0) = true := by simpa using h3
    clear hb h hx h3 e
    go_enter Try.func20, Try.ntmps20
    go_wp2
    go_ret
    exact FIN.out
def opV (x : Op) : Value := .agg #[.int .i64 x.1, .int .i64 x.2]
def nxT (s : SQ) : Value := .tuple #[opV (s.p.getD 0 (0, 0)), .bool (decide (0 < s.p.length))]
def NxP (w : World) (s : SQ) (e : Ending) (w' : World) : Prop := e = .returned (nxT s) ∧ Below w.heap.size w w'
theorem nxt_any {Z : Nat → Prop} {w : World} {s : SQ} (h : Sq Z w s) : Calls Try.prog 24 #[.pointer (some ⟨s.L, 0, none⟩)] w (NxP w s) := by
  obtain ⟨PA, pc, hb, hF, hpc, hcm, -⟩ := h.ex
  have hx : Below w.heap.size w (w.alloc (.cells #[.int .i64 0, .int .i64 0] 30)) := bal (Below.refl _ _) _
  have B1 := hb.below hx
  have c2 := B1.c2
  have lL := B1.lL
  have HX := Lib.hid hx
  by_cases h0 : 0 < s.p.length
  · obtain ⟨b, off, rfl, hlt, hc⟩ := hF.at hx (Nat.le_refl _) h0
    have d0 := (hc (0 * 2) (by omega)).trans (congrArg some (oV0 s.p 0))
    have d1 := (hc (0 * 2 + 1) (by omega)).trans (congrArg some (oV1 s.p 0))
    rw [Nat.zero_mul, Nat.add_zero] at d0
    rw [Nat.zero_mul, Nat.zero_add] at d1
    have e9 : nxT s = .tuple #[opV (s.p.getD 0 (0, 0)), .bool true] := by unfold nxT; rw [decide_eq_true h0]
    unfold NxP
    rw [e9]
    generalize s.p.getD 0 (0, 0) = x at *
    obtain ⟨ph, d⟩ := x
    generalize s.p.length = m at *
    have hlt2 : b < (w.alloc (.cells #[.int .i64 0, .int .i64 0] 30)).heap.size := Nat.lt_of_lt_of_le hlt hx.size
    clear hb h hF hc B1 hx e9 hlt
    go_enter Try.func24, Try.ntmps24
    go_wp2
    refine bodyPost_ret (v := .tuple #[opV (ph, d), .bool true]) ?_ rfl ⟨rfl, bal (Below.refl _ _) _⟩
    rw [results_cell_tmp rfl]
    go_simp
    rfl
  · have h1 : s.p = [] := List.length_eq_zero_iff.1 (by omega)
    have e9 : nxT s = .tuple #[opV (0, 0), .bool false] := by unfold nxT; rw [h1]; rfl
    unfold NxP
    rw [e9]
    rw [h1] at c2
    clear hb h hF B1 hx e9 hpc h0 h1
    go_enter Try.func24, Try.ntmps24
    go_wp2
    refine bodyPost_ret (v := .tuple #[opV (0, 0), .bool false]) ?_ rfl ⟨rfl, bal (Below.refl _ _) _⟩
    rw [results_cell_tmp rfl]
    go_simp
    rfl
end Go.Proofs.Ytcmklipifhpgmaa
