/- A block of events: its state as words, its cells, what each call leaves. -/
import Derived.Test.YtmhianhaljphiaaDoorBvs
import Derived.Deep.WholeRow
namespace Go.Proofs.YtmhianhaljphiaaDoor
open Go.RowKit

structure GpS where
  ct : Nat
  lv : BitVec 64
  li : BitVec 64
  st : BitVec 64
  en : BitVec 64
  wk : BitVec 64
  hd : BitVec 64
def gcell (s : GpS) (i : Nat) : Value :=
  if i = 0 then .int .i64 s.ct else if i = 1 then .int .u64 (u s.lv) else if i = 2 then .int .u64 (u s.li) else if i = 3 then .int .u64 (u s.st) else if i = 4 then .int .u64 (u s.en) else if i = 5 then .int .u64 (u s.wk) else .int .u64 (u s.hd)
abbrev GpR (w : World) (L : Nat) (s : GpS) : Prop := w.rowIs L 49 7 (gcell s)
theorem gr_ct {w : World} {L : Nat} {s : GpS} (h : GpR w L s) : w.cell? ⟨L, 0, none⟩ = some (.int .i64 s.ct) := h.cell (show 0 < 7 by omega)
theorem gr_lv {w : World} {L : Nat} {s : GpS} (h : GpR w L s) : w.cell? ⟨L, 1, none⟩ = some (.int .u64 (u s.lv)) := h.cell (show 1 < 7 by omega)
theorem gr_li {w : World} {L : Nat} {s : GpS} (h : GpR w L s) : w.cell? ⟨L, 2, none⟩ = some (.int .u64 (u s.li)) := h.cell (show 2 < 7 by omega)
theorem gr_st {w : World} {L : Nat} {s : GpS} (h : GpR w L s) : w.cell? ⟨L, 3, none⟩ = some (.int .u64 (u s.st)) := h.cell (show 3 < 7 by omega)
theorem gr_en {w : World} {L : Nat} {s : GpS} (h : GpR w L s) : w.cell? ⟨L, 4, none⟩ = some (.int .u64 (u s.en)) := h.cell (show 4 < 7 by omega)
theorem gr_wk {w : World} {L : Nat} {s : GpS} (h : GpR w L s) : w.cell? ⟨L, 5, none⟩ = some (.int .u64 (u s.wk)) := h.cell (show 5 < 7 by omega)
theorem gr_hd {w : World} {L : Nat} {s : GpS} (h : GpR w L s) : w.cell? ⟨L, 6, none⟩ = some (.int .u64 (u s.hd)) := h.cell (show 6 < 7 by omega)
theorem gw_lv {w : World} {L : Nat} {s : GpS} (h : GpR w L s) (x : BitVec 64) : GpR (w.setCell ⟨L, 1, none⟩ (.int .u64 (u x))) L { s with lv := x } :=
  (h.set 1 _).congr fun i _ => by
    by_cases e : i = 1
    · subst e; simp [gcell]
    · simp [gcell, e]
theorem gw_li {w : World} {L : Nat} {s : GpS} (h : GpR w L s) (x : BitVec 64) : GpR (w.setCell ⟨L, 2, none⟩ (.int .u64 (u x))) L { s with li := x } :=
  (h.set 2 _).congr fun i _ => by
    by_cases e : i = 2
    · subst e; simp [gcell]
    · simp [gcell, e]
theorem gw_st {w : World} {L : Nat} {s : GpS} (h : GpR w L s) (x : BitVec 64) : GpR (w.setCell ⟨L, 3, none⟩ (.int .u64 (u x))) L { s with st := x } :=
  (h.set 3 _).congr fun i _ => by
    by_cases e : i = 3
    · subst e; simp [gcell]
    · simp [gcell, e]
theorem gw_en {w : World} {L : Nat} {s : GpS} (h : GpR w L s) (x : BitVec 64) : GpR (w.setCell ⟨L, 4, none⟩ (.int .u64 (u x))) L { s with en := x } :=
  (h.set 4 _).congr fun i _ => by
    by_cases e : i = 4
    · subst e; simp [gcell]
    · simp [gcell, e]
theorem gw_wk {w : World} {L : Nat} {s : GpS} (h : GpR w L s) (x : BitVec 64) : GpR (w.setCell ⟨L, 5, none⟩ (.int .u64 (u x))) L { s with wk := x } :=
  (h.set 5 _).congr fun i _ => by
    by_cases e : i = 5
    · subst e; simp [gcell]
    · simp [gcell, e]
theorem gw_hd {w : World} {L : Nat} {s : GpS} (h : GpR w L s) (x : BitVec 64) : GpR (w.setCell ⟨L, 6, none⟩ (.int .u64 (u x))) L { s with hd := x } :=
  (h.set 6 _).congr fun i hi => by
    by_cases e : i = 6
    · subst e; simp [gcell]
    · have h1 : i = 0 ∨ i = 1 ∨ i = 2 ∨ i = 3 ∨ i = 4 ∨ i = 5 := by omega
      rcases h1 with rfl | rfl | rfl | rfl | rfl | rfl <;> rfl
/-- A call that returns v, leaves the block in state s and touches nothing else. -/
def GP (w : World) (L : Nat) (s : GpS) (v : Value) (e : Ending) (w' : World) : Prop := e = .returned v ∧ GpR w' L s ∧ Chg (fun k => k = L) w w'
theorem GP.mk0 {w : World} {L : Nat} {s : GpS} {v : Value} (h : GpR w L s) : GP w L s v (.returned v) w := ⟨rfl, h, Chg.refl _ _⟩
def rdy (s : GpS) : BitVec 64 := (s.st &&& s.en) &&& ~~~s.hd
theorem rdy_get (s : GpS) (j : Nat) (hj : j < 64) : (rdy s).getLsbD j = (s.st.getLsbD j && s.en.getLsbD j && !s.hd.getLsbD j) := by
  unfold rdy
  rw [BitVec.getLsbD_and, BitVec.getLsbD_and, BitVec.getLsbD_not, decide_eq_true hj, Bool.true_and]
def riseS (s : GpS) (k : Nat) (on : Bool) : Bool := (on && (s.li &&& bitB k == 0#64)) || ((s.lv &&& withB s.li (bitB k) on) &&& ~~~s.hd) &&& bitB k != 0#64
theorem rise_get (s : GpS) (k : Nat) (on : Bool) (hk : k < 64) : riseS s k on = (on && (!s.li.getLsbD k || s.lv.getLsbD k && !s.hd.getLsbD k)) := by
  unfold riseS
  rw [and_bit _ _ hk, and_bit' _ _ hk, BitVec.getLsbD_and, BitVec.getLsbD_and, BitVec.getLsbD_not, withB_get _ _ _ _ hk hk, if_pos rfl, decide_eq_true hk]
  cases on <;> cases s.li.getLsbD k <;> cases s.lv.getLsbD k <;> cases s.hd.getLsbD k <;> rfl
def setS (s : GpS) (k : Nat) (on : Bool) : GpS := { s with li := withB s.li (bitB k) on, st := if riseS s k on then s.st ||| bitB k else s.st }
def enS (s : GpS) (k : Nat) (on : Bool) : GpS := { s with en := withB s.en (bitB k) on }
def wkS (s : GpS) (k : Nat) (on : Bool) : GpS := { s with wk := withB s.wk (bitB k) on }
def begS (s : GpS) (k : Nat) : GpS := { s with hd := s.hd ||| bitB k, st := if s.lv.getLsbD k then s.st else s.st &&& ~~~bitB k }
def cmpS (s : GpS) (k : Nat) : GpS := { s with hd := s.hd &&& ~~~bitB k, st := if s.lv.getLsbD k then withB s.st (bitB k) (s.li.getLsbD k) else s.st }
def lvl (f : Nat → Bool) : Nat → BitVec 64
  | 0 => 0#64
  | k + 1 => withB (lvl f k) (bitB k) (f k)
theorem lvl_get (f : Nat → Bool) : ∀ n j : Nat, n ≤ 64 → j < 64 → (lvl f n).getLsbD j = (decide (j < n) && f j)
  | 0, j, _, _ => by simp [lvl]
  | n + 1, j, hn, hj => by
    show (withB (lvl f n) (bitB n) (f n)).getLsbD j = _
    rw [withB_get _ _ _ _ (by omega) hj]
    by_cases e : j = n
    · subst e; simp
    · rw [if_neg e, lvl_get f n j (by omega) hj]
      by_cases h : j < n
      · rw [decide_eq_true h, decide_eq_true (by omega)]
      · rw [decide_eq_false h, decide_eq_false (by omega)]
def new0 (n : Nat) (l : BitVec 64) : GpS := ⟨n, l, 0, 0, 0, 0, 0⟩
end Go.Proofs.YtmhianhaljphiaaDoor
