/- The closure of undo; the search for the first operation that it takes out. -/
import Derived.Test.YtcmklipifhpgmaaPln
namespace Go.Proofs.Ytcmklipifhpgmaa
open Go.ChangeShapes Go.WideShapes Go.ChangeAt Go.RowKit Go.Deep Go.Joins

theorem w64 {x : Int} (h : -9223372036854775808 ≤ x ∧ x ≤ 9223372036854775807) : W64 x := by
  exact WalkArith.wf_i64 (by omega)
/-- What the closure reads: its box X leads to the sequence L, whose map is M. -/
structure Cx (w : World) (X L M n : Nat) (S : Int → Int → Bool) : Prop where
  x0 : w.cell? ⟨X, 0, none⟩ = some (.pointer (some ⟨L, 0, none⟩))
  c3 : w.cell? ⟨L, 3, none⟩ = some (.map (some M))
  lX : X < w.heap.size
  lL : L < w.heap.size
  mp : Sd w M n S
theorem Cx.chg {T : Nat → Prop} {w w' : World} {X L M n : Nat} {S : Int → Int → Bool} (h : Cx w X L M n S) (hc : Chg T w w') (h1 : ¬ T X) (h2 : ¬ T L) (h3 : ¬ T M) : Cx w' X L M n S :=
  ⟨(blk_cell (hc.block X h.lX h1) _).trans h.x0, (blk_cell (hc.block L h.lL h2) _).trans h.c3, Nat.lt_of_lt_of_le h.lX hc.size, Nat.lt_of_lt_of_le h.lL hc.size, h.mp.chg hc h3⟩
theorem Cx.below {w w' : World} {X L M n : Nat} {S : Int → Int → Bool} (h : Cx w X L M n S) (hb : Below w.heap.size w w') : Cx w' X L M n S :=
  h.chg (Chg.of_below hb (fun _ => False)) (fun x => x) (fun x => x) (fun x => x)
/-- An operation that is taken out. -/
def dl (S : Int → Int → Bool) (x : Op) : Bool := !S (9 - x.1) x.2
def DlP (w : World) (b : Bool) (e : Ending) (w' : World) : Prop := e = .returned (.bool b) ∧ Below w.heap.size w w'
/-- An operation of the machine. -/
def OpOk (x : Op) : Prop := (0 ≤ x.1 ∧ x.1 ≤ 9) ∧ (0 ≤ x.2 ∧ x.2 ≤ 1000)
theorem del_any {w : World} {X L M n : Nat} {S : Int → Int → Bool} (h : Cx w X L M n S) (x : Op) (hx : OpOk x) :
    Calls Try.prog 40 #[.agg #[.int .i64 x.1, .int .i64 x.2], .pointer (some ⟨X, 0, none⟩)] w (DlP w (dl S x)) := by
  obtain ⟨ph, d⟩ := x
  obtain ⟨⟨hp1, hp2⟩, hd1, hd2⟩ := hx
  have hb := Below.refl w.heap.size w
  have hb1 : Below w.heap.size w (w.alloc (.cells #[.int .i64 ph, .int .i64 d] 30)) := bal hb _
  have h1 := h.below hb1
  have c0 := h1.x0
  have c3 := h1.c3
  have lX := h1.lX
  have lL := h1.lL
  have hb2 := Lib.hid hb1
  have hs9 : IntKind.i64.wrap (9 - ph) = 9 - ph := IntWalk.i64_in _ (by omega)
  have LK : ∀ nq, (Instr.lookup 56 (.map (some M)) (pv (9 - ph) d) false).run Try.prog ((w.alloc (.cells #[.int .i64 ph, .int .i64 d] 30)).drewN nq) = .ok (.bool (S (9 - ph) d)) ((w.alloc (.cells #[.int .i64 ph, .int .i64 d] 30)).drewN nq) := fun nq =>
    (h1.mp.chg (Chg.of_below (bel_drewN (Below.refl _ _) nq) (fun _ => False)) (fun x => x)).look _ _ (w64 (by omega)) (w64 (by omega))
  unfold pv at LK
  clear h h1 hb1 hb
  go_enter Try.func40, Try.ntmps40
  go_upto_region 2 with fail
  go_quiet (fail)
  go_wp2
  go_ret
  exact ⟨rfl, bel_drewN hb2.out _⟩
/-- The operations p lie in block Y. -/
def Rw (w : World) (Y : Nat) (p : List Op) : Prop := ∀ j, j < p.length * 2 → w.cell? ⟨Y, j, none⟩ = some (oV p j)
theorem Rw.at_ {w : World} {Y : Nat} {p : List Op} (h : Rw w Y p) {k : Nat} (hk : k < p.length) : w.cell? ⟨Y, k * 2, none⟩ = some (.int .i64 (p.getD k (0, 0)).1) ∧ w.cell? ⟨Y, k * 2 + 1, none⟩ = some (.int .i64 (p.getD k (0, 0)).2) := by
  exact ⟨by rw [h _ (by omega), oV0], by rw [h _ (by omega), oV1]⟩
theorem Rw.below {w w' : World} {Y : Nat} {p : List Op} (h : Rw w Y p) (hb : Below w.heap.size w w') (hY : Y < w.heap.size) : Rw w' Y p := fun j hj => (hb.cell (by exact hY)).trans (h j hj)
theorem getD_lt {p : List Op} {k : Nat} (hk : k < p.length) : p.getD k (0, 0) = p[k] := by simp [List.getD, hk]
/-- The first operation that is taken out; the length where there is none. -/
def fx (S : Int → Int → Bool) (p : List Op) : Nat := p.findIdx (dl S)
def IxP (w : World) (S : Int → Int → Bool) (p : List Op) (e : Ending) (w' : World) : Prop := e = .returned (.int .i64 (if fx S p < p.length then (fx S p : Int) else -1)) ∧ Below w.heap.size w w'
theorem fx_at {S : Int → Int → Bool} {p : List Op} {k : Nat} (hk : k < p.length) (h : dl S (p.getD k (0, 0)) = true) (hb : ∀ i, i < k → dl S (p.getD i (0, 0)) = false) : fx S p = k := by
  unfold fx
  rw [List.findIdx_eq hk]
  rw [getD_lt hk] at h
  exact ⟨h, fun j hj => by have := hb j hj; rwa [getD_lt (by omega)] at this⟩
theorem fx_no {S : Int → Int → Bool} {p : List Op} (hb : ∀ i, i < p.length → dl S (p.getD i (0, 0)) = false) : fx S p = p.length := by
  unfold fx
  rw [List.findIdx_eq_length]
  intro x hx
  obtain ⟨i, hi, rfl⟩ := List.getElem_of_mem hx
  have := hb i hi
  rwa [getD_lt hi] at this
theorem op_at {p : List Op} (h : ∀ x ∈ p, OpOk x) {k : Nat} (hk : k < p.length) : OpOk (p.getD k (0, 0)) := by
  rw [getD_lt hk]
  exact h _ (List.getElem_mem hk)
set_option maxRecDepth 20000 in
set_option maxHeartbeats 2000000 in
theorem ix_any {w : World} {X L M n Y : Nat} {S : Int → Int → Bool} (h : Cx w X L M n S) (p : List Op) (c : Nat) (hp : p.length ≤ 1000) (hY : Y < w.heap.size) (hr : Rw w Y p) (hO : ∀ x ∈ p, OpOk x) :
    Calls Try.prog 41 #[.slice (some ⟨Y, 0, none⟩) p.length c, .func (.func 40) #[] #[.pointer (some ⟨X, 0, none⟩)]] w (IxP w S p) := by
  have HC := Lib.hid h; clear h
  have HR := Lib.hid hr; clear hr
  have HO := Lib.hid hO; clear hO
  go_enter Try.func41, Try.ntmps41
  go_wp2_with fail
  go_loopw [8] (fun i wr => ∃ k : Nat, k ≤ p.length ∧ i = .int .i64 k ∧ Below w.heap.size w wr ∧ Hid (∀ i, i < k → dl S (p.getD i (0, 0)) = false)) (fun i _ => p.length - (intOf i).toNat)
  case atStart => exact ⟨0, Nat.zero_le _, rfl, Below.refl _ _, fun i hi => by omega⟩
  case round =>
    obtain ⟨k, hk, rfl, hB, HN⟩ := hrel
    by_cases hlt : k < p.length
    · obtain ⟨d0, d1⟩ := (HR.out.below hB hY).at_ hlt
      have CL := Lib.hid (del_any (HC.out.below hB) (p.getD k (0, 0)) (op_at HO.out hlt))
      generalize hx : p.getD k (0, 0) = x at d0 d1 CL
      obtain ⟨ph, d⟩ := x
      have HX := Lib.hid hx; clear hx
      go_wp2_with fail
      refine CL.out.mono ?_
      rintro e w2 ⟨rfl, hb2⟩
      have B2 := bel2 hB hb2
      clear CL d0 d1
      cases e1 : dl S (ph, d) with
      | true =>
        have E1 := Lib.hid e1; clear e1
        go_wp2
        go_ret
        have e9 : fx S p = k := fx_at hlt (by rw [HX.out]; exact E1.out) HN.out
        exact ⟨by rw [e9, if_pos hlt]; rfl, B2⟩
      | false =>
        have E1 := Lib.hid e1; clear e1
        go_wp2
        go_roundw
        case rel => exact ⟨k + 1, by omega, by go_num, B2, fun i hi => by
          rcases Nat.lt_or_ge i k with h1 | h1
          · exact HN.out i h1
          · have : i = k := by omega
            subst this; rw [HX.out]; exact E1.out⟩
        case measure => simp [intOf]; omega
    · have hk2 : k = p.length := by omega
      subst hk2
      have e9 : fx S p = p.length := fx_no HN.out
      have FIN : Hid (IxP w S p (.returned (.int .i64 (-1))) wr) := ⟨by rw [e9, if_neg (Nat.lt_irrefl _)], hB⟩
      clear e9 hB
      go_wp2
      go_ret
      exact FIN.out
end Go.Proofs.Ytcmklipifhpgmaa
