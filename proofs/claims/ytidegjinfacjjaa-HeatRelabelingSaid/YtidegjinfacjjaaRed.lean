/- Readers of a model: floorDiv, validPower, temperatures, Energy, Temperature, Released. -/
import Derived.Test.YtidegjinfacjjaaMdl
namespace Go.Proofs.Ytidegjinfacjjaa
open Go.ChangeShapes Go.WideShapes Go.ChangeAt Go.RowKit Go.Deep Go.Joins

def PuP (w : World) (v : Value) (e : Ending) (w' : World) : Prop := e = .returned v ∧ w = w'
def QuP (w : World) (v : Value) (e : Ending) (w' : World) : Prop := e = .returned v ∧ Below w.heap.size w w'
theorem fd_any (a b : Int) (w : World) (hb : 1 ≤ b) (h0 : -4611686018427387904 ≤ a) (h1 : a ≤ 4611686018427387904) : Calls Try.prog 38 #[.int .i64 a, .int .i64 b] w (PuP w (.int .i64 (a / b))) := by
  have hnz : (b == 0) = false := beq_eq_false_iff_ne.2 (by omega)
  rcases Int.le_total 0 a with h | h
  · have d0 : 0 ≤ a / b := Int.ediv_nonneg h (by omega)
    have d1 := Int.ediv_le_self b h
    have m0 : 0 ≤ a % b := Int.emod_nonneg _ (by omega)
    have m1 : a % b < b := Int.emod_lt_of_pos _ (by omega)
    have m2 : ¬ a % b < 0 := by omega
    go_enter Try.func38, Try.ntmps38
    go_wp2
    go_ret
    exact ⟨rfl, rfl⟩
  · have F := Lib.hid (tdiv_fix a b (by omega))
    have e : a.tdiv b = -((-a) / b) := by
      have : a.tdiv b = -((-a).tdiv b) := by rw [Int.neg_tdiv]; omega
      rw [this, Int.tdiv_eq_ediv_of_nonneg (by omega)]
    have q1 := Int.ediv_le_self b (show 0 ≤ -a by omega)
    have q0 : 0 ≤ (-a) / b := Int.ediv_nonneg (by omega) (by omega)
    have t0 : -4611686018427387904 ≤ a.tdiv b ∧ a.tdiv b ≤ 0 := by rw [e]; omega
    clear e q1 q0
    have w1 : wrap64 (a.tdiv b) = a.tdiv b := IntWalk.wrap64_in _ (by omega)
    have w2 : wrap64 (a.tdiv b - 1) = a.tdiv b - 1 := IntWalk.wrap64_in _ (by omega)
    have w3 : wrap64 (a.tmod b) = a.tmod b := by
      have h5 : a.tmod b = -((-a) % b) := by
        have : a.tmod b = -((-a).tmod b) := by rw [Int.neg_tmod]; omega
        rw [this, Int.tmod_eq_emod_of_nonneg (by omega)]
      have h6 : 0 ≤ (-a) % b := Int.emod_nonneg _ (by omega)
      have h7 : (-a) % b ≤ -a := by
        have e1 := Int.emod_add_mul_ediv (-a) b
        have e2 : 0 ≤ b * ((-a) / b) := Int.mul_nonneg (by omega) (Int.ediv_nonneg (by omega) (by omega))
        omega
      rw [h5]
      exact IntWalk.wrap64_in _ (by omega)
    have t1 := t0.1
    have t2 := t0.2
    clear t0
    by_cases hm : a.tmod b < 0
    · have F := Lib.hid (show a.tdiv b - 1 = a / b by have := F.out; rw [if_pos hm] at this; exact this)
      go_enter Try.func38, Try.ntmps38
      go_wp2
      go_ret
      exact ⟨by rw [← F.out]; rfl, rfl⟩
    · have F := Lib.hid (show a.tdiv b = a / b by have := F.out; rw [if_neg hm] at this; exact this)
      go_enter Try.func38, Try.ntmps38
      go_wp2
      go_ret
      exact ⟨by rw [← F.out]; rfl, rfl⟩
/-- The powers are permitted. -/
def vpB (l n : Nat) (Z : Nat → Int) : Bool := decide (l = n) && (List.range l).all (fun i => decide (0 ≤ Z i ∧ Z i ≤ 16777216))
theorem vp_of {l n : Nat} {Z : Nat → Int} (e : l = n) (h : ∀ i, i < l → 0 ≤ Z i ∧ Z i ≤ 16777216) : vpB l n Z = true := by
  unfold vpB
  rw [decide_eq_true e, Bool.true_and, List.all_eq_true]
  intro i hi
  exact decide_eq_true (h i (List.mem_range.1 hi))
theorem vp_bad {l n : Nat} {Z : Nat → Int} {i : Nat} (hi : i < l) (h : ¬ (0 ≤ Z i ∧ Z i ≤ 16777216)) : vpB l n Z = false := by
  unfold vpB
  rw [Bool.and_eq_false_iff]
  right
  rw [List.all_eq_false]
  exact ⟨i, List.mem_range.2 hi, by rw [decide_eq_false h]; exact Bool.false_ne_true⟩
theorem vp_len {l n : Nat} {Z : Nat → Int} (h : l ≠ n) : vpB l n Z = false := by unfold vpB; rw [decide_eq_false h]; rfl
theorem vp_at {l n : Nat} {Z : Nat → Int} (h : vpB l n Z = true) : l = n ∧ ∀ i, i < l → 0 ≤ Z i ∧ Z i ≤ 16777216 := by
  unfold vpB at h
  rw [Bool.and_eq_true, List.all_eq_true] at h
  exact ⟨of_decide_eq_true h.1, fun i hi => of_decide_eq_true (h.2 i (List.mem_range.2 hi))⟩
set_option maxRecDepth 20000 in
set_option maxHeartbeats 4000000 in
theorem vp_any (A : Option Addr) (n c : Nat) (P : Option Addr) (l c2 : Nat) (Z : Nat → Int) (w : World) (h : Fl w P 1 l (eV Z)) : Calls Try.prog 33 #[.slice A n c, .slice P l c2] w (PuP w (.bool (vpB l n Z))) := by
  have hl := h.len
  by_cases hln : l = n
  case neg =>
    have V := Lib.hid (vp_len (Z := Z) hln)
    have q : ((l : Int) != n) = true := bne_iff_ne.2 (by omega)
    clear h hln
    go_enter Try.func33, Try.ntmps33
    go_wp2
    go_ret
    exact ⟨by rw [V.out]; rfl, rfl⟩
  case pos =>
    have q : ((l : Int) != n) = false := bne_eq_false_iff_eq.2 (by omega)
    have HE := Lib.hid hln
    have H := Lib.hid h
    clear h hln
    go_enter Try.func33, Try.ntmps33
    go_wp2
    go_loop [14] (fun i => ∃ k : Nat, k ≤ l ∧ i = .int .i64 k ∧ ∀ j, j < k → 0 ≤ Z j ∧ Z j ≤ 16777216) (fun i => l - (intOf i).toNat)
    case atStart => exact ⟨0, Nat.zero_le _, rfl, fun j hj => by omega⟩
    case round =>
      obtain ⟨k, hk, rfl, ho⟩ := hrel
      have HO := Lib.hid ho
      clear ho
      by_cases hlt : k < l
      · obtain ⟨b, off, rfl, hb, c0⟩ := H.out.eat hlt
        by_cases h1 : Z k < 0
        · have V := Lib.hid (vp_bad (n := n) (Z := Z) hlt (by omega))
          go_wp2
          go_ret
          exact ⟨by rw [V.out]; rfl, rfl⟩
        by_cases h2 : 16777216 < Z k
        · have V := Lib.hid (vp_bad (n := n) (Z := Z) hlt (by omega))
          go_wp2
          go_ret
          exact ⟨by rw [V.out]; rfl, rfl⟩
        go_wp2
        go_round
        case rel => exact ⟨k + 1, by omega, by go_num, fun j hj => by
          rcases Nat.lt_or_ge j k with h | h
          · exact HO.out j h
          · obtain rfl : j = k := by omega
            omega⟩
        case measure => simp [intOf]; omega
      · have V := Lib.hid (vp_of (Z := Z) HE.out (fun j hj => HO.out j (by omega)))
        go_wp2
        go_ret
        exact ⟨by rw [V.out]; rfl, rfl⟩
/-- Temperatures in a slice of one's own. -/
def TmP (w : World) (n : Nat) (T : Nat → Int) (v : Value) (w' : World) : Prop := ∃ A c, v = .slice A n c ∧ Fl w' A 1 n (eV T) ∧ (∀ a, A = some a → w.heap.size ≤ a.block ∧ a.block < w'.heap.size)
structure Tg (w wr : World) (Y n k : Nat) (T : Nat → Int) : Prop where
  bel : Below w.heap.size w wr
  lY : Y < wr.heap.size
  Y0 : w.heap.size ≤ Y
  all : ∀ j, j < n → ∃ v, wr.cell? ⟨Y, j, none⟩ = some v
  done : ∀ j, j < k → wr.cell? ⟨Y, j, none⟩ = some (.int .i64 (T j))
  frz : ∀ j, wr.frozen? ⟨Y, j, none⟩ = false
theorem Tg.set {w wr : World} {Y n k : Nat} {T : Nat → Int} (h : Tg w wr Y n k T) (hk : k < n) : Tg w (wr.setCell ⟨Y, k, none⟩ (.int .i64 (T k))) Y n (k + 1) T := by
  have hc := Chg.set wr Y k (.int .i64 (T k))
  refine ⟨Below.chg h.bel hc h.bel.size (fun b hb => by have := h.Y0; omega), Nat.lt_of_lt_of_le h.lY hc.size, h.Y0, fun j hj => ?_, fun j hj => ?_, fun j => (set_frz ..).trans (h.frz j)⟩
  · by_cases e : j = k
    · subst e
      obtain ⟨v, hv⟩ := h.all j hj
      exact ⟨_, set_same _ _ _ _ _ hv⟩
    · obtain ⟨v, hv⟩ := h.all j hj
      exact ⟨v, (set_off _ _ _ _ _ e).trans hv⟩
  · by_cases e : j = k
    · subst e
      obtain ⟨v, hv⟩ := h.all j hk
      exact set_same _ _ _ _ _ hv
    · exact (set_off _ _ _ _ _ e).trans (h.done j (by omega))
theorem Tg.below {w wr wx : World} {Y n k : Nat} {T : Nat → Int} (h : Tg w wr Y n k T) (hb : Below wr.heap.size wr wx) : Tg w wx Y n k T :=
  ⟨bel2 h.bel hb, Nat.lt_of_lt_of_le h.lY hb.size, h.Y0, fun j hj => by obtain ⟨v, hv⟩ := h.all j hj; exact ⟨v, (hb.cell (by exact h.lY)).trans hv⟩, fun j hj => (hb.cell (by exact h.lY)).trans (h.done j hj), fun j => (hb.frozen (by exact h.lY)).trans (h.frz j)⟩
theorem tg_made (w : World) (n t : Nat) (T : Nat → Int) : Tg w (w.alloc (.cells (madeCells #[.int .i64 0] n) t)) w.heap.size n 0 T := by
  have R := World.rowIs_made w (.int .i64 0) n t
  exact ⟨bal (Below.refl _ _) _, by simp, Nat.le_refl _, fun j hj => ⟨_, R.cell hj⟩, fun j hj => by omega, fun j => R.frozen j⟩
end Go.Proofs.Ytidegjinfacjjaa
