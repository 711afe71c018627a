/- help.Equal on operations, help.Mod. -/
import Derived.Test.YtcmklipifhpgmaaDlc
import Derived.Laws.StructEq
namespace Go.Proofs.Ytcmklipifhpgmaa
open Go.ChangeShapes Go.WideShapes Go.ChangeAt Go.RowKit Go.Deep Go.Joins

theorem mod_any (v : Int) (n : Nat) (hn : 1 ≤ n) (hn2 : n ≤ 1000000) (w : World) : Calls Try.prog 12 #[.int .i64 v, .int .i64 n] w fun e w' => e = .returned (.int .i64 (modOf v n : Nat)) ∧ w' = w := by
  have H := Lib.hid (modOf_spec v n hn hn2).1
  have hnz : ((n : Int) == 0) = false := beq_eq_false_iff_ne.2 (by omega)
  have hw : IntKind.u64.wrap (n : Int) = n := by rw [IntKind.wrap_u64]; omega
  go_enter Try.func12, Try.ntmps12
  go_wp2
  go_ret
  refine ⟨?_, rfl⟩
  rw [← H.out]
  rfl
def EqlP (w : World) (p q : List Op) (e : Ending) (w' : World) : Prop := e = .returned (.bool (decide (p = q))) ∧ Below w.heap.size w w'
theorem eql_len (A B : Option Addr) (n m c d : Nat) (w : World) (hne : n ≠ m) : Calls Try.prog 13 #[.slice A n c, .slice B m d] w fun e w' => e = .returned (.bool false) ∧ w' = w := by
  have h1 : ((n : Int) != (m : Int)) = true := by simp; omega
  have HN := Lib.hid hne; clear hne
  go_enter Try.func13, Try.ntmps13
  go_wp2
  go_ret
  exact ⟨rfl, rfl⟩
theorem list_eq {p q : List Op} (hl : p.length = q.length) (h : ∀ i, i < p.length → p.getD i (0, 0) = q.getD i (0, 0)) : p = q := by
  apply List.ext_getElem hl
  intro i h1 h2
  have := h i h1
  rwa [getD_lt h1, getD_lt h2] at this
theorem eql_zero (A B : Option Addr) (c d : Nat) (w : World) : Calls Try.prog 13 #[.slice A 0 c, .slice B 0 d] w fun e w' => e = .returned (.bool true) ∧ w' = w := by
  go_enter Try.func13, Try.ntmps13
  go_wp2_with fail
  go_loopw [5] (fun i wr => i = .int .i64 0 ∧ wr = w) (fun i _ => (intOf i).toNat)
  case atStart => exact ⟨rfl, rfl⟩
  case round =>
    obtain ⟨rfl, rfl⟩ := hrel
    go_wp2
    go_ret
    exact ⟨rfl, rfl⟩
set_option maxRecDepth 100000 in
set_option maxHeartbeats 2000000 in
theorem eql_pos (a1 o1 a2 o2 n c d : Nat) (g h : Nat → Op) (w : World) (hn : n ≤ 9223372036854775807) (hb1 : a1 < w.heap.size) (hb2 : a2 < w.heap.size)
    (hc1 : ∀ i, i < n → w.cell? ⟨a1, o1 + i * 2, none⟩ = some (.int .i64 (g i).1) ∧ w.cell? ⟨a1, o1 + i * 2 + 1, none⟩ = some (.int .i64 (g i).2))
    (hc2 : ∀ i, i < n → w.cell? ⟨a2, o2 + i * 2, none⟩ = some (.int .i64 (h i).1) ∧ w.cell? ⟨a2, o2 + i * 2 + 1, none⟩ = some (.int .i64 (h i).2)) :
    Calls Try.prog 13 #[.slice (some ⟨a1, o1, none⟩) n c, .slice (some ⟨a2, o2, none⟩) n d] w fun e w' => (e = .returned (.bool true) ∧ (∀ i, i < n → g i = h i) ∨ e = .returned (.bool false) ∧ ∃ i, i < n ∧ g i ≠ h i) ∧ Below w.heap.size w w' := by
  have H1 := Lib.hid hc1; clear hc1
  have H2 := Lib.hid hc2; clear hc2
  have hee : ((n : Int) != (n : Int)) = false := by simp
  go_enter Try.func13, Try.ntmps13
  go_wp2_with fail
  go_loopw [5] (fun i wr => ∃ k : Nat, k ≤ n ∧ i = .int .i64 k ∧ Below w.heap.size w wr ∧ Hid (∀ i, i < k → g i = h i)) (fun i _ => n - (intOf i).toNat)
  case atStart => exact ⟨0, Nat.zero_le _, rfl, Below.refl _ _, fun i hi => by omega⟩
  case round =>
    obtain ⟨k, hk, rfl, hB, HE⟩ := hrel
    by_cases hlt : k < n
    · obtain ⟨c0, c1⟩ := H1.out k hlt
      obtain ⟨d0, d1⟩ := H2.out k hlt
      rw [← hB.cell hb1] at c0 c1
      rw [← hB.cell hb2] at d0 d1
      generalize hX : g k = X at *
      generalize hY : h k = Y at *
      obtain ⟨xv, xx⟩ := X
      obtain ⟨yv, yx⟩ := Y
      have HX := Lib.hid hX
      have HY := Lib.hid hY
      clear hX hY
      simp only at c0 c1 d0 d1
      by_cases e1 : xv = yv
      · subst e1
        by_cases e2 : xx = yx
        · subst e2
          go_wp2_with fail
          go_quiet (fail)
          go_wp2
          go_roundw
          case rel => exact ⟨k + 1, by omega, by go_num, bel_drewN hB _, fun i hi => by
            rcases Nat.lt_or_ge i k with h1 | h1
            · exact HE.out i h1
            · have : i = k := by omega
              subst this; rw [HX.out, HY.out]⟩
          case measure => simp [intOf]; omega
        · go_wp2_with fail
          go_quiet (fail)
          go_wp2
          go_ret
          exact ⟨.inr ⟨rfl, k, hlt, by rw [HX.out, HY.out]; intro e; injection e with _ e; exact e2 e⟩, bel_drewN hB _⟩
      · go_wp2_with fail
        go_quiet (fail)
        go_wp2
        go_ret
        exact ⟨.inr ⟨rfl, k, hlt, by rw [HX.out, HY.out]; intro e; injection e with e _; exact e1 e⟩, bel_drewN hB _⟩
    · have : k = n := by omega
      subst this
      go_wp2
      go_ret
      exact ⟨.inl ⟨rfl, HE.out⟩, hB⟩
theorem eql_any {A B : Option Addr} {c d : Nat} {p q : List Op} {w : World} (h1 : Fl w A 2 p.length (oV p)) (h2 : Fl w B 2 q.length (oV q)) : Calls Try.prog 13 #[.slice A p.length c, .slice B q.length d] w (EqlP w p q) := by
  by_cases hl : p.length = q.length
  · rcases Nat.eq_zero_or_pos p.length with h0 | h0
    · have ep : p = [] := List.length_eq_zero_iff.1 h0
      have eq : q = [] := List.length_eq_zero_iff.1 (by omega)
      subst ep eq
      refine (eql_zero A B c d w).mono ?_
      rintro e w' ⟨rfl, hw⟩
      rw [hw]
      exact ⟨by simp, Below.refl _ _⟩
    · obtain ⟨b1, o1, rfl, l1, k1⟩ := h1.at (Below.refl _ _) (Nat.le_refl _) h0
      obtain ⟨b2, o2, rfl, l2, k2⟩ := h2.at (Below.refl _ _) (Nat.le_refl _) (by omega)
      have hlen := h1.len
      have P := eql_pos b1 o1 b2 o2 p.length c d (fun i => p.getD i (0, 0)) (fun i => q.getD i (0, 0)) w hlen l1 l2 (fun i hi => ⟨by rw [k1 _ (by omega), oV0], by rw [Nat.add_assoc, k1 _ (by omega), oV1]⟩) (fun i hi => ⟨by rw [k2 _ (by omega), oV0], by rw [Nat.add_assoc, k2 _ (by omega), oV1]⟩)
      rw [← hl]
      refine P.mono ?_
      rintro e w' ⟨h | h, hb⟩
      · exact ⟨by rw [h.1, decide_eq_true (list_eq hl h.2)], hb⟩
      · obtain ⟨rfl, i, hi, hne⟩ := h
        exact ⟨by rw [decide_eq_false (fun e => hne (by rw [e]))], hb⟩
  · refine (eql_len A B p.length q.length c d w hl).mono ?_
    rintro e w' ⟨rfl, hw⟩
    rw [hw]
    exact ⟨by rw [decide_eq_false (fun e => hl (by rw [e]))], Below.refl _ _⟩
end Go.Proofs.Ytcmklipifhpgmaa
