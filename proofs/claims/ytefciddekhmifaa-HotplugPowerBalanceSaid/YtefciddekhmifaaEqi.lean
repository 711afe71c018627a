/- help.Mod; help.Equal at []int. -/
import Derived.Test.YtefciddekhmifaaGen
namespace Go.Proofs.Ytefciddekhmifaa
open Go.RowKit

theorem mod_any (v : Int) (n : Nat) (hn : 1 ≤ n) (hn2 : n ≤ 1000000) (w : World) : Calls Try.prog 8 #[.int .i64 v, .int .i64 n] w fun e w' => e = .returned (.int .i64 (modOf v n : Nat)) ∧ w = w' := by
  have E := Lib.hid (modOf_spec v n hn hn2)
  go_enter Try.func8, Try.ntmps8
  go_wp2
  go_ret
  exact ⟨congrArg (fun x => Ending.returned (.int .i64 x)) E.out.1, rfl⟩
def EqPost (w : World) (b : Bool) (e : Ending) (w' : World) : Prop := e = .returned (.bool b) ∧ Below w.heap.size w w'
set_option maxRecDepth 100000 in
set_option maxHeartbeats 1000000 in
theorem eq_any (A B : Option Addr) (c d B1 B2 : Nat) (l m : List Int) (w : World) (h1 : IL .i64 B1 w A l) (h2 : IL .i64 B2 w B m) (hl : l.length ≤ 1000000) :
    Calls Try.prog 9 #[.slice A l.length c, .slice B m.length d] w (EqPost w (decide (l = m))) := by
  by_cases hlen : l.length = m.length
  · rw [hlen] at hl ⊢
    obtain ⟨n, hn⟩ : ∃ n, m.length = n := ⟨_, rfl⟩
    have HN : Hid (l.length = n ∧ m.length = n) := ⟨by omega, hn⟩
    rw [hn] at hl ⊢
    clear hlen hn
    have EX : Hid ((∀ i, i < n → l.getD i 0 = m.getD i 0) → l = m) := fun h => List.ext_getElem (by rw [HN.out.1, HN.out.2]) fun i h1 h2 => by
      have := h i (by rw [← HN.out.1]; exact h1)
      rw [List.getD_eq_getElem?_getD, List.getD_eq_getElem?_getD, List.getElem?_eq_getElem h1, List.getElem?_eq_getElem h2] at this
      simpa using this
    have NE : Hid (∀ i, l.getD i 0 ≠ m.getD i 0 → decide (l = m) = false) := fun i h => by
      simp only [decide_eq_false_iff_not]
      intro e; exact h (by rw [e])
    have C1 : Hid (∀ i, i < n → ∃ b off, A = some ⟨b, off, none⟩ ∧ w.cell? ⟨b, off + i, none⟩ = some (.int .i64 (l.getD i 0))) := fun i hi => by
      rcases h1 with h0 | ⟨b, off, hA, _, _, hc⟩
      · have := HN.out.1; subst h0; simp at this; omega
      · exact ⟨b, off, hA, hc i (by rw [HN.out.1]; exact hi)⟩
    have C2 : Hid (∀ i, i < n → ∃ b off, B = some ⟨b, off, none⟩ ∧ w.cell? ⟨b, off + i, none⟩ = some (.int .i64 (m.getD i 0))) := fun i hi => by
      rcases h2 with h0 | ⟨b, off, hA, _, _, hc⟩
      · have := HN.out.2; subst h0; simp at this; omega
      · exact ⟨b, off, hA, hc i (by rw [HN.out.2]; exact hi)⟩
    clear h1 h2
    go_enter Try.func9, Try.ntmps9
    go_wp2
    go_loopw [5] (fun i wr => ∃ k q : Nat, k ≤ n ∧ i = .int .i64 k ∧ wr = w.drewN q ∧ Hid (∀ j, j < k → l.getD j 0 = m.getD j 0)) (fun i _ => n - (intOf i).toNat)
    case atStart => exact ⟨0, 0, by omega, rfl, rfl, fun j hj => by omega⟩
    case round =>
      obtain ⟨k, q, hk, rfl, rfl, HE⟩ := hrel
      by_cases hlt : k < n
      · obtain ⟨b, off, rfl, d1⟩ := C1.out k hlt
        obtain ⟨b', off', rfl, d2⟩ := C2.out k hlt
        have HX : Hid (l.getD k 0 = m.getD k 0 → ∀ j, j < k + 1 → l.getD j 0 = m.getD j 0) := fun h j hj => by
          rcases Nat.lt_or_ge j k with g | g
          · exact HE.out j g
          · have : j = k := by omega
            subst this; exact h
        have HY := Lib.hid (NE.out k)
        have i1 : (k : Int) < n := by omega
        generalize l.getD k 0 = x at *
        generalize m.getD k 0 = y at *
        by_cases hxy : x = y
        · have HZ := Lib.hid (HX.out hxy)
          have hb : (x != y) = false := by simp [hxy]
          clear hxy
          go_wp2_with fail
          go_quiet (fail)
          go_wp2
          go_roundw
          case rel => exact ⟨k + 1, q + nq, by omega, by go_num, rfl, HZ⟩
          case measure => simp [intOf]; omega
        · have HZ := Lib.hid (HY.out hxy)
          have hb : (x != y) = true := by simp [hxy]
          clear hxy
          go_wp2_with fail
          go_quiet (fail)
          go_wp2
          go_ret
          exact ⟨by rw [HZ.out]; rfl, below_drewN (below_drewN (Below.refl _ _) _) _⟩
      · obtain rfl : k = n := by omega
        have HZ : Hid (decide (l = m) = true) := by
          show _ = _
          simp [EX.out HE.out]
        go_wp2
        go_ret
        exact ⟨by rw [HZ.out]; rfl, below_drewN (Below.refl _ _) _⟩
  · have HZ : Hid (decide (l = m) = false) := by
      show _ = _
      simp only [decide_eq_false_iff_not]
      intro e; exact hlen (by rw [e])
    have hb : ((l.length : Int) != (m.length : Int)) = true := by simp; omega
    clear h1 h2 hlen hl
    go_enter Try.func9, Try.ntmps9
    go_wp2
    go_ret
    exact ⟨by rw [HZ.out]; rfl, Below.refl _ _⟩
end Go.Proofs.Ytefciddekhmifaa
