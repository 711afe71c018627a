/- help.Equal on operations. -/
import Derived.Test.YtfmaadfccnjnjaaTra
import Derived.Laws.StructEq
namespace Go.Proofs.Ytfmaadfccnjnjaa
open Go.RowKit

def eqP (a b : PO) : Bool := (a.v == b.v) && (a.x == b.x)
def eqTo (g h : Nat → PO) : Nat → Bool
  | 0 => true
  | k + 1 => eqTo g h k && eqP (g k) (h k)
theorem eqTo_le {g h : Nat → PO} {k n : Nat} (hk : k ≤ n) (he : eqTo g h n = true) : eqTo g h k = true := by
  induction n with
  | zero => have : k = 0 := by omega
            subst this; rfl
  | succ n ih =>
    simp only [eqTo, Bool.and_eq_true] at he
    rcases Nat.lt_or_ge k (n + 1) with h1 | h1
    · exact ih (by omega) he.1
    · have : k = n + 1 := by omega
      subst this; simp [eqTo, he]
theorem eqTo_not {g h : Nat → PO} {k n : Nat} (hk : k < n) (he : eqP (g k) (h k) = false) : eqTo g h n = false := by
  cases e : eqTo g h n
  · rfl
  · have := eqTo_le (show k + 1 ≤ n by omega) e
    simp [eqTo, he] at this
def eqlB (n m : Nat) (g h : Nat → PO) : Bool := decide (n = m) && eqTo g h n
def EqlPost (w : World) (n m : Nat) (g h : Nat → PO) (e : Ending) (w' : World) : Prop := e = .returned (.bool (eqlB n m g h)) ∧ Below w.heap.size w w'
theorem eql_len (A B : Option Addr) (n m c d : Nat) (g h : Nat → PO) (w : World) (_hn : n ≤ 9223372036854775807) (_hm : m ≤ 9223372036854775807) (hne : n ≠ m) :
    Calls Try.prog 21 #[.slice A n c, .slice B m d] w (EqlPost w n m g h) := by
  have h1 : ((n : Int) != (m : Int)) = true := by simp; omega
  have E : Hid (eqlB n m g h = false) := by show _ = _; simp [eqlB, hne]
  have HN := Lib.hid hne; clear hne
  go_enter Try.func21, Try.ntmps21
  go_wp2
  go_ret
  exact ⟨by rw [E.out]; rfl, Below.refl _ _⟩
theorem eql_zero (A B : Option Addr) (c d : Nat) (g h : Nat → PO) (w : World) : Calls Try.prog 21 #[.slice A 0 c, .slice B 0 d] w (EqlPost w 0 0 g h) := by
  go_enter Try.func21, Try.ntmps21
  go_wp2_with fail
  go_loopw [5] (fun i wr => i = .int .i64 0 ∧ wr = w) (fun i _ => (intOf i).toNat)
  case atStart => exact ⟨rfl, rfl⟩
  case round =>
    obtain ⟨rfl, rfl⟩ := hrel
    go_wp2
    go_ret
    exact ⟨rfl, Below.refl _ _⟩
set_option maxRecDepth 100000 in
set_option maxHeartbeats 2000000 in
theorem eql_pos (a1 o1 a2 o2 n c d : Nat) (g h : Nat → PO) (w : World) (hn : n ≤ 9223372036854775807) (hb1 : a1 < w.heap.size) (hb2 : a2 < w.heap.size)
    (hc1 : ∀ i, i < n → w.cell? ⟨a1, o1 + i * 2, none⟩ = some (.bool (g i).v) ∧ w.cell? ⟨a1, o1 + i * 2 + 1, none⟩ = some (.int .u64 (g i).x))
    (hc2 : ∀ i, i < n → w.cell? ⟨a2, o2 + i * 2, none⟩ = some (.bool (h i).v) ∧ w.cell? ⟨a2, o2 + i * 2 + 1, none⟩ = some (.int .u64 (h i).x)) :
    Calls Try.prog 21 #[.slice (some ⟨a1, o1, none⟩) n c, .slice (some ⟨a2, o2, none⟩) n d] w (EqlPost w n n g h) := by
  have H1 := Lib.hid hc1; clear hc1
  have H2 := Lib.hid hc2; clear hc2
  have hee : ((n : Int) != (n : Int)) = false := by simp
  go_enter Try.func21, Try.ntmps21
  go_wp2_with fail
  go_loopw [5] (fun i wr => ∃ k : Nat, k ≤ n ∧ i = .int .i64 k ∧ Below w.heap.size w wr ∧ Hid (eqTo g h k = true)) (fun i _ => n - (intOf i).toNat)
  case atStart => exact ⟨0, Nat.zero_le _, rfl, Below.refl _ _, rfl⟩
  case round =>
    obtain ⟨k, hk, rfl, hB, HE⟩ := hrel
    by_cases hlt : k < n
    · obtain ⟨c0, c1⟩ := H1.out k hlt
      obtain ⟨d0, d1⟩ := H2.out k hlt
      rw [← hB.cell hb1] at c0 c1
      rw [← hB.cell hb2] at d0 d1
      have NO := Lib.hid (fun h0 => eqTo_not (g := g) (h := h) hlt h0)
      have ST : Hid (eqTo g h (k + 1) = (eqTo g h k && eqP (g k) (h k))) := rfl
      generalize g k = X at *
      generalize h k = Y at *
      obtain ⟨xv, xx⟩ := X
      obtain ⟨yv, yx⟩ := Y
      simp only at c0 c1 d0 d1
      by_cases e1 : xv = yv
      · subst e1
        by_cases e2 : xx = yx
        · subst e2
          have EP : Hid (eqP ⟨xv, xx⟩ ⟨xv, xx⟩ = true) := by show _ = _; simp [eqP]
          go_wp2_with fail
          go_quiet (fail)
          go_wp2
          go_roundw
          case rel => exact ⟨k + 1, by omega, by go_num, below_drewN hB _, by show _ = _; rw [ST.out, HE.out, EP.out]; rfl⟩
          case measure => simp [intOf]; omega
        · have EP : Hid (eqP ⟨xv, xx⟩ ⟨xv, yx⟩ = false) := by show _ = _; simp [eqP, e2]
          go_wp2_with fail
          go_quiet (fail)
          go_wp2
          go_ret
          exact ⟨by rw [eqlB, NO.out EP.out]; simp, below_drewN hB _⟩
      · have EP : Hid (eqP ⟨xv, xx⟩ ⟨yv, yx⟩ = false) := by show _ = _; simp [eqP, e1]
        go_wp2_with fail
        go_quiet (fail)
        go_wp2
        go_ret
        exact ⟨by rw [eqlB, NO.out EP.out]; simp, below_drewN hB _⟩
    · have : k = n := by omega
      subst this
      go_wp2
      go_ret
      exact ⟨by rw [eqlB, HE.out]; simp, hB⟩
theorem eql_any (A B : Option Addr) (n m c d : Nat) (g h : Nat → PO) (w : World) (hg : PlS w A n g) (hh : PlS w B m h) :
    Calls Try.prog 21 #[.slice A n c, .slice B m d] w (EqlPost w n m g h) := by
  by_cases hne : n = m
  · subst hne
    rcases hg.row with h0 | ⟨a1, o1, rfl, hb1, hc1⟩
    · subst h0; exact eql_zero A B c d g h w
    · rcases hh.row with h0 | ⟨a2, o2, rfl, hb2, hc2⟩
      · subst h0; exact eql_zero _ B c d g h w
      · exact eql_pos a1 o1 a2 o2 n c d g h w hg.len hb1 hb2 hc1 hc2
  · exact eql_len A B n m c d g h w hg.len hh.len hne
end Go.Proofs.Ytfmaadfccnjnjaa
