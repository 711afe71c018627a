/- Trace: the plain side. -/
import Derived.Test.YtcmklipifhpgmaaNew
namespace Go.Proofs.Ytcmklipifhpgmaa
open Go.ChangeShapes Go.WideShapes Go.ChangeAt Go.RowKit Go.Deep Go.Joins

def trF (m : Nat) (rs : Nat → Int) : Nat → SQ → List Op → List Op
  | 0, _, ops => ops
  | f + 1, s, ops => match (wakS s).1.p with
    | [] => ops
    | x :: _ => trF m rs f (cplS (wakS s).1 (if ops.length < m then rs ops.length else 0)).1 (ops ++ [x])
/-- How many operations may still come. -/
def pot (s : SQ) : Nat := if s.st = 0 then s.p.length + 4 * s.n else if s.st = 1 then 4 * s.n else s.p.length
/-- While a sequence runs: k operations are done. -/
structure Iv (s : SQ) (k : Nat) : Prop where
  dv : Dv s
  ok : ∀ x ∈ s.p, OpOk x
  ns : s.nS ≤ k
  pt : k + pot s ≤ 8 * s.n
  a1 : s.st = 1 → s.p = []
theorem kp_mem {S : Int → Int → Bool} {p : List Op} {x : Op} (h : x ∈ kp S p) : x ∈ p := (List.mem_filter.1 h).1
theorem bk_ok {s : SQ} (h : Dv s) : ∀ x ∈ bk s, OpOk x := fun x hx => bck_ok h 4 (Nat.le_refl _) x (kp_mem hx)
theorem bk_len (s : SQ) : (bk s).length ≤ 4 * s.n := by
  have := kp_len s.S (bck s.n s.o 4)
  rw [bck_len] at this
  exact this
theorem stl_2 (m : Nat) : stl 2 m ≠ 0 ∧ stl 2 m ≠ 1 := by
  unfold stl
  split <;> simp
theorem Iv.und {s : SQ} {k : Nat} (hd : Dv s) (hn : s.nS ≤ k) (r : Int) (hp : k + 4 * s.n ≤ 8 * s.n) : Iv (undS s r) k := by
  have h2 := stl_2 (bk s).length
  refine ⟨hd, bk_ok hd, hn, ?_, fun e => absurd e h2.2⟩
  have : pot (undS s r) = (bk s).length := by
    unfold pot undS
    simp only
    rw [if_neg h2.1, if_neg h2.2]
  have := bk_len s
  show k + pot (undS s r) ≤ 8 * s.n
  omega
theorem Iv.wak {s : SQ} {k : Nat} (h : Iv s k) : Iv (wakS s).1 k := by
  unfold wakS
  split
  · next h1 =>
    refine Iv.und h.dv h.ns 0 ?_
    have := h.pt
    unfold pot at this
    rw [h1] at this
    simpa using this
  · exact h
theorem wak_L (s : SQ) : (wakS s).1.L = s.L ∧ (wakS s).1.M = s.M ∧ (wakS s).1.n = s.n ∧ (wakS s).1.o = s.o ∧ (wakS s).1.OA = s.OA := by
  unfold wakS
  split <;> exact ⟨rfl, rfl, rfl, rfl, rfl⟩
theorem cpl_L (s : SQ) (r : Int) : (cplS s r).1.L = s.L ∧ (cplS s r).1.M = s.M ∧ (cplS s r).1.n = s.n ∧ (cplS s r).1.o = s.o ∧ (cplS s r).1.OA = s.OA := by
  unfold cplS
  split
  · exact ⟨rfl, rfl, rfl, rfl, rfl⟩
  · split
    · split <;> exact ⟨rfl, rfl, rfl, rfl, rfl⟩
    · exact ⟨rfl, rfl, rfl, rfl, rfl⟩
theorem Iv.cpl {s : SQ} {k : Nat} (h : Iv s k) (r : Int) (hp : s.p ≠ []) : Iv (cplS s r).1 (k + 1) := by
  obtain ⟨x, q, hq⟩ : ∃ x q, s.p = x :: q := by
    cases e : s.p with
    | nil => exact absurd e hp
    | cons x q => exact ⟨x, q, rfl⟩
  have hpt := h.pt
  have hok : ∀ y ∈ q, OpOk y := fun y hy => h.ok y (by rw [hq]; exact List.mem_cons_of_mem _ hy)
  have hns := h.ns
  unfold cplS
  rw [hq]
  simp only
  unfold pot at hpt
  rw [hq] at hpt
  simp only [List.length_cons] at hpt
  by_cases h0 : s.st = 0
  · rw [if_pos h0]
    rw [if_pos h0] at hpt
    by_cases hr : r = 0
    · rw [if_pos hr]
      refine ⟨h.dv, hok, by show s.nS + 1 ≤ k + 1; omega, ?_, fun e => ?_⟩
      case refine_2 =>
        have e : stl 0 q.length = 1 := e
        unfold stl at e
        by_cases hm : 0 < q.length
        · rw [if_pos hm] at e; cases e
        · show q = []
          exact List.length_eq_zero_iff.1 (by omega)
      show k + 1 + pot _ ≤ 8 * s.n
      unfold pot
      simp only
      unfold stl
      by_cases hm : 0 < q.length
      · rw [if_pos hm, if_pos rfl]; omega
      · rw [if_neg hm, if_pos rfl, if_neg (by decide), if_pos rfl]; omega
    · rw [if_neg hr]
      exact Iv.und h.dv (by omega) r (by omega)
  · rw [if_neg h0]
    rw [if_neg h0] at hpt
    have h1 : s.st ≠ 1 := fun e => by have := h.a1 e; rw [hq] at this; cases this
    have hst : stl s.st q.length ≠ 0 ∧ stl s.st q.length ≠ 1 := by
      unfold stl
      by_cases hm : 0 < q.length
      · rw [if_pos hm]; exact ⟨h0, h1⟩
      · rw [if_neg hm, if_neg h0]
        by_cases h2 : s.st = 2
        · rw [if_pos h2]; exact ⟨by decide, by decide⟩
        · rw [if_neg h2]; exact ⟨h0, h1⟩
    rw [if_neg h1] at hpt
    refine ⟨h.dv, hok, by show s.nS ≤ k + 1; omega, ?_, fun e => absurd e hst.2⟩
    show k + 1 + pot _ ≤ 8 * s.n
    unfold pot
    simp only
    rw [if_neg hst.1, if_neg hst.2]
    omega
theorem good_dv {n : Nat} {o : Nat → Int} (h : good n o) (L M : Nat) (OA : Option Addr) (oc : Nat) : Dv (newS L M OA oc n o) := by
  have := h.1
  exact ⟨h.1, fun i hi => by have h1 := h.2.1 i hi; exact ⟨h1.1, by show o i ≤ 1000; omega⟩⟩
theorem frw_ok {n : Nat} {o : Nat → Int} (h : good n o) : ∀ x ∈ frw n o 3, OpOk x := by
  intro x hx
  have hd : ∀ t, t < n → 0 ≤ o t ∧ o t ≤ 1000 := fun t ht => by have h1 := h.2.1 t ht; have := h.1; exact ⟨h1.1, by omega⟩
  have hpl : ∀ (ph : Int) (rev : Bool), 0 ≤ ph → ph ≤ 9 → ∀ x ∈ planL ph rev n o, OpOk x := fun ph rev h0 h9 x hx => by
    unfold planL at hx
    obtain ⟨j, hj, rfl⟩ := List.mem_map.1 hx
    have hj := List.mem_range.1 hj
    exact ⟨⟨h0, h9⟩, hd _ (by split <;> omega)⟩
  unfold frw at hx
  rcases List.mem_append.1 hx with hx | hx
  · exact hpl 1 false (by decide) (by decide) x hx
  · obtain ⟨i, hi, hx⟩ := List.mem_flatMap.1 hx
    have hi := List.mem_range.1 hi
    exact hpl _ true (by omega) (by omega) x hx
theorem new_iv {n : Nat} {o : Nat → Int} (h : good n o) (L M : Nat) (OA : Option Addr) (oc : Nat) : Iv (newS L M OA oc n o) 0 := by
  have hl := frw_len n o 3
  refine ⟨good_dv h L M OA oc, frw_ok h, Nat.le_refl _, ?_, fun e => ?_⟩
  · show 0 + pot _ ≤ 8 * n
    unfold pot newS stl
    simp only
    by_cases hm : 0 < (frw n o 3).length
    · rw [if_pos hm, if_pos rfl]; omega
    · simp only [if_neg hm]
      simp
      omega
  · have e : stl 0 (frw n o 3).length = 1 := e
    unfold stl at e
    by_cases hm : 0 < (frw n o 3).length
    · rw [if_pos hm] at e; cases e
    · show frw n o 3 = []
      exact List.length_eq_zero_iff.1 (by omega)
/-- A sequence in another world, away from other blocks. -/
theorem Sq.re {Z Z' T : Nat → Prop} {w w' : World} {s : SQ} (h : Sq Z w s) (hc : Chg T w w') (h1 : ¬ T s.L) (h2 : ¬ T s.M) (h3 : ∀ a, s.OA = some a → ¬ T a.block) (hn : ∀ b, b < w.heap.size → T b → Z b) (hz : ∀ b, Z' b → (Z b ∨ w.heap.size ≤ b) ∧ b < w'.heap.size) : Sq Z' w' s := by
  obtain ⟨PA, pc, e1, e2, e3, e4, e5⟩ := h.ex
  exact ⟨⟨PA, pc, e1.chg hc h1 h2 h3, e2.chg hc (fun a e _ ht => (e5 a e).1.2.2 (hn _ (e5 a e).2 ht)), e3, e4, fun a e => ⟨⟨(e5 a e).1.1, (e5 a e).1.2.1, fun hb => by
    have h9 := (e5 a e).2
    rcases (hz _ hb).1 with h8 | h8
    · exact (e5 a e).1.2.2 h8
    · omega⟩, Nat.lt_of_lt_of_le (e5 a e).2 hc.size⟩⟩, fun b hb => (hz b hb).2⟩
end Go.Proofs.Ytcmklipifhpgmaa
