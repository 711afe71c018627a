/- A sequence without errors: its operations. -/
import Derived.Test.YtcmklipifhpgmaaOrw
namespace Go.Proofs.Ytcmklipifhpgmaa
open Go.ChangeShapes Go.WideShapes Go.ChangeAt Go.RowKit Go.Deep Go.Joins

theorem trF_up (m : Nat) (rs : Nat → Int) : ∀ (l : List Op) (f : Nat) (s : SQ) (ops : List Op), (s.st = 2 ∨ s.st = 3) → s.p = l → l.length ≤ f → trF m rs f s ops = ops ++ l
  | l, 0, s, ops, _, _, hf => by
    have : l = [] := List.length_eq_zero_iff.1 (by omega)
    subst this
    simp [trF]
  | [], f + 1, s, ops, hs, hp, _ => by
    have e : (wakS s).1 = s := by unfold wakS; rw [if_neg (by rcases hs with h | h <;> rw [h] <;> decide)]
    rw [trF, e, hp]
    simp
  | x :: q, f + 1, s, ops, hs, hp, hf => by
    have e : (wakS s).1 = s := by unfold wakS; rw [if_neg (by rcases hs with h | h <;> rw [h] <;> decide)]
    rw [trF, e, hp]
    simp only
    have hst : ∀ r, (cplS s r).1.st = stl s.st q.length ∧ (cplS s r).1.p = q := fun r => by
      unfold cplS
      rw [hp]
      simp only
      rw [if_neg (by rcases hs with h | h <;> rw [h] <;> decide)]
      exact ⟨rfl, rfl⟩
    rw [trF_up m rs q f _ _ (by
      rw [(hst _).1]
      unfold stl
      rcases hs with h | h <;> rw [h] <;> split <;> simp) (hst _).2 (by simp at hf; omega)]
    simp
theorem trF_down (m : Nat) (rs : Nat → Int) (hz : ∀ i, (if i < m then rs i else 0) = 0) : ∀ (q : List Op) (x : Op) (f : Nat) (s : SQ) (ops : List Op), s.st = 0 → s.p = x :: q →
    ∃ nS, trF m rs (q.length + 1 + f) s ops = trF m rs f { s with st := 1, p := [], S := (x :: q).foldl addS s.S, nS := nS } (ops ++ x :: q)
  | [], x, f, s, ops, hs, hp => by
    have e : (wakS s).1 = s := by unfold wakS; rw [if_neg (by rw [hs]; decide)]
    refine ⟨s.nS + 1, ?_⟩
    rw [show ([] : List Op).length + 1 + f = f + 1 by simp; omega, trF, e, hp]
    simp only
    rw [hz]
    have : (cplS s 0).1 = { s with st := 1, p := [], S := addS s.S x, nS := s.nS + 1 } := by
      unfold cplS
      rw [hp]
      simp only [hs, if_true]
      rfl
    rw [this]
    rfl
  | y :: q, x, f, s, ops, hs, hp => by
    have e : (wakS s).1 = s := by unfold wakS; rw [if_neg (by rw [hs]; decide)]
    have hc : (cplS s 0).1 = { s with st := 0, p := y :: q, S := addS s.S x, nS := s.nS + 1 } := by
      unfold cplS
      rw [hp]
      simp only [hs, if_true]
      rfl
    obtain ⟨nS, ih⟩ := trF_down m rs hz q y f (cplS s 0).1 (ops ++ [x]) (by rw [hc]) (by rw [hc])
    refine ⟨nS, ?_⟩
    rw [show (y :: q).length + 1 + f = (q.length + 1 + f) + 1 by simp; omega, trF, e, hp]
    simp only
    rw [hz, ih, hc]
    simp
theorem trF_wake (m : Nat) (rs : Nat → Int) (f : Nat) (s : SQ) (ops : List Op) (hs : s.st = 1) : trF m rs f s ops = trF m rs f (undS s 0) ops := by
  cases f with
  | zero => rfl
  | succ f =>
    have e1 : (wakS s).1 = undS s 0 := by unfold wakS; rw [if_pos hs]
    have e2 : (wakS (undS s 0)).1 = undS s 0 := by
      have : (undS s 0).st ≠ 1 := (stl_2 _).2
      unfold wakS
      rw [if_neg this]
    rw [trF, trF, e1, e2]
theorem fold_S (l : List Op) : ∀ (S : Int → Int → Bool) (a c : Int), ((a, c) ∈ l ∨ S a c = true) → (l.foldl addS S) a c = true := by
  induction l with
  | nil => intro S a c h; simpa using h
  | cons x q ih =>
    intro S a c h
    rw [List.foldl_cons]
    refine ih _ a c ?_
    rcases h with h | h
    · rcases List.mem_cons.1 h with h | h
      · right; subst h; simp [addS]
      · exact .inl h
    · right; simp [addS, h]
theorem mem_plan (ph : Int) (rev : Bool) {n t : Nat} (o : Nat → Int) (ht : t < n) : (ph, o t) ∈ planL ph rev n o := by
  unfold planL
  cases rev with
  | false => exact List.mem_map.2 ⟨t, List.mem_range.2 ht, rfl⟩
  | true => exact List.mem_map.2 ⟨n - 1 - t, List.mem_range.2 (by omega), by simp only [if_true]; rw [show n - 1 - (n - 1 - t) = t by omega]⟩
theorem bck_mem {n : Nat} {o : Nat → Int} {x : Op} (h : x ∈ bck n o 4) : ∃ i t, i < 4 ∧ t < n ∧ x = (5 + ((i : Nat) : Int), o t) := by
  unfold bck at h
  obtain ⟨i, hi, hx⟩ := List.mem_flatMap.1 h
  have hi := List.mem_range.1 hi
  unfold planL at hx
  obtain ⟨j, hj, rfl⟩ := List.mem_map.1 hx
  have hj := List.mem_range.1 hj
  exact ⟨i, _, hi, by split <;> omega, rfl⟩
theorem frw_mem {n t : Nat} (o : Nat → Int) (ht : t < n) {ph : Int} (h1 : 1 ≤ ph) (h4 : ph ≤ 4) : (ph, o t) ∈ frw n o 3 := by
  unfold frw
  rw [List.mem_append]
  by_cases h : ph = 1
  · left; rw [h]; exact mem_plan 1 false o ht
  · right
    refine List.mem_flatMap.2 ⟨(ph - 2).toNat, List.mem_range.2 (by omega), ?_⟩
    rw [show (2 : Int) + ((ph - 2).toNat : Int) = ph by omega]
    exact mem_plan ph true o ht
def mir (n : Nat) (o : Nat → Int) : List Op := frw n o 3 ++ bck n o 4
theorem tr_mir {n : Nat} (o : Nat → Int) (m : Nat) (rs : Nat → Int) (hz : ∀ i, (if i < m then rs i else 0) = 0) (L M : Nat) (OA : Option Addr) (oc : Nat) : trF m rs (8 * n + 1) (newS L M OA oc n o) [] = mir n o := by
  have hl := frw_len n o 3
  have hb := bck_len n o 4
  have key : ∀ (s : SQ), s.n = n → s.o = o → (∀ x ∈ frw n o 3, s.S x.1 x.2 = true) → bk s = bck n o 4 := fun s hn ho hS => by
    unfold bk kp
    rw [hn, ho, List.filter_eq_self]
    intro x hx
    obtain ⟨i, t, hi, ht, rfl⟩ := bck_mem hx
    have := hS _ (frw_mem o ht (ph := 9 - (5 + (i : Int))) (by omega) (by omega))
    unfold dl
    simp only at this ⊢
    rw [this]
    rfl
  unfold mir
  cases hf : frw n o 3 with
  | nil =>
    have hn0 : n = 0 := by rw [hf] at hl; simp at hl; omega
    have hs : (newS L M OA oc n o).st = 1 := by show stl 0 (frw n o 3).length = 1; rw [hf]; rfl
    rw [trF_wake _ _ _ _ _ hs]
    have hk := key (newS L M OA oc n o) rfl rfl (fun x hx => by rw [hf] at hx; cases hx)
    rw [trF_up m rs (bk (newS L M OA oc n o)) _ _ _ (by show stl 2 _ = 2 ∨ stl 2 _ = 3; unfold stl; split <;> simp) rfl (by rw [hk, hb]; omega), hk]
  | cons x q =>
    have hs : (newS L M OA oc n o).st = 0 := by show stl 0 (frw n o 3).length = 0; rw [hf]; rfl
    have hq : q.length + 1 = 4 * n := by rw [hf] at hl; simpa using hl
    obtain ⟨nS, h1⟩ := trF_down m rs hz q x (4 * n + 1) (newS L M OA oc n o) [] hs hf
    rw [show 8 * n + 1 = q.length + 1 + (4 * n + 1) by omega, h1, trF_wake _ _ _ _ _ rfl]
    have hk := key { newS L M OA oc n o with st := 1, p := [], S := (x :: q).foldl addS (newS L M OA oc n o).S, nS := nS } rfl rfl (fun y hy => by
      rw [hf] at hy
      exact fold_S _ _ _ _ (.inl hy))
    rw [trF_up m rs (bk { newS L M OA oc n o with st := 1, p := [], S := (x :: q).foldl addS (newS L M OA oc n o).S, nS := nS }) _ _ _ (by show stl 2 _ = 2 ∨ stl 2 _ = 3; unfold stl; split <;> simp) rfl (by rw [hk, hb]; omega), hk]
    simp
theorem mir_len (n : Nat) (o : Nat → Int) : (mir n o).length = 8 * n := by
  unfold mir
  rw [List.length_append, frw_len, bck_len]
  omega
/-- The devices of phase p in reverse order. -/
def rvP (p : Nat) : Bool := (decide (2 ≤ p) && decide (p ≤ 4)) || p == 8
theorem flat_get (n : Nat) (f : Nat → List Op) (hf : ∀ t, (f t).length = n) : ∀ (k t i : Nat), t < k → i < n → ((List.range k).flatMap f).getD (t * n + i) (0, 0) = (f t).getD i (0, 0) := by
  have hlen : ∀ k, ((List.range k).flatMap f).length = k * n := fun k => by
    induction k with
    | zero => simp
    | succ k ih => rw [List.range_succ, List.flatMap_append, List.length_append, ih]; simp [hf, Nat.succ_mul]
  intro k
  induction k with
  | zero => intro t i h; omega
  | succ k ih =>
    intro t i ht hi
    rw [List.range_succ, List.flatMap_append]
    have e : ([k].flatMap f) = f k := by simp
    rw [e, List.getD_eq_getElem?_getD, List.getD_eq_getElem?_getD]
    by_cases h : t < k
    · have h2 : t * n + i < ((List.range k).flatMap f).length := by
        rw [hlen]
        have := Nat.mul_le_mul_right n (show t + 1 ≤ k by omega)
        rw [Nat.succ_mul] at this
        omega
      rw [List.getElem?_append_left h2, ← List.getD_eq_getElem?_getD, ← List.getD_eq_getElem?_getD]
      exact ih t i h hi
    · obtain rfl : t = k := by omega
      rw [List.getElem?_append_right (by rw [hlen]; omega), hlen, show t * n + i - t * n = i by omega]
theorem mir_flat (n : Nat) (o : Nat → Int) : mir n o = (List.range 8).flatMap fun (t : Nat) => planL ((t : Int) + 1) (rvP (t + 1)) n o := by
  unfold mir frw bck
  simp [List.range_succ, rvP]
theorem mir_get {n : Nat} (o : Nat → Int) {p i : Nat} (hp1 : 1 ≤ p) (hp : p ≤ 8) (hi : i < n) : (mir n o).getD ((p - 1) * n + i) (0, 0) = ((p : Int), o (if rvP p then n - 1 - i else i)) := by
  rw [mir_flat, flat_get n _ (fun t => by simp [planL]) 8 (p - 1) i (by omega) hi]
  rw [List.getD_eq_getElem?_getD]
  unfold planL
  rw [List.getElem?_map, List.getElem?_range hi, show p - 1 + 1 = p by omega, show (((p - 1 : Nat)) : Int) + 1 = (p : Int) by omega]
  rfl
end Go.Proofs.Ytcmklipifhpgmaa
