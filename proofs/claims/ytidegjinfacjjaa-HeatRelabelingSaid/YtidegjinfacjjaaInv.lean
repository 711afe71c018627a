/- The maximum principle of the heat model, and the balance of its energy. -/
import Derived.Test.YtidegjinfacjjaaStw
import Derived.Test.YtidegjinfacjjaaSom
namespace Go.Proofs.Ytidegjinfacjjaa
open Go.ChangeShapes Go.WideShapes Go.ChangeAt Go.RowKit Go.Deep Go.Joins

/-- All temperatures lie between the surroundings' and top. -/
structure Inv (h : Mo) (top : Int) : Prop where
  g : Gd h.n h.m h.D h.K
  st : h.s ≤ top
  e : ∀ i, i < h.n → (h.D i).c * h.s ≤ h.E i ∧ h.E i < (h.D i).c * (top + 1)
section
variable {h : Mo} {top : Int} {Z : Nat → Int}
theorem ldK_a (g : Gd h.n h.m h.D h.K) (k i : Nat) (hk : k ≤ h.m) : (h.D i).a ≤ ldK h.D h.K k i := by
  induction k with
  | zero => exact Int.le_refl _
  | succ k ih =>
    have := ih (by omega)
    obtain ⟨p, q, e1, e2, _, _, _, h1, h2⟩ := g.l k (by omega)
    unfold ldK
    split <;> split <;> omega
theorem ldK_mono (g : Gd h.n h.m h.D h.K) (k i : Nat) (hk : k ≤ h.m) : ldK h.D h.K k i ≤ ldK h.D h.K h.m i := by
  obtain ⟨d, hd⟩ : ∃ d, h.m = k + d := ⟨h.m - k, by omega⟩
  have : ∀ d, k + d ≤ h.m → ldK h.D h.K k i ≤ ldK h.D h.K (k + d) i := fun d => by
    induction d with
    | zero => intro _; exact Int.le_refl _
    | succ d ih =>
      intro hd
      have := ih (by omega)
      obtain ⟨p, q, e1, e2, _, _, _, h1, h2⟩ := g.l (k + d) (by omega)
      have e : ldK h.D h.K (k + (d + 1)) i = ldK h.D h.K (k + d) i + (if (h.K (k + d)).a = i then (h.K (k + d)).c else 0) + (if (h.K (k + d)).b = i then (h.K (k + d)).c else 0) := rfl
      rw [e]
      split <;> split <;> omega
  rw [hd]
  exact this d (by omega)
theorem Inv.c1 (v : Inv h top) {i : Nat} (hi : i < h.n) : 1 ≤ (h.D i).c := by
  have := v.g.d i hi
  have := ldK_a v.g h.m i (Nat.le_refl _)
  omega
theorem Inv.T (v : Inv h top) {i : Nat} (hi : i < h.n) : h.s ≤ h.T i ∧ h.T i ≤ top := by
  have c := v.c1 hi
  obtain ⟨e1, e2⟩ := v.e i hi
  unfold Mo.T
  constructor
  · exact (Int.le_ediv_iff_mul_le (by omega)).2 (by rw [Int.mul_comm]; exact e1)
  · have : h.E i / (h.D i).c < top + 1 := Int.ediv_lt_of_lt_mul (by omega) (by rw [Int.mul_comm]; exact e2)
    omega
theorem Inv.fl_b (v : Inv h top) (k : Nat) (hk : k ≤ h.m) {i : Nat} (hi : i < h.n) :
    h.flK k i ≤ (ldK h.D h.K k i - (h.D i).a) * (top - h.T i) ∧ -((ldK h.D h.K k i - (h.D i).a) * (h.T i - h.s)) ≤ h.flK k i := by
  induction k with
  | zero =>
    show 0 ≤ ((h.D i).a - (h.D i).a) * _ ∧ -(((h.D i).a - (h.D i).a) * _) ≤ 0
    rw [Int.sub_self, Int.zero_mul, Int.zero_mul]
    omega
  | succ k ih =>
    obtain ⟨i1, i2⟩ := ih (by omega)
    obtain ⟨p, q, e1, e2, hp, hq, hpq, h1, h2⟩ := v.g.l k (by omega)
    have tp := v.T hp
    have tq := v.T hq
    have ti := v.T hi
    show h.flK k i - _ + _ ≤ (ldK h.D h.K k i + _ + _ - (h.D i).a) * _ ∧ -((ldK h.D h.K k i + _ + _ - (h.D i).a) * _) ≤ h.flK k i - _ + _
    have hf : h.fl k = (h.K k).c * (h.T p - h.T q) := by unfold Mo.fl; rw [e1, e2, Int.toNat_natCast, Int.toNat_natCast]
    rw [e1, e2, hf]
    generalize (h.K k).c = c at *
    generalize ldK h.D h.K k i = ld at *
    generalize (h.D i).a = a at *
    by_cases a1 : p = i
    · subst a1
      have qp : ¬ (q : Int) = (p : Int) := by omega
      simp only [if_true, if_neg qp]
      have m1 : 0 ≤ c * (top - h.T q) := Int.mul_nonneg (by omega) (by omega)
      have m2 : 0 ≤ c * (h.T q - h.s) := Int.mul_nonneg (by omega) (by omega)
      simp only [Int.mul_sub, Int.sub_mul, Int.add_mul, Int.add_zero] at *
      omega
    · have pi : ¬ (p : Int) = (i : Int) := by omega
      by_cases a2 : q = i
      · subst a2
        simp only [if_true, if_neg pi]
        have m1 : 0 ≤ c * (top - h.T p) := Int.mul_nonneg (by omega) (by omega)
        have m2 : 0 ≤ c * (h.T p - h.s) := Int.mul_nonneg (by omega) (by omega)
        simp only [Int.mul_sub, Int.sub_mul, Int.add_mul, Int.add_zero, Int.sub_zero] at *
        omega
      · have qi : ¬ (q : Int) = (i : Int) := by omega
        simp only [if_neg pi, if_neg qi, Int.add_zero, Int.sub_zero]
        exact ⟨i1, i2⟩
/-- The maximum principle. -/
theorem Inv.step (v : Inv h top) (hZ : ∀ i, i < h.n → 0 ≤ Z i ∧ Z i ≤ (h.D i).a * (top - h.s)) : Inv (h.stp Z) top := by
  refine ⟨v.g, v.st, fun i hi => ?_⟩
  have hi : i < h.n := hi
  show (h.D i).c * h.s ≤ h.E i + (Z i - (h.D i).a * (h.T i - h.s)) + h.flK h.m i ∧ h.E i + (Z i - (h.D i).a * (h.T i - h.s)) + h.flK h.m i < (h.D i).c * (top + 1)
  obtain ⟨z1, z2⟩ := hZ i hi
  obtain ⟨f1, f2⟩ := v.fl_b h.m (Nat.le_refl _) hi
  obtain ⟨t1, t2⟩ := v.T hi
  obtain ⟨d1, d2, d3, d4⟩ := v.g.d i hi
  have c1 := v.c1 hi
  have r0 := Int.emod_nonneg (h.E i) (show (h.D i).c ≠ 0 by omega)
  have r1 := Int.emod_lt_of_pos (h.E i) (show 0 < (h.D i).c by omega)
  have re : h.E i % (h.D i).c + (h.D i).c * h.T i = h.E i := Int.emod_add_mul_ediv _ _
  have m1 : 0 ≤ ((h.D i).c - ldK h.D h.K h.m i) * (top - h.T i) := Int.mul_nonneg (by omega) (by omega)
  have m2 : 0 ≤ ((h.D i).c - ldK h.D h.K h.m i) * (h.T i - h.s) := Int.mul_nonneg (by omega) (by omega)
  generalize h.E i % (h.D i).c = r at *
  generalize ldK h.D h.K h.m i = ld at *
  generalize h.flK h.m i = f at *
  simp only [Int.mul_sub, Int.sub_mul, Int.mul_add, Int.mul_one] at *
  omega
/-- Nothing wraps. -/
theorem Inv.rg (v : Inv h top) (s1 : -100 ≤ h.s) (s2 : h.s ≤ 70000) (ht : top ≤ h.s + 2000) (m1 : h.m ≤ 12) (hZ : ∀ i, i < h.n → 0 ≤ Z i ∧ Z i ≤ 16777216) (o1 : -1152921504606846976 ≤ h.o) (o2 : h.o ≤ 1152921504606846976) : Rg h Z := by
  have D : ∀ i, i < h.n → -3000 ≤ h.T i - h.s ∧ h.T i - h.s ≤ 3000 := fun i hi => by have := v.T hi; omega
  refine ⟨fun i hi => v.c1 hi, fun i hi => ?_, fun i hi => by have := D i hi; omega, fun i hi => ?_, hZ, ⟨o1, o2⟩, fun l hl => ?_, fun l hl => ?_, fun l hl => ?_⟩
  · obtain ⟨e1, e2⟩ := v.e i hi
    obtain ⟨d1, d2, d3, d4⟩ := v.g.d i hi
    have c1 := v.c1 hi
    have b1 := mul_bd (a := (h.D i).c) (b := h.s) (A := 1000) (B := 100000) (by omega) (by omega) (by omega) (by omega)
    have b2 := mul_bd (a := (h.D i).c) (b := top + 1) (A := 1000) (B := 100000) (by omega) (by omega) (by have := v.st; omega) (by omega)
    omega
  · obtain ⟨d1, d2, d3, d4⟩ := v.g.d i hi
    have := D i hi
    have b1 := mul_bd (a := (h.D i).a) (b := h.T i - h.s) (A := 1000) (B := 100000) (by omega) (by omega) (by omega) (by omega)
    unfold Mo.ou
    omega
  · obtain ⟨p, q, a, b, c, d, e, _⟩ := v.g.l l hl
    exact ⟨p, q, a, b, c, d, e⟩
  · obtain ⟨p, q, a, b, c, d, e, _⟩ := v.g.l l hl
    rw [a, b, Int.toNat_natCast, Int.toNat_natCast]
    have := D p c
    have := D q d
    omega
  · obtain ⟨p, q, a, b, c, d, e, f1, f2⟩ := v.g.l l hl
    unfold Mo.fl
    rw [a, b, Int.toNat_natCast, Int.toNat_natCast]
    have := D p c
    have := D q d
    have b1 := mul_bd (a := (h.K l).c) (b := h.T p - h.T q) (A := 1000) (B := 100000) (by omega) (by omega) (by omega) (by omega)
    omega
theorem Inv.ou (v : Inv h top) (ht : top ≤ h.s + 2000) (k : Nat) (hk : k ≤ h.n) : 0 ≤ h.ouK k ∧ h.ouK k ≤ 12000 * (k : Int) := by
  induction k with
  | zero => exact ⟨Int.le_refl _, by show (0 : Int) ≤ _; omega⟩
  | succ k ih =>
    have := ih (by omega)
    obtain ⟨d1, d2, d3, d4⟩ := v.g.d k (by omega)
    have t := v.T (i := k) (by omega)
    have b1 : 0 ≤ (h.D k).a * (h.T k - h.s) := Int.mul_nonneg (by omega) (by omega)
    have b2 := mul_bd (a := (h.D k).a) (b := h.T k - h.s) (A := 6) (B := 2000) (by omega) (by omega) (by omega) (by omega)
    show 0 ≤ h.ouK k + (h.D k).a * (h.T k - h.s) ∧ h.ouK k + (h.D k).a * (h.T k - h.s) ≤ _
    omega
end
/-! ## Sums -/
def sumK (f : Nat → Int) : Nat → Int
  | 0 => 0
  | k + 1 => sumK f k + f k
theorem sumK_add (f g : Nat → Int) (n : Nat) : sumK (fun i => f i + g i) n = sumK f n + sumK g n := by
  induction n with
  | zero => rfl
  | succ n ih => unfold sumK; rw [ih]; omega
theorem sumK_sub (f g : Nat → Int) (n : Nat) : sumK (fun i => f i - g i) n = sumK f n - sumK g n := by
  induction n with
  | zero => rfl
  | succ n ih => unfold sumK; rw [ih]; omega
theorem sumK_zero (n : Nat) : sumK (fun _ => 0) n = 0 := by
  induction n with
  | zero => rfl
  | succ n ih => unfold sumK; rw [ih]; rfl
theorem sumK_congr {f g : Nat → Int} {n : Nat} (h : ∀ i, i < n → f i = g i) : sumK f n = sumK g n := by
  induction n with
  | zero => rfl
  | succ n ih => unfold sumK; rw [ih (fun i hi => h i (by omega)), h n (by omega)]
theorem sumK_one (p : Nat) (x : Int) (n : Nat) : sumK (fun i => if (p : Int) = (i : Int) then x else 0) n = if p < n then x else 0 := by
  induction n with
  | zero => rw [if_neg (by omega)]; rfl
  | succ n ih =>
    unfold sumK
    rw [ih]
    by_cases h : p < n
    · rw [if_pos h, if_neg (by omega), if_pos (by omega)]; omega
    · by_cases e : p = n
      · subst e; rw [if_neg h, if_pos rfl, if_pos (by omega)]; omega
      · rw [if_neg h, if_neg (by omega), if_neg (by omega)]; rfl
theorem sum_fl {h : Mo} (g : Gd h.n h.m h.D h.K) (k : Nat) (hk : k ≤ h.m) : sumK (h.flK k) h.n = 0 := by
  induction k with
  | zero => exact sumK_zero _
  | succ k ih =>
    obtain ⟨p, q, e1, e2, hp, hq, _⟩ := g.l k (by omega)
    have : sumK (h.flK (k + 1)) h.n = sumK (fun i => (h.flK k i - (if (p : Int) = (i : Int) then h.fl k else 0)) + (if (q : Int) = (i : Int) then h.fl k else 0)) h.n := sumK_congr (fun i _ => by
      show h.flK k i - _ + _ = _
      rw [e1, e2])
    rw [this, sumK_add, sumK_sub, ih (by omega), sumK_one, sumK_one, if_pos hp, if_pos hq]
    omega
theorem sum_ou (h : Mo) (k : Nat) : sumK h.ou k = h.ouK k := by
  induction k with
  | zero => rfl
  | succ k ih => unfold sumK Mo.ouK; rw [ih]
/-- The balance. -/
theorem balance {h : Mo} {Z : Nat → Int} (g : Gd h.n h.m h.D h.K) : sumK (h.stp Z).E h.n + (h.stp Z).o = sumK h.E h.n + h.o + sumK Z h.n := by
  have e : sumK (h.stp Z).E h.n = sumK (fun i => (h.E i + (Z i - h.ou i)) + h.flK h.m i) h.n := rfl
  rw [e, sumK_add, sumK_add, sumK_sub, sum_fl g h.m (Nat.le_refl _), sum_ou]
  show _ + (h.o + h.ouK h.n) = _
  omega
end Go.Proofs.Ytidegjinfacjjaa
