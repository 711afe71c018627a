/- Models at rest, and one domain that is heated. -/
import Derived.Test.YtidegjinfacjjaaTwn
namespace Go.Proofs.Ytidegjinfacjjaa
open Go.ChangeShapes Go.WideShapes Go.ChangeAt Go.RowKit Go.Deep Go.Joins

section
variable {h : Mo} {E : Nat → Int} {o : Int}
theorem rest_T (G : Gd h.n h.m h.D h.K) (hE : ∀ i, i < h.n → E i = (h.D i).c * h.s) {i : Nat} (hi : i < h.n) : (h.at E o).T i = h.s := by
  have := G.d i hi
  have := ldK_a G h.m i (Nat.le_refl _)
  show E i / (h.D i).c = h.s
  rw [hE i hi, Int.mul_ediv_cancel_left _ (by omega)]
theorem rest_fl (G : Gd h.n h.m h.D h.K) (hE : ∀ i, i < h.n → E i = (h.D i).c * h.s) (k i : Nat) (hk : k ≤ h.m) : (h.at E o).flK k i = 0 := by
  induction k with
  | zero => rfl
  | succ k ih =>
    obtain ⟨p, q, e1, e2, hp, hq, _⟩ := G.l k (by omega)
    have f : (h.at E o).fl k = 0 := by
      show (h.K k).c * ((h.at E o).T (h.K k).a.toNat - (h.at E o).T (h.K k).b.toNat) = 0
      rw [e1, e2, Int.toNat_natCast, Int.toNat_natCast, rest_T G hE hp, rest_T G hE hq, Int.sub_self, Int.mul_zero]
    show (h.at E o).flK k i - (if (h.K k).a = i then (h.at E o).fl k else 0) + (if (h.K k).b = i then (h.at E o).fl k else 0) = 0
    rw [ih (by omega), f]
    split <;> split <;> rfl
theorem rest_ou (G : Gd h.n h.m h.D h.K) (hE : ∀ i, i < h.n → E i = (h.D i).c * h.s) (k : Nat) (hk : k ≤ h.n) : (h.at E o).ouK k = 0 ∧ ∀ i, i < k → (h.at E o).ou i = 0 := by
  have O : ∀ i, i < h.n → (h.at E o).ou i = 0 := fun i hi => by
    show (h.D i).a * ((h.at E o).T i - h.s) = 0
    rw [rest_T G hE hi, Int.sub_self, Int.mul_zero]
  refine ⟨?_, fun i hi => O i (by omega)⟩
  induction k with
  | zero => rfl
  | succ k ih =>
    show (h.at E o).ouK k + (h.at E o).ou k = 0
    rw [ih (by omega), O k (by omega)]
    rfl
/-- Without power everything stays as it is. -/
theorem rest_step (G : Gd h.n h.m h.D h.K) (hE : ∀ i, i < h.n → E i = (h.D i).c * h.s) : (∀ i, i < h.n → ((h.at E o).stp (fun _ => 0)).E i = (h.D i).c * h.s) ∧ ((h.at E o).stp (fun _ => 0)).o = o := by
  refine ⟨fun i hi => ?_, ?_⟩
  · show E i + (0 - (h.at E o).ou i) + (h.at E o).flK h.m i = _
    rw [rest_fl G hE h.m i (Nat.le_refl _), (rest_ou G hE h.n (Nat.le_refl _)).2 i hi, hE i hi]
    omega
  · show o + (h.at E o).ouK h.n = o
    rw [(rest_ou G hE h.n (Nat.le_refl _)).1]
    omega
end
/-- One domain under a constant power of p times its conductance. -/
structure On (c a s p e : Int) : Prop where
  a1 : 1 ≤ a
  a6 : a ≤ 6
  ac : a ≤ c
  c9 : c ≤ 133
  s1 : -100 ≤ s
  s2 : s ≤ 100
  p0 : 0 ≤ p
  p7 : p ≤ 7
  lo : c * s ≤ e
  hi : e < c * (s + p) + c
section
variable {c a s p e : Int}
theorem On.T (h : On c a s p e) : s ≤ e / c ∧ e / c ≤ s + p := by
  have := h.a1
  have := h.ac
  constructor
  · exact (Int.le_ediv_iff_mul_le (by omega)).2 (by rw [Int.mul_comm]; exact h.lo)
  · have : e / c < s + p + 1 := Int.ediv_lt_of_lt_mul (by omega) (by
      have := h.hi
      rw [Int.mul_comm, Int.mul_add, Int.mul_one]
      exact this)
    omega
theorem On.step (h : On c a s p e) : On c a s p (e + (p * a - a * (e / c - s))) ∧ (e / c < s + p → e + 1 ≤ e + (p * a - a * (e / c - s))) ∧ (e / c = s + p → e + (p * a - a * (e / c - s)) = e) := by
  obtain ⟨t1, t2⟩ := h.T
  have a1 := h.a1
  have ac := h.ac
  have r0 := Int.emod_nonneg e (show c ≠ 0 by omega)
  have r1 := Int.emod_lt_of_pos e (show 0 < c by omega)
  have re := Int.emod_add_mul_ediv e c
  have m1 : 0 ≤ (c - a) * (s + p - e / c) := Int.mul_nonneg (by omega) (by omega)
  have m2 : 0 ≤ a * (s + p - e / c) := Int.mul_nonneg (by omega) (by omega)
  have q : p * a - a * (e / c - s) = a * (s + p - e / c) := by
    rw [Int.mul_comm p a]
    simp only [Int.mul_sub, Int.mul_add]
    omega
  rw [q]
  have lo := h.lo
  have hi := h.hi
  refine ⟨⟨a1, h.a6, ac, h.c9, h.s1, h.s2, h.p0, h.p7, by omega, ?_⟩, fun ht => ?_, fun ht => ?_⟩
  · generalize e / c = t at *
    generalize e % c = r at *
    simp only [Int.mul_sub, Int.sub_mul, Int.mul_add] at *
    omega
  · have : 1 * 1 ≤ a * (s + p - e / c) := Int.mul_le_mul (by omega) (by omega) (by omega) (by omega)
    omega
  · rw [ht, Int.sub_self, Int.mul_zero, Int.add_zero]
theorem On.top (h : On c a s p e) : e ≤ c * s + 1100 := by
  have hi := h.hi
  have := h.c9
  have b : c * p ≤ 133 * 7 := Int.mul_le_mul (by omega) h.p7 h.p0 (by omega)
  rw [Int.mul_add] at hi
  omega
theorem On.eb (h : On c a s p e) : -20000 ≤ e ∧ e ≤ 20000 := by
  have t := h.top
  have lo := h.lo
  have a1 := h.a1
  have ac := h.ac
  have c9 := h.c9
  have s1 := h.s1
  have s2 := h.s2
  have b := mul_bd (a := c) (b := s) (A := 133) (B := 100) (by omega) (by omega) (by omega) (by omega)
  omega
end
theorem one_rg {b : Mo} {E : Nat → Int} {o p : Int} {Z : Nat → Int} (hn : b.n = 1) (hm : b.m = 0) (hO : On (b.D 0).c (b.D 0).a b.s p (E 0)) (hZ : Z 0 = p * (b.D 0).a) (o1 : -1000000000 ≤ o) (o2 : o ≤ 1000000000) : Rg (b.at E o) Z := by
  have T := hO.T
  have eb := hO.eb
  have a1 := hO.a1
  have a6 := hO.a6
  have p0 := hO.p0
  have p7 := hO.p7
  have ac := hO.ac
  have one : ∀ i, i < (b.at E o).n → i = 0 := fun i hi => by
    have : i < b.n := hi
    omega
  have m1 := mul_bd (a := (b.D 0).a) (b := E 0 / (b.D 0).c - b.s) (A := 6) (B := 7) (by omega) (by omega) (by omega) (by omega)
  have m2 : 0 ≤ p * (b.D 0).a := Int.mul_nonneg p0 (by omega)
  have m3 := mul_bd (a := p) (b := (b.D 0).a) (A := 7) (B := 6) (by omega) (by omega) (by omega) (by omega)
  have nol : ∀ l, ¬ l < (b.at E o).m := fun l hl => by
    have : l < b.m := hl
    omega
  refine ⟨fun i hi => ?_, fun i hi => ?_, fun i hi => ?_, fun i hi => ?_, fun i hi => ?_, ⟨by show _ ≤ o; omega, by show o ≤ _; omega⟩, fun l hl => absurd hl (nol l), fun l hl => absurd hl (nol l), fun l hl => absurd hl (nol l)⟩
  · rw [one i hi]; show 1 ≤ (b.D 0).c; omega
  · rw [one i hi]; show _ ≤ E 0 ∧ E 0 ≤ _; omega
  · rw [one i hi]; show _ ≤ E 0 / (b.D 0).c - b.s ∧ E 0 / (b.D 0).c - b.s ≤ _; omega
  · rw [one i hi]; show _ ≤ (b.D 0).a * (E 0 / (b.D 0).c - b.s) ∧ (b.D 0).a * (E 0 / (b.D 0).c - b.s) ≤ _; omega
  · rw [one i hi, hZ]; omega
end Go.Proofs.Ytidegjinfacjjaa
