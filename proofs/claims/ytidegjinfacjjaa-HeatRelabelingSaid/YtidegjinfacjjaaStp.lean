/- A step, plain. -/
import Derived.Test.YtidegjinfacjjaaTmp
namespace Go.Proofs.Ytidegjinfacjjaa
open Go.ChangeShapes Go.WideShapes Go.ChangeAt Go.RowKit Go.Deep Go.Joins

def Mo.ou (h : Mo) (i : Nat) : Int := (h.D i).a * (h.T i - h.s)
def Mo.ouK (h : Mo) : Nat → Int
  | 0 => 0
  | k + 1 => h.ouK k + h.ou k
def Mo.fl (h : Mo) (l : Nat) : Int := (h.K l).c * (h.T (h.K l).a.toNat - h.T (h.K l).b.toNat)
def Mo.flK (h : Mo) : Nat → Nat → Int
  | 0, _ => 0
  | k + 1, i => h.flK k i - (if (h.K k).a = i then h.fl k else 0) + (if (h.K k).b = i then h.fl k else 0)
def Mo.e1 (h : Mo) (Z : Nat → Int) (i : Nat) : Int := h.E i + (Z i - h.ou i)
/-- In the first loop. -/
def Mo.h1 (h : Mo) (Z : Nat → Int) (k : Nat) : Mo := { h with E := fun j => if j < k then h.e1 Z j else h.E j, o := h.o + h.ouK k }
/-- In the second one. -/
def Mo.h2 (h : Mo) (Z : Nat → Int) (k : Nat) : Mo := { h with E := fun j => h.e1 Z j + h.flK k j, o := h.o + h.ouK h.n }
def Mo.stp (h : Mo) (Z : Nat → Int) : Mo := h.h2 Z h.m
structure Rg (h : Mo) (Z : Nat → Int) : Prop where
  c1 : ∀ i, i < h.n → 1 ≤ (h.D i).c
  e : ∀ i, i < h.n → -1152921504606846976 ≤ h.E i ∧ h.E i ≤ 1152921504606846976
  d : ∀ i, i < h.n → -1152921504606846976 ≤ h.T i - h.s ∧ h.T i - h.s ≤ 1152921504606846976
  u : ∀ i, i < h.n → -4503599627370496 ≤ h.ou i ∧ h.ou i ≤ 4503599627370496
  z : ∀ i, i < h.n → 0 ≤ Z i ∧ Z i ≤ 16777216
  o : -1152921504606846976 ≤ h.o ∧ h.o ≤ 1152921504606846976
  l : ∀ l, l < h.m → ∃ p q : Nat, (h.K l).a = p ∧ (h.K l).b = q ∧ p < h.n ∧ q < h.n ∧ p ≠ q
  t : ∀ l, l < h.m → -1152921504606846976 ≤ h.T (h.K l).a.toNat - h.T (h.K l).b.toNat ∧ h.T (h.K l).a.toNat - h.T (h.K l).b.toNat ≤ 1152921504606846976
  f : ∀ l, l < h.m → -1125899906842624 ≤ h.fl l ∧ h.fl l ≤ 1125899906842624
section
variable {h : Mo} {Z : Nat → Int}
theorem Rg.ouK (r : Rg h Z) (k : Nat) (hk : k ≤ h.n) : -(4503599627370496 * (k : Int)) ≤ h.ouK k ∧ h.ouK k ≤ 4503599627370496 * (k : Int) := by
  induction k with
  | zero => exact ⟨by show _ ≤ (0 : Int); omega, by show (0 : Int) ≤ _; omega⟩
  | succ k ih =>
    have := ih (by omega)
    have := r.u k (by omega)
    unfold Mo.ouK
    omega
theorem Rg.flK (r : Rg h Z) (k i : Nat) (hk : k ≤ h.m) : -(1125899906842624 * (k : Int)) ≤ h.flK k i ∧ h.flK k i ≤ 1125899906842624 * (k : Int) := by
  induction k with
  | zero => exact ⟨by show _ ≤ (0 : Int); omega, by show (0 : Int) ≤ _; omega⟩
  | succ k ih =>
    have := ih (by omega)
    have := r.f k (by omega)
    obtain ⟨p, q, e1, e2, _, _, hpq⟩ := r.l k (by omega)
    unfold Mo.flK
    rw [e1, e2]
    split <;> split <;> omega
theorem Rg.e1 (r : Rg h Z) {i : Nat} (hi : i < h.n) : -1162921504606846976 ≤ h.e1 Z i ∧ h.e1 Z i ≤ 1162921504606846976 := by
  have := r.e i hi
  have := r.u i hi
  have := r.z i hi
  unfold Mo.e1
  omega
theorem h1_zero : h.h1 Z 0 = h := by
  unfold Mo.h1
  have e : (fun j => if j < 0 then h.e1 Z j else h.E j) = h.E := funext fun j => if_neg (by omega)
  rw [e]
  show ({ h with E := h.E, o := h.o + 0 } : Mo) = h
  rw [Int.add_zero]
theorem h1_succ (k : Nat) : ((h.h1 Z k).setE k (h.e1 Z k)).setO (h.o + h.ouK k + h.ou k) = h.h1 Z (k + 1) := by
  unfold Mo.setE Mo.setO Mo.h1
  have e : (fun j => if j = k then h.e1 Z k else if j < k then h.e1 Z j else h.E j) = (fun j => if j < k + 1 then h.e1 Z j else h.E j) := funext fun j => by
    by_cases a : j = k
    · subst a; rw [if_pos rfl, if_pos (by omega)]
    · rw [if_neg a]
      by_cases b : j < k
      · rw [if_pos b, if_pos (by omega)]
      · rw [if_neg b, if_neg (by omega)]
  show ({ h with E := fun j => if j = k then h.e1 Z k else if j < k then h.e1 Z j else h.E j, o := h.o + h.ouK k + h.ou k } : Mo) = { h with E := fun j => if j < k + 1 then h.e1 Z j else h.E j, o := h.o + (h.ouK k + h.ou k) }
  rw [e, Int.add_assoc]
theorem Mo.eq_E {a : Mo} {E F : Nat → Int} {o p : Int} (e : E = F) (f : o = p) : ({ a with E := E, o := o } : Mo) = { a with E := F, o := p } := by rw [e, f]
theorem hm_E {w : World} {a b : Mo} (k : Hm w a) (e : ∀ i, i < a.n → b.E i = a.E i) (r : b = { a with E := b.E }) : Hm w b := by
  rw [r]
  exact ⟨k.c0, k.c1, k.c2, k.c3, k.c4, k.fL, k.fX, k.lL, k.lX, k.LX, k.dm, k.lk, k.aL, k.bL, fun i hi => by show _ = some (Value.int .i64 (b.E i)); rw [e i hi]; exact k.en i hi, k.n1, k.n2, k.m1⟩
theorem h12 {w : World} (k : Hm w (h.h1 Z h.n)) : Hm w (h.h2 Z 0) := hm_E k (fun i hi => by
  have hi : i < h.n := hi
  show h.e1 Z i + 0 = if i < h.n then h.e1 Z i else h.E i
  rw [if_pos hi, Int.add_zero]) rfl
theorem h2_succ (k p q : Nat) (hp : (h.K k).a = p) (hq : (h.K k).b = q) (hpq : p ≠ q) : ((h.h2 Z k).setE p (h.e1 Z p + h.flK k p - h.fl k)).setE q (h.e1 Z q + h.flK k q + h.fl k) = h.h2 Z (k + 1) := by
  unfold Mo.setE Mo.h2
  refine Mo.eq_E (funext fun j => ?_) rfl
  show (if j = q then h.e1 Z q + h.flK k q + h.fl k else if j = p then h.e1 Z p + h.flK k p - h.fl k else h.e1 Z j + h.flK k j) = h.e1 Z j + (h.flK k j - (if (h.K k).a = j then h.fl k else 0) + (if (h.K k).b = j then h.fl k else 0))
  rw [hp, hq]
  by_cases a : j = q
  · subst a
    rw [if_pos rfl, if_neg (by omega), if_pos rfl]
    omega
  · rw [if_neg a]
    by_cases b : j = p
    · subst b
      rw [if_pos rfl, if_pos rfl, if_neg (by omega)]
      omega
    · rw [if_neg b, if_neg (by omega), if_neg (by omega)]
      omega
theorem Rg.szf (r : Rg h Z) (hm : h.m ≤ 1000) : Sz (h.stp Z) := ⟨r.c1, fun i hi => by
  have a := r.e1 (i := i) hi
  have b := r.flK h.m i (Nat.le_refl _)
  show _ ≤ h.e1 Z i + h.flK h.m i ∧ h.e1 Z i + h.flK h.m i ≤ _
  omega⟩
theorem Rg.sz (r : Rg h Z) : Sz h := ⟨r.c1, fun i hi => by have := r.e i hi; omega⟩
end
end Go.Proofs.Ytidegjinfacjjaa
