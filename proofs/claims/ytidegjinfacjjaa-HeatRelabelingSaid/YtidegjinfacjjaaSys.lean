/- A model in the course of a law. -/
import Derived.Test.YtidegjinfacjjaaAwk
import Derived.Test.YtidegjinfacjjaaOpn
namespace Go.Proofs.Ytidegjinfacjjaa
open Go.ChangeShapes Go.WideShapes Go.ChangeAt Go.RowKit Go.Deep Go.Joins

/-- The model with other energies. -/
def Mo.at (h : Mo) (E : Nat → Int) (o : Int) : Mo := { h with E := E, o := o }
theorem at_self (h : Mo) : h.at h.E h.o = h := rfl
theorem at_stp (h : Mo) (E : Nat → Int) (o : Int) (Z : Nat → Int) : (h.at E o).stp Z = h.at ((h.at E o).stp Z).E ((h.at E o).stp Z).o := rfl
theorem sumK_b {f : Nat → Int} {n k : Nat} (h : ∀ i, i < n → -200000000 ≤ f i ∧ f i ≤ 200000000) (hk : k ≤ n) : -(200000000 * (k : Int)) ≤ sumK f k ∧ sumK f k ≤ 200000000 * (k : Int) := by
  induction k with
  | zero => exact ⟨by show _ ≤ (0 : Int); omega, by show (0 : Int) ≤ _; omega⟩
  | succ k ih =>
    have := ih (by omega)
    have := h k (by omega)
    unfold sumK
    omega
theorem Inv.eb {h : Mo} {top : Int} (v : Inv h top) (s1 : -100 ≤ h.s) (s2 : h.s ≤ 70000) (ht : top ≤ h.s + 2000) (m1 : h.m ≤ 12) (i : Nat) (hi : i < h.n) : -200000000 ≤ h.E i ∧ h.E i ≤ 200000000 := by
  obtain ⟨e1, e2⟩ := v.e i hi
  obtain ⟨d1, d2, d3, d4⟩ := v.g.d i hi
  have c1 := v.c1 hi
  have st := v.st
  have b1 := mul_bd (a := (h.D i).c) (b := h.s) (A := 1000) (B := 100000) (by omega) (by omega) (by omega) (by omega)
  have b2 := mul_bd (a := (h.D i).c) (b := top + 1) (A := 1000) (B := 100000) (by omega) (by omega) (by omega) (by omega)
  omega
/-- What a law knows of a system that Some gave and of the model that New made of it: box S, domains at A, made before world w1. -/
structure Sx (w w1 : World) (h : Mo) (S : Nat) (A : Addr) (B : Option Addr) (cb : Nat) : Prop where
  s0 : w1.cell? ⟨S, 0, none⟩ = some (.slice (some A) h.n h.n)
  s1 : w1.cell? ⟨S, 1, none⟩ = some (.slice B h.m cb)
  s2 : w1.cell? ⟨S, 2, none⟩ = some (.int .i64 h.s)
  dm : Fl w1 (some A) 2 h.n (dV h.D)
  lk : Fl w1 B 3 h.m (lV h.K)
  bn : B = none → h.m = 0 ∧ cb = 0
  lS : S < w1.heap.size
  g : Gd h.n h.m h.D h.K
  n1 : 1 ≤ h.n
  n5 : h.n ≤ 5
  m1 : h.m ≤ 12
  a1 : -100 ≤ h.s
  a2 : h.s ≤ 100
  bel : Below w.heap.size w w1
section
variable {w w1 w2 : World} {h : Mo} {S : Nat} {A : Addr} {B : Option Addr} {cb : Nat}
theorem Sx.chg {P : Nat → Prop} (x : Sx w w1 h S A B cb) (hc : Chg P w1 w2) (hP : ∀ b, P b → w1.heap.size ≤ b) : Sx w w2 h S A B cb := by
  have e := hc.block S x.lS (fun q => by have := hP _ q; have := x.lS; omega)
  have F : ∀ {A : Option Addr} {k n : Nat} {V : Nat → Value}, Fl w1 A k n V → Fl w2 A k n V := fun {A k n V} f => by
    refine ⟨f.len, ?_⟩
    rcases f.row with h0 | ⟨b, off, hA, hlt, hc'⟩
    · exact .inl h0
    · exact .inr ⟨b, off, hA, Nat.lt_of_lt_of_le hlt hc.size, fun j hj => (blk_cell (hc.block b hlt (fun q => by have := hP _ q; omega)) _).trans (hc' j hj)⟩
  exact ⟨(blk_cell e _).trans x.s0, (blk_cell e _).trans x.s1, (blk_cell e _).trans x.s2, F x.dm, F x.lk, x.bn, Nat.lt_of_lt_of_le x.lS hc.size, x.g, x.n1, x.n5, x.m1, x.a1, x.a2, Below.chg x.bel hc x.bel.size (fun b q => by have := hP _ q; have := x.bel.size; omega)⟩
theorem Sx.below (x : Sx w w1 h S A B cb) (hb : Below w1.heap.size w1 w2) : Sx w w2 h S A B cb := x.chg (Chg.of_below hb (fun _ => False)) (fun _ q => q.elim)
theorem Sx.va (x : Sx w w1 h S A B cb) : Va h.n h.D h.m h.K h.s := x.g.va x.n1 x.n5 x.m1 x.a1 (by have := x.a2; omega)
end
end Go.Proofs.Ytidegjinfacjjaa
