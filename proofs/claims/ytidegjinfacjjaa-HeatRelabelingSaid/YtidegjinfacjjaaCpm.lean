/- Models that share their plain state, and their runs over a list of powers. -/
import Derived.Test.YtidegjinfacjjaaTwn
import Derived.Test.YtidegjinfacjjaaCpy
import Derived.Test.YtidegjinfacjjaaEqi
namespace Go.Proofs.Ytidegjinfacjjaa
open Go.ChangeShapes Go.WideShapes Go.ChangeAt Go.RowKit Go.Deep Go.Joins

theorem tw_at (h : Mo) (E : Nat → Int) (o : Int) : h.tw h h.s E o = h.at E o := rfl
theorem tw_flK (h g : Mo) (E : Nat → Int) (o : Int) (k i : Nat) : (h.tw g h.s E o).flK k i = (h.at E o).flK k i := by
  induction k with
  | zero => rfl
  | succ k ih =>
    show (h.tw g h.s E o).flK k i - (if (h.K k).a = i then (h.at E o).fl k else 0) + (if (h.K k).b = i then (h.at E o).fl k else 0) = (h.at E o).flK k i - (if (h.K k).a = i then (h.at E o).fl k else 0) + (if (h.K k).b = i then (h.at E o).fl k else 0)
    rw [ih]
theorem tw_ouK' (h g : Mo) (E : Nat → Int) (o : Int) (k : Nat) : (h.tw g h.s E o).ouK k = (h.at E o).ouK k := by
  induction k with
  | zero => rfl
  | succ k ih =>
    show (h.tw g h.s E o).ouK k + (h.at E o).ou k = (h.at E o).ouK k + (h.at E o).ou k
    rw [ih]
theorem tw_stp' (h g : Mo) (E : Nat → Int) (o : Int) (Z : Nat → Int) : (h.tw g h.s E o).stp Z = h.tw g h.s ((h.at E o).stp Z).E ((h.at E o).stp Z).o := by
  have e1 : ((h.tw g h.s E o).stp Z).E = ((h.at E o).stp Z).E := by
    funext i
    show E i + (Z i - (h.at E o).ou i) + (h.tw g h.s E o).flK h.m i = E i + (Z i - (h.at E o).ou i) + (h.at E o).flK h.m i
    rw [tw_flK]
  have e2 : ((h.tw g h.s E o).stp Z).o = ((h.at E o).stp Z).o := by
    show o + (h.tw g h.s E o).ouK h.n = o + (h.at E o).ouK h.n
    rw [tw_ouK']
  rw [tw_stp, e1, e2]
/-- Energies and released heat after k steps. -/
def Mo.ru (h : Mo) (E : Nat → Int) (o : Int) (Z : Nat → Nat → Int) : Nat → (Nat → Int) × Int
  | 0 => (E, o)
  | k + 1 => (((h.at (h.ru E o Z k).1 (h.ru E o Z k).2).stp (Z k)).E, ((h.at (h.ru E o Z k).1 (h.ru E o Z k).2).stp (Z k)).o)
section
variable {h : Mo} {E : Nat → Int} {o : Int}
/-- What the walks need of a model's state. -/
structure Ok (h : Mo) (E : Nat → Int) (o : Int) (k : Nat) : Prop where
  i : Inv (h.at E o) (h.s + 200)
  o1 : 0 ≤ o
  o2 : o ≤ 60000 * (k : Int)
theorem Ok.step {k : Nat} (v : Ok h E o k) (n5 : h.n ≤ 5) {Z : Nat → Int} (zb : ∀ i, 0 ≤ Z i ∧ Z i ≤ 200) : Ok h ((h.at E o).stp Z).E ((h.at E o).stp Z).o (k + 1) := by
  have I2 := v.i.step (Z := Z) (fun i hi => by
    have hi : i < h.n := hi
    have := zb i
    have g := v.i.g.d i hi
    have g : 1 ≤ (h.D i).a := g.1
    show 0 ≤ Z i ∧ Z i ≤ (h.D i).a * (h.s + 200 - h.s)
    rw [show h.s + 200 - h.s = 200 by omega]
    omega)
  have OU := v.i.ou (by show h.s + 200 ≤ h.s + 2000; omega) h.n (Nat.le_refl _)
  have o1 := v.o1
  have o2 := v.o2
  refine ⟨I2, ?_, ?_⟩
  · show 0 ≤ o + (h.at E o).ouK h.n
    omega
  · show o + (h.at E o).ouK h.n ≤ 60000 * ((k + 1 : Nat) : Int)
    omega
theorem Ok.ru {k0 : Nat} (v : Ok h E o k0) (n5 : h.n ≤ 5) {Z : Nat → Nat → Int} (zb : ∀ k i, 0 ≤ Z k i ∧ Z k i ≤ 200) (k : Nat) : Ok h (h.ru E o Z k).1 (h.ru E o Z k).2 (k0 + k) := by
  induction k with
  | zero => exact v
  | succ k ih => exact ih.step n5 (zb k)
theorem Ok.eb {k : Nat} (v : Ok h E o k) (a1 : -100 ≤ h.s) (a2 : h.s ≤ 100) (m12 : h.m ≤ 12) {i : Nat} (hi : i < h.n) : -200000000 ≤ E i ∧ E i ≤ 200000000 :=
  v.i.eb a1 (by show h.s ≤ 70000; omega) (by show h.s + 200 ≤ h.s + 2000; omega) m12 i hi
/-- A step of any model that has h's plain state. -/
theorem tws_any {k : Nat} {g : Mo} {W : World} {Z : Nat → Int} {Y : Nat} (v : Ok h E o k) (hk : k ≤ 1000) (a1 : -100 ≤ h.s) (a2 : h.s ≤ 100) (m12 : h.m ≤ 12) (zb : ∀ i, 0 ≤ Z i ∧ Z i ≤ 200) (H : Hm W (h.tw g h.s E o)) (FY : Fl W (some ⟨Y, 0, none⟩) 1 h.n (eV Z)) (hY : Y ≠ g.L ∧ Y ≠ g.X) :
    Calls Try.prog 19 #[.pointer (some ⟨g.L, 0, none⟩), .slice (some ⟨Y, 0, none⟩) h.n h.n] W (StP W (h.tw g h.s E o) (h.tw g h.s ((h.at E o).stp Z).E ((h.at E o).stp Z).o)) := by
  have I : Inv (h.tw g h.s E o) (h.s + 200) := ⟨v.i.g, v.i.st, v.i.e⟩
  have o1 := v.o1
  have o2 := v.o2
  have RG := I.rg (Z := Z) a1 (by show h.s ≤ 70000; omega) (by show h.s + 200 ≤ h.s + 2000; omega) m12 (fun i _ => by have := zb i; omega) (by show _ ≤ o; omega) (by show o ≤ _; omega)
  rw [← tw_stp']
  exact stp_any H (some ⟨Y, 0, none⟩) h.n Z FY RG (fun a e => by injection e with e; subst e; show ¬ (Y = g.L ∨ Y = g.X); omega)
end
/-- Two models apart: one's step leaves the other as it is. -/
theorem tw_keep {h g g2 : Mo} {s o : Int} {E : Nat → Int} {W W' : World} {lo mid hi : Nat} (H : Hm W (h.tw g s E o)) (hc : Chg g2.wr W W') (u1 : ∀ x, g.uses x → lo ≤ x ∧ x < mid ∨ hi ≤ x) (u2 : mid ≤ g2.L ∧ g2.L < hi ∧ mid ≤ g2.X ∧ g2.X < hi) : Hm W' (h.tw g s E o) :=
  H.keep hc (fun x hx hw => by
    have hx : g.uses x := hx
    have h1 := u1 x hx
    rcases hw with hw | hw
    · have hw : x = g2.L := hw; omega
    · have hw : x = g2.X := hw; omega)
/-- The powers of a round. -/
def zq (g : Nat → Pw) (j : Nat) : Nat → Int := powZ (g j).l (g j).z 200
theorem zq_b (g : Nat → Pw) (j i : Nat) : 0 ≤ zq g j i ∧ zq g j i ≤ 200 := by
  have := powZ_b (g j).l (g j).z 200 (by omega) i
  unfold zq
  omega
theorem Pws.pw {w : World} {P : Option Addr} {pn j n : Nat} {g : Nat → Pw} (h : Pws w P pn g) (hj : j < pn) (hn : n ≤ 1000) : ∃ pb po ga gl gc, P = some ⟨pb, po, none⟩ ∧ ∀ W, Below w.heap.size w W → pb < W.heap.size ∧ W.cell? ⟨pb, po + j, none⟩ = some (.slice ga gl gc) ∧ Calls Try.prog 16 #[.slice ga gl gc, .int .i64 n, .int .i64 200] W (PwP W n (zq g j)) := by
  obtain ⟨pb, po, e, -⟩ := h.at (Below.refl _ _) hj
  refine ⟨pb, po, (g j).a, (g j).l, (g j).c, e, fun W hb => ?_⟩
  obtain ⟨pb2, po2, e2, l, c, f⟩ := h.at hb hj
  rw [e] at e2
  injection e2 with e2
  injection e2 with e3 e4
  subst e3 e4
  exact ⟨l, c, pow_any (g j).a (g j).l (g j).c (g j).z n 200 W f hn (by omega)⟩
end Go.Proofs.Ytidegjinfacjjaa
