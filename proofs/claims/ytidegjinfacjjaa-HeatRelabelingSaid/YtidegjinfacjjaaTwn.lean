/- Two models of one system, the surroundings of the second warmer. -/
import Derived.Test.YtidegjinfacjjaaBnd
import Derived.Test.YtidegjinfacjjaaTeq
namespace Go.Proofs.Ytidegjinfacjjaa
open Go.ChangeShapes Go.WideShapes Go.ChangeAt Go.RowKit Go.Deep Go.Joins

theorem PwP.lr {w : World} {n : Nat} {Z : Nat → Int} {e : Ending} {w' : World} (h : PwP w n Z e w') : ∃ Y, e = .returned (.slice (some ⟨Y, 0, none⟩) n n) ∧ Lr w w' Y n Z := by
  obtain ⟨Y, he, hF, h0, h1, hf, hb⟩ := h
  refine ⟨Y, he, hb, h1, h0, fun j hj => ?_, hf⟩
  have := (hF.eat' rfl hj).2
  rw [Nat.zero_add] at this
  exact this
theorem Lr.fl {w wr : World} {Y n : Nat} {T : Nat → Int} (h : Lr w wr Y n T) (hn : n ≤ 1000) : Fl wr (some ⟨Y, 0, none⟩) 1 n (eV T) := ⟨by omega, .inr ⟨Y, 0, rfl, h.lY, fun j hj => by rw [Nat.zero_add]; exact h.at_ j (by omega)⟩⟩
/-- h's system in the place of g. -/
def Mo.tw (h g : Mo) (s : Int) (E : Nat → Int) (o : Int) : Mo := { g with n := h.n, D := h.D, m := h.m, K := h.K, s := s, E := E, o := o }
theorem tw_self {h g : Mo} (e1 : g.n = h.n) (e2 : g.D = h.D) (e3 : g.m = h.m) (e4 : g.K = h.K) : g = h.tw g g.s g.E g.o := by
  cases g
  cases h
  simp only at e1 e2 e3 e4
  subst e1 e2 e3 e4
  rfl
theorem tw_stp (h g : Mo) (s : Int) (E : Nat → Int) (o : Int) (Z : Nat → Int) : (h.tw g s E o).stp Z = h.tw g s ((h.tw g s E o).stp Z).E ((h.tw g s E o).stp Z).o := rfl
section
variable {h g : Mo} {E F : Nat → Int} {o up : Int}
theorem tw_T (G : Gd h.n h.m h.D h.K) (hF : ∀ i, i < h.n → F i = E i + (h.D i).c * up) {i : Nat} (hi : i < h.n) : (h.tw g (h.s + up) F o).T i = (h.at E o).T i + up := by
  have := G.d i hi
  have := ldK_a G h.m i (Nat.le_refl _)
  show F i / (h.D i).c = E i / (h.D i).c + up
  rw [hF i hi, Int.add_mul_ediv_left _ _ (by omega)]
theorem tw_fl (G : Gd h.n h.m h.D h.K) (hF : ∀ i, i < h.n → F i = E i + (h.D i).c * up) (k i : Nat) (hk : k ≤ h.m) : (h.tw g (h.s + up) F o).flK k i = (h.at E o).flK k i := by
  induction k with
  | zero => rfl
  | succ k ih =>
    obtain ⟨p, q, e1, e2, hp, hq, _⟩ := G.l k (by omega)
    have f : (h.tw g (h.s + up) F o).fl k = (h.at E o).fl k := by
      show (h.K k).c * ((h.tw g (h.s + up) F o).T (h.K k).a.toNat - (h.tw g (h.s + up) F o).T (h.K k).b.toNat) = (h.K k).c * ((h.at E o).T (h.K k).a.toNat - (h.at E o).T (h.K k).b.toNat)
      rw [e1, e2, Int.toNat_natCast, Int.toNat_natCast, tw_T G hF hp, tw_T G hF hq]
      congr 1
      omega
    show (h.tw g (h.s + up) F o).flK k i - (if (h.K k).a = i then (h.tw g (h.s + up) F o).fl k else 0) + (if (h.K k).b = i then (h.tw g (h.s + up) F o).fl k else 0) = (h.at E o).flK k i - (if (h.K k).a = i then (h.at E o).fl k else 0) + (if (h.K k).b = i then (h.at E o).fl k else 0)
    rw [ih (by omega), f]
theorem tw_ou (G : Gd h.n h.m h.D h.K) (hF : ∀ i, i < h.n → F i = E i + (h.D i).c * up) {i : Nat} (hi : i < h.n) : (h.tw g (h.s + up) F o).ou i = (h.at E o).ou i := by
  show (h.D i).a * ((h.tw g (h.s + up) F o).T i - (h.s + up)) = (h.D i).a * ((h.at E o).T i - h.s)
  rw [tw_T G hF hi]
  congr 1
  omega
theorem tw_ouK (G : Gd h.n h.m h.D h.K) (hF : ∀ i, i < h.n → F i = E i + (h.D i).c * up) (k : Nat) (hk : k ≤ h.n) : (h.tw g (h.s + up) F o).ouK k = (h.at E o).ouK k := by
  induction k with
  | zero => rfl
  | succ k ih =>
    show (h.tw g (h.s + up) F o).ouK k + (h.tw g (h.s + up) F o).ou k = (h.at E o).ouK k + (h.at E o).ou k
    rw [ih (by omega), tw_ou G hF (by omega)]
/-- A step keeps the two alike. -/
theorem tw_step (G : Gd h.n h.m h.D h.K) (hF : ∀ i, i < h.n → F i = E i + (h.D i).c * up) (Z : Nat → Int) :
    (∀ i, i < h.n → ((h.tw g (h.s + up) F o).stp Z).E i = ((h.at E o).stp Z).E i + (h.D i).c * up) ∧ ((h.tw g (h.s + up) F o).stp Z).o = ((h.at E o).stp Z).o := by
  refine ⟨fun i hi => ?_, ?_⟩
  · show F i + (Z i - (h.tw g (h.s + up) F o).ou i) + (h.tw g (h.s + up) F o).flK h.m i = E i + (Z i - (h.at E o).ou i) + (h.at E o).flK h.m i + (h.D i).c * up
    rw [tw_ou G hF hi, tw_fl G hF h.m i (Nat.le_refl _), hF i hi]
    omega
  · show o + (h.tw g (h.s + up) F o).ouK h.n = o + (h.at E o).ouK h.n
    rw [tw_ouK G hF h.n (Nat.le_refl _)]
end
end Go.Proofs.Ytidegjinfacjjaa
