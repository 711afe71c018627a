/- The reversed system: pure facts. -/
import Derived.Test.YtidegjinfacjjaaCpm
namespace Go.Proofs.Ytidegjinfacjjaa
open Go.ChangeShapes Go.WideShapes Go.ChangeAt Go.RowKit Go.Deep Go.Joins

def rvD (n : Nat) (D : Nat → Dm) (i : Nat) : Dm := D (n - 1 - i)
def rvK (n m : Nat) (K : Nat → Lk) (l : Nat) : Lk := ⟨(n : Int) - 1 - (K (m - 1 - l)).b, (n : Int) - 1 - (K (m - 1 - l)).a, (K (m - 1 - l)).c⟩
theorem sumK_front (f : Nat → Int) (n : Nat) : sumK f (n + 1) = f 0 + sumK (fun i => f (i + 1)) n := by
  induction n with
  | zero => show 0 + f 0 = f 0 + 0; omega
  | succ n ih =>
    show sumK f (n + 1) + f (n + 1) = f 0 + (sumK (fun i => f (i + 1)) n + f (n + 1))
    omega
theorem sumK_rev (f : Nat → Int) (n : Nat) : sumK (fun i => f (n - 1 - i)) n = sumK f n := by
  induction n with
  | zero => rfl
  | succ n ih =>
    rw [sumK_front]
    have e : sumK (fun i => f (n + 1 - 1 - (i + 1))) n = sumK (fun i => f (n - 1 - i)) n := sumK_congr (fun i _ => by
      show f (n + 1 - 1 - (i + 1)) = f (n - 1 - i)
      congr 1
      omega)
    show f (n + 1 - 1 - 0) + sumK (fun i => f (n + 1 - 1 - (i + 1))) n = sumK f n + f n
    rw [e, ih, show n + 1 - 1 - 0 = n by omega]
    omega
def lt2 (K : Nat → Lk) (j : Int) (l : Nat) : Int := (if (K l).a = j then (K l).c else 0) + (if (K l).b = j then (K l).c else 0)
theorem ldK_sum (D : Nat → Dm) (K : Nat → Lk) (m i : Nat) : ldK D K m i = (D i).a + sumK (lt2 K i) m := by
  induction m with
  | zero => show (D i).a = (D i).a + 0; omega
  | succ m ih =>
    show ldK D K m i + _ + _ = (D i).a + (sumK (lt2 K i) m + lt2 K i m)
    unfold lt2
    unfold lt2 at ih
    omega
def dl (h : Mo) (j : Int) (l : Nat) : Int := (if (h.K l).b = j then h.fl l else 0) - (if (h.K l).a = j then h.fl l else 0)
theorem flK_sum (h : Mo) (m i : Nat) : h.flK m i = sumK (dl h i) m := by
  induction m with
  | zero => rfl
  | succ m ih =>
    show h.flK m i - _ + _ = sumK (dl h i) m + dl h i m
    unfold dl
    unfold dl at ih
    omega
theorem ouK_sum (h : Mo) (m : Nat) : h.ouK m = sumK h.ou m := (sum_ou h m).symm
theorem ld_rev {n m : Nat} {D : Nat → Dm} {K : Nat → Lk} (g : Gd n m D K) {j : Nat} (hj : j < n) : ldK (rvD n D) (rvK n m K) m j = ldK D K m (n - 1 - j) := by
  rw [ldK_sum, ldK_sum, ← sumK_rev (lt2 K _) m]
  have e : sumK (lt2 (rvK n m K) j) m = sumK (fun i => lt2 K ((n - 1 - j : Nat) : Int) (m - 1 - i)) m := sumK_congr (fun l hl => by
    obtain ⟨p, q, e1, e2, hp, hq, _⟩ := g.l (m - 1 - l) (by omega)
    unfold lt2 rvK
    simp only [e1, e2]
    have a1 : ((n : Int) - 1 - (q : Int) = (j : Int)) ↔ ((q : Int) = ((n - 1 - j : Nat) : Int)) := by omega
    have a2 : ((n : Int) - 1 - (p : Int) = (j : Int)) ↔ ((p : Int) = ((n - 1 - j : Nat) : Int)) := by omega
    simp only [a1, a2]
    omega)
  rw [e]
  rfl
theorem Gd.rev {n m : Nat} {D : Nat → Dm} {K : Nat → Lk} (g : Gd n m D K) : Gd n m (rvD n D) (rvK n m K) := by
  refine ⟨fun j hj => ?_, fun l hl => ?_, fun l l2 h1 h2 => ?_⟩
  · obtain ⟨a, b, c, d⟩ := g.d (n - 1 - j) (by omega)
    rw [ld_rev g hj]
    exact ⟨a, b, c, d⟩
  · obtain ⟨p, q, e1, e2, hp, hq, hpq, c1, c2⟩ := g.l (m - 1 - l) (by omega)
    refine ⟨n - 1 - q, n - 1 - p, ?_, ?_, by omega, by omega, by omega, c1, c2⟩
    · show (n : Int) - 1 - (K (m - 1 - l)).b = _
      rw [e2]; omega
    · show (n : Int) - 1 - (K (m - 1 - l)).a = _
      rw [e1]; omega
  · intro e
    refine g.pr (m - 1 - l2) (m - 1 - l) (by omega) (by omega) ?_
    unfold prL rvK at e
    simp only [Prod.mk.injEq] at e
    obtain ⟨e1, e2⟩ := e
    unfold prL
    simp only [Prod.mk.injEq]
    have c1 : ((n : Int) - 1 - (K (m - 1 - l)).b ≤ (n : Int) - 1 - (K (m - 1 - l)).a) ↔ ((K (m - 1 - l)).a ≤ (K (m - 1 - l)).b) := by omega
    have c2 : ((n : Int) - 1 - (K (m - 1 - l2)).b ≤ (n : Int) - 1 - (K (m - 1 - l2)).a) ↔ ((K (m - 1 - l2)).a ≤ (K (m - 1 - l2)).b) := by omega
    simp only [c1, c2] at e1 e2
    by_cases h3 : (K (m - 1 - l)).a ≤ (K (m - 1 - l)).b <;> by_cases h4 : (K (m - 1 - l2)).a ≤ (K (m - 1 - l2)).b <;> simp only [h3, h4, if_true, if_false] at e1 e2 ⊢ <;> omega
/-- h's system reversed, in the place of g. -/
def Mo.rv (h g : Mo) (F : Nat → Int) (o : Int) : Mo := { g with n := h.n, D := rvD h.n h.D, m := h.m, K := rvK h.n h.m h.K, s := h.s, E := F, o := o }
theorem rv_self {h g : Mo} (e1 : g.n = h.n) (e2 : g.D = rvD h.n h.D) (e3 : g.m = h.m) (e4 : g.K = rvK h.n h.m h.K) (e5 : g.s = h.s) : g = h.rv g g.E g.o := by
  cases g
  cases h
  simp only at e1 e2 e3 e4 e5
  subst e1 e2 e3 e4 e5
  rfl
theorem rv_stp (h g : Mo) (F : Nat → Int) (o : Int) (Z : Nat → Int) : (h.rv g F o).stp Z = h.rv g ((h.rv g F o).stp Z).E ((h.rv g F o).stp Z).o := rfl
section
variable {h g : Mo} {E F : Nat → Int} {o : Int} {Z Z' : Nat → Int}
theorem rv_T (hF : ∀ i, i < h.n → F i = E (h.n - 1 - i)) {i : Nat} (hi : i < h.n) : (h.rv g F o).T i = (h.at E o).T (h.n - 1 - i) := by
  show F i / (h.D (h.n - 1 - i)).c = E (h.n - 1 - i) / (h.D (h.n - 1 - i)).c
  rw [hF i hi]
theorem rv_ou (hF : ∀ i, i < h.n → F i = E (h.n - 1 - i)) {i : Nat} (hi : i < h.n) : (h.rv g F o).ou i = (h.at E o).ou (h.n - 1 - i) := by
  show (h.D (h.n - 1 - i)).a * ((h.rv g F o).T i - h.s) = (h.D (h.n - 1 - i)).a * ((h.at E o).T (h.n - 1 - i) - h.s)
  rw [rv_T hF hi]
theorem rv_fl (G : Gd h.n h.m h.D h.K) (hF : ∀ i, i < h.n → F i = E (h.n - 1 - i)) {l : Nat} (hl : l < h.m) : (h.rv g F o).fl l = -(h.at E o).fl (h.m - 1 - l) := by
  obtain ⟨p, q, e1, e2, hp, hq, _⟩ := G.l (h.m - 1 - l) (by omega)
  show (h.K (h.m - 1 - l)).c * ((h.rv g F o).T ((h.n : Int) - 1 - (h.K (h.m - 1 - l)).b).toNat - (h.rv g F o).T ((h.n : Int) - 1 - (h.K (h.m - 1 - l)).a).toNat) = -((h.K (h.m - 1 - l)).c * ((h.at E o).T (h.K (h.m - 1 - l)).a.toNat - (h.at E o).T (h.K (h.m - 1 - l)).b.toNat))
  rw [e1, e2, show ((h.n : Int) - 1 - (q : Int)).toNat = h.n - 1 - q by omega, show ((h.n : Int) - 1 - (p : Int)).toNat = h.n - 1 - p by omega, rv_T hF (by omega), rv_T hF (by omega), show h.n - 1 - (h.n - 1 - q) = q by omega, show h.n - 1 - (h.n - 1 - p) = p by omega, Int.toNat_natCast, Int.toNat_natCast, ← Int.mul_neg]
  congr 1
  omega
theorem rv_flK (G : Gd h.n h.m h.D h.K) (hF : ∀ i, i < h.n → F i = E (h.n - 1 - i)) {i : Nat} (hi : i < h.n) : (h.rv g F o).flK h.m i = (h.at E o).flK h.m (h.n - 1 - i) := by
  rw [flK_sum, flK_sum, ← sumK_rev (dl (h.at E o) _) h.m]
  refine sumK_congr (fun l hl => ?_)
  obtain ⟨p, q, e1, e2, hp, hq, _⟩ := G.l (h.m - 1 - l) (by omega)
  show (if (h.n : Int) - 1 - (h.K (h.m - 1 - l)).a = (i : Int) then (h.rv g F o).fl l else 0) - (if (h.n : Int) - 1 - (h.K (h.m - 1 - l)).b = (i : Int) then (h.rv g F o).fl l else 0) = (if (h.K (h.m - 1 - l)).b = ((h.n - 1 - i : Nat) : Int) then (h.at E o).fl (h.m - 1 - l) else 0) - (if (h.K (h.m - 1 - l)).a = ((h.n - 1 - i : Nat) : Int) then (h.at E o).fl (h.m - 1 - l) else 0)
  rw [rv_fl G hF hl, e1, e2]
  have a1 : ((h.n : Int) - 1 - (q : Int) = (i : Int)) ↔ ((q : Int) = ((h.n - 1 - i : Nat) : Int)) := by omega
  have a2 : ((h.n : Int) - 1 - (p : Int) = (i : Int)) ↔ ((p : Int) = ((h.n - 1 - i : Nat) : Int)) := by omega
  simp only [a1, a2]
  split <;> split <;> omega
theorem rv_step (G : Gd h.n h.m h.D h.K) (hF : ∀ i, i < h.n → F i = E (h.n - 1 - i)) (hZ : ∀ i, i < h.n → Z' i = Z (h.n - 1 - i)) :
    (∀ i, i < h.n → ((h.rv g F o).stp Z').E i = ((h.at E o).stp Z).E (h.n - 1 - i)) ∧ ((h.rv g F o).stp Z').o = ((h.at E o).stp Z).o := by
  refine ⟨fun i hi => ?_, ?_⟩
  · show F i + (Z' i - (h.rv g F o).ou i) + (h.rv g F o).flK h.m i = E (h.n - 1 - i) + (Z (h.n - 1 - i) - (h.at E o).ou (h.n - 1 - i)) + (h.at E o).flK h.m (h.n - 1 - i)
    rw [hF i hi, hZ i hi, rv_ou hF hi, rv_flK G hF hi]
  · show o + (h.rv g F o).ouK h.n = o + (h.at E o).ouK h.n
    rw [ouK_sum, ouK_sum, ← sumK_rev (h.at E o).ou h.n]
    congr 1
    exact sumK_congr (fun i hi => rv_ou hF hi)
end
end Go.Proofs.Ytidegjinfacjjaa
