/- One domain: a step. -/
import Derived.Test.YtbblachhijpgeaaHSys
import Derived.Test.YtbblachhijpgeaaSus
namespace Go.Proofs.Ytbblachhijpgeaa
open Go.ChangeShapes Go.WideShapes Go.ChangeAt Go.RowKit Go.Deep Go.Joins

/-- What a step of a good model of one domain leaves. -/
def S1P (w : World) (h : Mo) (top o : Int) (e : Ending) (w' : World) : Prop :=
  ∃ (ab ao c : Nat) (t : Int) (E' : Nat → Int) (o' : Int), e = .returned (.tuple #[.slice (some ⟨ab, ao, none⟩) 1 c, .int .i64 0]) ∧ w'.cell? ⟨ab, ao, none⟩ = some (.int .i64 t) ∧ ab < w'.heap.size ∧ h.s ≤ t ∧ t ≤ top ∧
    Hm w' (h.at E' o') ∧ Inv (h.at E' o') top ∧ o ≤ o' ∧ o' ≤ o + 12000 ∧ Chg h.wr w w'
theorem step1 {w : World} {h : Mo} {E : Nat → Int} {o top z : Int} {Y c : Nat} (hn : h.n = 1) (hm : h.m = 0) (s1 : -100 ≤ h.s) (s2 : h.s ≤ 100) (ht : top ≤ h.s + 1000) (k : Hm w (h.at E o)) (I : Inv (h.at E o) top) (o1 : 0 ≤ o) (o2 : o ≤ 1000000000)
    (hY : Fl w (some ⟨Y, 0, none⟩) 1 1 (eV fun _ => z)) (z0 : 0 ≤ z) (z1 : z ≤ (h.D 0).a * (top - h.s)) (z2 : z ≤ 16777216) (hYL : ¬ h.wr Y) :
    Calls Try.prog 13 #[.pointer (some ⟨h.L, 0, none⟩), .slice (some ⟨Y, 0, none⟩) 1 c] w (S1P w h top o) := by
  have HS : (h.at E o).s = h.s := rfl
  have R : Rg (h.at E o) (fun _ => z) := I.rg s1 (by rw [HS]; omega) (by rw [HS]; omega) (by show h.m ≤ 12; omega) (fun _ _ => ⟨z0, z2⟩) (by show _ ≤ o; omega) (by show o ≤ _; omega)
  have S := stp_any k (some ⟨Y, 0, none⟩) c (fun _ => z) (by rw [show (h.at E o).n = 1 from hn]; exact hY) R (fun a e => by injection e with e; subst e; exact hYL)
  rw [show (h.at E o).n = 1 from hn] at S
  have I2 := I.step (Z := fun _ => z) (fun i hi => by
    have hi : i < h.n := hi
    rw [hn] at hi
    obtain rfl : i = 0 := by omega
    exact ⟨z0, z1⟩)
  have O := I.ou (by rw [HS]; omega) 1 (by show 1 ≤ h.n; omega)
  refine S.mono ?_
  rintro e w' ⟨v, rfl, hT, hK, hC⟩
  rw [show (h.at E o).n = 1 from hn] at hT
  obtain ⟨A, c', rfl, hF, hA⟩ := hT
  obtain ⟨b, off, rfl, hb, hc⟩ := hF.eat (show 0 < 1 by omega)
  rw [at_stp] at hK I2
  have T := I2.T (i := 0) (by show 0 < h.n; omega)
  refine ⟨b, off, c', _, _, _, rfl, hc, hb, T.1, T.2, hK, I2, ?_, ?_, hC⟩
  · show o ≤ o + (h.at E o).ouK (h.at E o).n
    rw [show (h.at E o).n = 1 from hn]
    omega
  · show o + (h.at E o).ouK (h.at E o).n ≤ _
    rw [show (h.at E o).n = 1 from hn]
    omega
theorem fle1 (w : World) (z : Int) : Fl (w.alloc (.cells #[.int .i64 z] 2)) (some ⟨w.heap.size, 0, none⟩) 1 1 (eV fun _ => z) := by
  refine ⟨by omega, .inr ⟨_, 0, rfl, by simp, fun j hj => ?_⟩⟩
  rw [Nat.zero_add, new_c]
  match j, hj with
  | 0, _ => rfl
/-- Powers of one number. -/
theorem pow1 (w : World) (r : Int) (p : Nat) (hp : p ≤ 100000) : Calls Try.prog 12 #[.slice (some ⟨w.heap.size, 0, none⟩) 1 1, .int .i64 1, .int .i64 p] (w.alloc (.cells #[.int .i64 r] 2)) (fun e w' => ∃ (Y z : Nat), z ≤ p ∧ e = .returned (.slice (some ⟨Y, 0, none⟩) 1 1) ∧ w'.cell? ⟨Y, 0, none⟩ = some (.int .i64 z) ∧ w.heap.size ≤ Y ∧ Y < w'.heap.size ∧ (∀ j, w'.frozen? ⟨Y, j, none⟩ = false) ∧ Below w.heap.size w w') := by
  have P := pow_any (some ⟨w.heap.size, 0, none⟩) 1 1 (fun _ => r) 1 p _ (fle1 w r) (by omega) hp
  refine Calls.mono P ?_
  rintro e w' ⟨Y, rfl, hF, h1, h2, h3, h4⟩
  have h1 : (w.alloc (.cells #[.int .i64 r] 2)).heap.size ≤ Y := h1
  have hs : (w.alloc (.cells #[.int .i64 r] 2)).heap.size = w.heap.size + 1 := by simp
  have c := (hF.eat' rfl (show 0 < 1 by omega)).2
  rw [Nat.zero_add] at c
  have e0 : powZ 1 (fun _ => r) p 0 = ((pw r p : Nat) : Int) := if_pos (by omega)
  rw [e0] at c
  exact ⟨Y, pw r p, (pw_spec r p hp).2, rfl, c, by omega, h2, h3, bel2 (bal (Below.refl _ _) _) h4⟩
theorem fl_c {w : World} {Y : Nat} {z : Int} (h : w.cell? ⟨Y, 0, none⟩ = some (.int .i64 z)) (hl : Y < w.heap.size) : Fl w (some ⟨Y, 0, none⟩) 1 1 (eV fun _ => z) := by
  refine ⟨by omega, .inr ⟨Y, 0, rfl, hl, fun j hj => ?_⟩⟩
  match j, hj with
  | 0, _ => exact h
end Go.Proofs.Ytbblachhijpgeaa
