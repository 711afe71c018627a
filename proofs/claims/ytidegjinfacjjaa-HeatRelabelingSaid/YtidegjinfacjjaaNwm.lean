/- New, of a valid model. -/
import Derived.Test.YtidegjinfacjjaaVld
import Derived.Deep.RegionHeld3
import Derived.Deep.AppendLies
namespace Go.Proofs.Ytidegjinfacjjaa
open Go.ChangeShapes Go.WideShapes Go.ChangeAt Go.RowKit Go.Deep Go.Joins Go.Maps

theorem mul_bd {a b A B : Int} (h1 : -A ≤ a) (h2 : a ≤ A) (h3 : -B ≤ b) (h4 : b ≤ B) : -(A * B) ≤ a * b ∧ a * b ≤ A * B := by
  have e : ((a * b).natAbs : Int) ≤ A * B := by
    rw [Int.natAbs_mul, Int.natCast_mul]
    exact Int.mul_le_mul (by omega) (by omega) (by omega) (by omega)
  omega
theorem Fl.below' {w w' : World} {A : Option Addr} {k n : Nat} {V : Nat → Value} (h : Fl w A k n V) (hb : Below w.heap.size w w') : Fl w' A k n V := h.below hb (Nat.le_refl _)
/-- A model in the making: its energies are the first k. -/
structure Mk (w wr : World) (L : Nat) (A : Option Addr) (n ca : Nat) (D : Nat → Dm) (B : Option Addr) (m cb : Nat) (K : Nat → Lk) (s : Int) (v : Value) (k : Nat) : Prop where
  c0 : wr.cell? ⟨L, 0, none⟩ = some (.slice A n ca)
  c1 : wr.cell? ⟨L, 1, none⟩ = some (.slice B m cb)
  c2 : wr.cell? ⟨L, 2, none⟩ = some (.int .i64 s)
  c3 : wr.cell? ⟨L, 3, none⟩ = some v
  c4 : wr.cell? ⟨L, 4, none⟩ = some (.int .i64 0)
  fL : ∀ j, wr.frozen? ⟨L, j, none⟩ = false
  lL : L < wr.heap.size
  own : wr.ownsRow (L + 1) 2 1 v k (vsL (eV (fun i => (D i).c * s)) k)
  bel : Below w.heap.size w wr
  w0 : w.heap.size ≤ L
  dm : Fl wr A 2 n (dV D)
  lk : Fl wr B 3 m (lV K)
  aL : ∀ a, A = some a → w.heap.size ≤ a.block ∧ a.block < L
  bL : ∀ a, B = some a → w.heap.size ≤ a.block ∧ a.block < L
theorem own_lo {w : World} {base t k n : Nat} {v : Value} {xs : List Value} (h : w.ownsRow base t k v n xs) (b : Nat) (hb : v.ownBlock = some b) : base ≤ b ∧ b < w.heap.size := by
  rcases h.2 with ⟨e, _⟩ | ⟨g, cap, cur, e, h1, h2, _⟩
  · subst e; cases hb
  · subst e
    injection hb with hb
    subst hb
    exact ⟨h1, blk_lt h2⟩
section
variable {w wr wx : World} {L : Nat} {A : Option Addr} {n ca : Nat} {D : Nat → Dm} {B : Option Addr} {m cb : Nat} {K : Nat → Lk} {s : Int} {v : Value} {k : Nat}
theorem Mk.chg {S : Nat → Prop} (h : Mk w wr L A n ca D B m cb K s v k) (hc : Chg S wr wx) (hS : ∀ b, S b → L < b) {v' : Value} {k' : Nat} (ho : wx.ownsRow (L + 1) 2 1 v' k' (vsL (eV (fun i => (D i).c * s)) k')) (he : v' = v) : Mk w wx L A n ca D B m cb K s v' k' := by
  subst he
  have e := hc.block L h.lL (fun x => by have := hS _ x; omega)
  exact ⟨(blk_cell e _).trans h.c0, (blk_cell e _).trans h.c1, (blk_cell e _).trans h.c2, (blk_cell e _).trans h.c3, (blk_cell e _).trans h.c4, fun j => (blk_frz e j).trans (h.fL j), Nat.lt_of_lt_of_le h.lL hc.size, ho, Below.chg h.bel hc h.bel.size (fun b x => by have := hS _ x; have := h.w0; omega), h.w0, h.dm.chg hc (fun a e _ x => by have := hS _ x; have := (h.aL a e).2; omega), h.lk.chg hc (fun a e _ x => by have := hS _ x; have := (h.bL a e).2; omega), h.aL, h.bL⟩
theorem Mk.below (h : Mk w wr L A n ca D B m cb K s v k) (hb : Below wr.heap.size wr wx) : Mk w wx L A n ca D B m cb K s v k :=
  h.chg (Chg.of_below hb (fun _ => False)) (fun _ x => x.elim) (own_chg h.own (Chg.of_below hb (fun _ => False)) (fun _ _ x => x)) rfl
/-- One energy more. -/
theorem Mk.app {w3 : World} (h : Mk w wr L A n ca D B m cb K s v k) {v' : Value} (hg : wr.grownBy w3 v.ownBlock) (ho : w3.ownsRow (L + 1) 2 1 v' (k + 1) (vsL (eV (fun i => (D i).c * s)) (k + 1))) : Mk w (w3.setCell ⟨L, 3, none⟩ v') L A n ca D B m cb K s v' (k + 1) := by
  have hc := Chg.of_grown hg
  have hS : ∀ b, v.ownBlock = some b → L < b := fun b hb => by have := (own_lo h.own b hb).1; omega
  have e := hc.block L h.lL (fun x => by have := hS _ x; omega)
  have cc := Chg.set w3 L 3 v'
  have hc2 : Chg (fun b => v.ownBlock = some b ∨ b = L) wr (w3.setCell ⟨L, 3, none⟩ v') := (hc.mono (fun _ _ x => .inl x)).trans (cc.mono (fun _ _ x => .inr x))
  refine ⟨(set_off _ _ _ _ _ (by decide)).trans ((blk_cell e _).trans h.c0), (set_off _ _ _ _ _ (by decide)).trans ((blk_cell e _).trans h.c1), (set_off _ _ _ _ _ (by decide)).trans ((blk_cell e _).trans h.c2), set_same _ _ _ _ _ ((blk_cell e _).trans h.c3), (set_off _ _ _ _ _ (by decide)).trans ((blk_cell e _).trans h.c4), fun j => (set_frz ..).trans ((blk_frz e j).trans (h.fL j)), Nat.lt_of_lt_of_le h.lL hc2.size, own_chg ho cc (fun b hb x => by have := (own_lo ho b hb).1; omega), Below.chg h.bel hc2 h.bel.size (fun b x => by
    have := h.w0
    rcases x with x | x
    · have := hS _ x; omega
    · omega), h.w0, h.dm.chg hc2 (fun a e _ x => by
      have := (h.aL a e).2
      rcases x with x | x
      · have := hS _ x; omega
      · omega), h.lk.chg hc2 (fun a e _ x => by
      have := (h.bL a e).2
      rcases x with x | x
      · have := hS _ x; omega
      · omega), h.aL, h.bL⟩
end
end Go.Proofs.Ytidegjinfacjjaa
