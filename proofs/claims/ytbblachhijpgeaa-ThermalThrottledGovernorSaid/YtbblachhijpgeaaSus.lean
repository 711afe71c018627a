/- Sustainable, of a good domain. -/
import Derived.Test.YtbblachhijpgeaaHNew
namespace Go.Proofs.Ytbblachhijpgeaa
open Go.ChangeShapes Go.WideShapes Go.ChangeAt Go.RowKit Go.Deep Go.Joins

def K00 : Nat → Lk := fun _ => ⟨0, 0, 0⟩
theorem fl_nil (w : World) (K : Nat → Lk) : Fl w none 3 0 (lV K) := ⟨by omega, .inl rfl⟩
theorem va1 {c a amb : Int} (h1 : 1 ≤ a) (h2 : a ≤ 100) (h3 : a ≤ c) (h4 : c ≤ 10000) (h5 : -100 ≤ amb) (h6 : amb ≤ 100) : Va 1 (fun _ => ⟨c, a⟩) 0 K00 amb :=
  ⟨by omega, by omega, by omega, by omega, fun _ _ => by show 1 ≤ a ∧ a ≤ _ ∧ c ≤ _; omega, fun l hl => by omega, fun l l2 h1 h2 => by omega, fun _ _ => h3⟩
theorem fl1 (w : World) (c a : Int) : Fl (w.alloc (.cells #[.int .i64 c, .int .i64 a] 23)) (some ⟨w.heap.size, 0, none⟩) 2 1 (dV fun _ => ⟨c, a⟩) := by
  refine ⟨by omega, .inr ⟨_, 0, rfl, by simp, fun j hj => ?_⟩⟩
  rw [Nat.zero_add, new_c]
  match j, hj with
  | 0, _ => rfl
  | 1, _ => rfl
theorem dd0 (P : Nat → Prop) (i : Nat) (hi : i < 1) (h : P 0) : P i := by
  obtain rfl : i = 0 := by omega
  exact h
def SusP (w : World) (p : Int) (e : Ending) (w' : World) : Prop := e = .returned (.tuple #[.int .i64 p, .int .i64 0]) ∧ Below w.heap.size w w'
set_option maxRecDepth 20000 in
set_option maxHeartbeats 4000000 in
theorem sus_any (c a amb lim p : Int) (h1 : 1 ≤ a) (h2 : a ≤ 100) (h3 : a ≤ c) (h4 : c ≤ 10000) (h5 : -100 ≤ amb) (h6 : amb ≤ 100) (h7 : amb ≤ lim) (h8 : lim ≤ amb + 1000) (hp : a * (lim - amb) = p) (w : World) : Calls Try.prog 10 #[.agg #[.int .i64 c, .int .i64 a], .int .i64 amb, .int .i64 lim] w (SusP w p) := by
  have V := va1 h1 h2 h3 h4 h5 h6
  obtain ⟨d, hd⟩ : ∃ d, lim - amb = d := ⟨_, rfl⟩
  have WH1 := Lib.hid (both (x := lim - amb) (y := d) (by omega) hd)
  have mb := mul_bd (a := a) (b := d) (A := 100) (B := 100000) (by omega) (by omega) (by omega) (by omega)
  rw [hd] at hp
  have WH2 := Lib.hid (both (x := a * d) (y := p) (by omega) hp)
  have HB := Lib.hid (bal (Below.refl w.heap.size w) (Obj.cells #[.int .i64 c, .int .i64 a] 23))
  have q1 : ¬ lim < amb := by omega
  have q2 : ¬ (33554432 : Int) < lim := by omega
  obtain ⟨z0, z1⟩ := bx2 w (.int .i64 c) (.int .i64 a) 23
  have lS : w.heap.size < (w.alloc (.cells #[.int .i64 c, .int .i64 a] 23)).heap.size := by simp
  clear h1 h2 h3 h4 h5 h6 h7 h8 mb hd hp
  go_enter Try.func10, Try.ntmps10
  go_upto_region 1 with fail
  generalize w.alloc (.cells #[.int .i64 c, .int .i64 a] 23) = w1 at *
  have NW : Calls Try.prog 11 #[.slice (some ⟨w1.heap.size, 0, none⟩) 1 1, .slice none 0 0, .int .i64 amb] _ _ := new_any V (some ⟨w1.heap.size, 0, none⟩) 1 none 0 _ (fl1 w1 c a) (fl_nil _ _) (fun _ => ⟨rfl, rfl⟩)
  have hb1 : Below w1.heap.size w1 (w1.alloc (.cells #[.int .i64 c, .int .i64 a] 23)) := bal (Below.refl _ _) _
  have HB1 := Lib.hid (bel2 HB.out hb1)
  have y0 := (hb1.cell (p := ⟨w.heap.size, 0, none⟩) lS).trans z0
  have y1 := (hb1.cell (p := ⟨w.heap.size, 1, none⟩) lS).trans z1
  have lS2 := Nat.lt_of_lt_of_le lS hb1.size
  clear V hb1
  go_wp2_with fail
  generalize w1.alloc (.cells #[.int .i64 c, .int .i64 a] 23) = w2 at *
  clear z0 z1 lS
  refine NW.mono ?_
  clear NW
  rintro e w3 ⟨h, rfl, -, -, -, -, -, -, -, -, -, hb⟩
  have x1 := (hb.cell (p := ⟨w.heap.size, 1, none⟩) lS2).trans y1
  have F : Hid (SusP w p (.returned (.tuple #[.int .i64 p, .int .i64 0])) w3) := ⟨rfl, bel2 HB1.out hb⟩
  have lS3 := Nat.lt_of_lt_of_le lS2 hb.size
  obtain ⟨W1, W1w⟩ := WH1.out
  obtain ⟨W2, W2w⟩ := WH2.out
  clear WH1 WH2 hb y0 y1 lS2 HB1 HB
  go_wp2
  go_ret2
  exact F.out
end Go.Proofs.Ytbblachhijpgeaa
