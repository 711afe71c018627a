/- The sanity check: the example of the chapter. -/
import Derived.Test.YtejfopjnokopeaaChg
namespace Go.Proofs.Ytejfopjnokopeaa
open Go.ChangeShapes Go.WideShapes Go.ChangeAt Go.RowKit Go.Deep Go.Joins

def dA (a b : Nat) : PD := ⟨-1, fun k => if k = 0 then some ⟨a, 0, none⟩ else if k = 3 then some ⟨b, 0, none⟩ else none, fun k => if k = 0 then 2 else if k = 3 then 1 else 0, fun k => if k = 0 then 2 else if k = 3 then 1 else 0, fun k => if k = 0 then 0 else if k < 3 then 3 else 4, 2, 3⟩
def lA (k : Nat) : List Int := if k = 0 then [0, 2] else if k = 3 then [2] else []
theorem il_nil0 (w : World) : Il w none [] := ⟨by simp, .inl rfl⟩
theorem il_lit2 (w : World) (x y : Int) : Il (w.alloc (.cells #[.int .i64 x, .int .i64 y] 3)) (some ⟨w.heap.size, 0, none⟩) [x, y] := ⟨by simp, .inr ⟨_, 0, rfl, by simp, fun i hi => by
  rw [new_c]
  rcases (show i = 0 ∨ i = 1 by simp at hi; omega) with rfl | rfl <;> rfl⟩⟩
theorem il_lit1 (w : World) (x : Int) : Il (w.alloc (.cells #[.int .i64 x] 3)) (some ⟨w.heap.size, 0, none⟩) [x] := ⟨by simp, .inr ⟨_, 0, rfl, by simp, fun i hi => by
  rw [new_c]
  obtain rfl : i = 0 := by simp at hi; omega
  rfl⟩⟩
theorem rl_A {w : World} {a b : Nat} (h0 : Il w (some ⟨a, 0, none⟩) [0, 2]) (h3 : Il w (some ⟨b, 0, none⟩) [2]) : Rl w (dA a b) lA :=
  ⟨fun k hk => by rcases (show k = 0 ∨ k = 1 ∨ k = 2 ∨ k = 3 by omega) with rfl | rfl | rfl | rfl <;> rfl,
   fun k hk => by
    rcases (show k = 0 ∨ k = 1 ∨ k = 2 ∨ k = 3 by omega) with rfl | rfl | rfl | rfl
    · exact h0
    · exact il_nil0 w
    · exact il_nil0 w
    · exact h3⟩
theorem cells_A {W : World} {Z a b : Nat} (h : C13 W Z (dA a b)) : Z < W.heap.size ∧ W.cell? ⟨Z, 0, none⟩ = some (.int .i64 (-1)) ∧ W.cell? ⟨Z, 1, none⟩ = some (.slice (some ⟨a, 0, none⟩) 2 2) ∧ W.cell? ⟨Z, 2, none⟩ = some (.slice none 0 0) ∧ W.cell? ⟨Z, 3, none⟩ = some (.slice none 0 0) ∧ W.cell? ⟨Z, 4, none⟩ = some (.slice (some ⟨b, 0, none⟩) 1 1) ∧ W.cell? ⟨Z, 5, none⟩ = some (.int .i64 0) ∧ W.cell? ⟨Z, 6, none⟩ = some (.int .i64 3) ∧ W.cell? ⟨Z, 7, none⟩ = some (.int .i64 3) ∧ W.cell? ⟨Z, 8, none⟩ = some (.int .i64 4) ∧ W.cell? ⟨Z, 9, none⟩ = some (.int .i64 4) ∧ W.cell? ⟨Z, 10, none⟩ = some (.int .i64 4) ∧ W.cell? ⟨Z, 11, none⟩ = some (.int .i64 2) ∧ W.cell? ⟨Z, 12, none⟩ = some (.int .i64 3) := h
def LawP (w : World) (e : Ending) (w' : World) : Prop := e = .returned (.bool true) ∧ Below w.heap.size w w'
set_option maxRecDepth 20000 in
set_option maxHeartbeats 16000000 in
theorem awake_any (w : World) : Calls Try.prog 14 #[] w (LawP w) := by
  have b1 : Below w.heap.size w (w.alloc (.cells #[.int .i64 0, .int .i64 2] 3)) := bal (Below.refl _ _) _
  have b2 : Below w.heap.size w ((w.alloc (.cells #[.int .i64 0, .int .i64 2] 3)).alloc (.cells #[.int .i64 2] 3)) := bal b1 _
  have i1 := il_lit2 w 0 2
  have i2 := il_lit1 (w.alloc (.cells #[.int .i64 0, .int .i64 2] 3)) 2
  have i1 := i1.below (w' := (w.alloc (.cells #[.int .i64 0, .int .i64 2] 3)).alloc (.cells #[.int .i64 2] 3)) (bal (Below.refl _ _) _)
  have e1 : (w.alloc (.cells #[.int .i64 0, .int .i64 2] 3)).heap.size = w.heap.size + 1 := by simp
  have e2 : ((w.alloc (.cells #[.int .i64 0, .int .i64 2] 3)).alloc (.cells #[.int .i64 2] 3)).heap.size = w.heap.size + 1 + 1 := by simp
  rw [e1] at i2
  have b3 : Below ((w.alloc (.cells #[.int .i64 0, .int .i64 2] 3)).alloc (.cells #[.int .i64 2] 3)).heap.size ((w.alloc (.cells #[.int .i64 0, .int .i64 2] 3)).alloc (.cells #[.int .i64 2] 3)) (((w.alloc (.cells #[.int .i64 0, .int .i64 2] 3)).alloc (.cells #[.int .i64 2] 3)).alloc (.cells #[.int .i64 (-1), .slice (some ⟨w.heap.size, 0, none⟩) 2 2, .slice none 0 0, .slice none 0 0, .slice (some ⟨w.heap.size + 1, 0, none⟩) 1 1, .int .i64 0, .int .i64 3, .int .i64 3, .int .i64 4, .int .i64 4, .int .i64 4, .int .i64 2, .int .i64 3] 33)) := bal (Below.refl _ _) _
  have C1 := c13_new ((w.alloc (.cells #[.int .i64 0, .int .i64 2] 3)).alloc (.cells #[.int .i64 2] 3)) (dA w.heap.size (w.heap.size + 1))
  rw [e2] at C1
  have C1 : Hid (C13 (((w.alloc (.cells #[.int .i64 0, .int .i64 2] 3)).alloc (.cells #[.int .i64 2] 3)).alloc (.cells #[.int .i64 (-1), .slice (some ⟨w.heap.size, 0, none⟩) 2 2, .slice none 0 0, .slice none 0 0, .slice (some ⟨w.heap.size + 1, 0, none⟩) 1 1, .int .i64 0, .int .i64 3, .int .i64 3, .int .i64 4, .int .i64 4, .int .i64 4, .int .i64 2, .int .i64 3] 33)) (w.heap.size + 1 + 1) (dA w.heap.size (w.heap.size + 1))) := C1
  have I1 := Lib.hid (i1.below b3)
  have I2 := Lib.hid (i2.below b3)
  have B1 := Lib.hid (bel2 b2 b3)
  clear i1 i2 b1 b2 b3 e1 e2
  go_enter Try.func14, Try.ntmps14
  go_upto_region 2 with fail
  generalize ((w.alloc (.cells #[.int .i64 0, .int .i64 2] 3)).alloc (.cells #[.int .i64 2] 3)).alloc (.cells #[.int .i64 (-1), .slice (some ⟨w.heap.size, 0, none⟩) 2 2, .slice none 0 0, .slice none 0 0, .slice (some ⟨w.heap.size + 1, 0, none⟩) 1 1, .int .i64 0, .int .i64 3, .int .i64 3, .int .i64 4, .int .i64 4, .int .i64 4, .int .i64 2, .int .i64 3] 33) = w1 at *
  have D0 := Lib.hid (show Ned (dA w.heap.size (w.heap.size + 1)) 0 (some ⟨w.heap.size, 0, none⟩) [0, 2] 2 from fun W => ned_in _ 0 W (by omega))
  have D3 := Lib.hid (show Ned (dA w.heap.size (w.heap.size + 1)) 3 (some ⟨w.heap.size + 1, 0, none⟩) [2] 1 from fun W => ned_in _ 3 W (by omega))
  have D4 := Lib.hid (show Ned (dA w.heap.size (w.heap.size + 1)) 4 none [] 0 from fun W => ned_4 _ W)
  have P1 := chg_ok _ 4 0 _ _ _ _ _ _ w1 (by omega) (by omega) D4.out D0.out (il_nil0 _) I1.out (by decide) (by decide) (by decide) (by decide) (by decide)
  rw [show misL [0, 2] [] ([0, 2] : List Int).length = [0, 2] by decide, show misL [] [0, 2] ([] : List Int).length = [] by decide] at P1
  obtain ⟨hl1, x0, x1, x2, x3, x4, x5, x6, x7, x8, x9, x10, x11, x12⟩ := cells_A C1.out
  go_wp2_with fail
  refine P1.mono ?_
  clear P1 x0 x1 x2 x3 x4 x5 x6 x7 x8 x9 x10 x11 x12 hl1
  rintro e w2 ⟨A1, c1, A2, c2, rfl, J1, J2, hb2⟩
  have J1 := Lib.hid J1
  have B2 := Lib.hid (bel2 B1.out hb2)
  have I1 := Lib.hid (I1.out.below hb2)
  have I2 := Lib.hid (I2.out.below hb2)
  have C1 := Lib.hid (C1.out.below hb2)
  clear J2 hb2
  have P1 := chg_ok _ 0 3 _ _ _ _ _ _ w2 (by omega) (by omega) D0.out D3.out I1.out I2.out (by decide) (by decide) (by decide) (by decide) (by decide)
  rw [show misL [2] [0, 2] ([2] : List Int).length = [] by decide, show misL [0, 2] [2] ([0, 2] : List Int).length = [0] by decide] at P1
  obtain ⟨hl1, x0, x1, x2, x3, x4, x5, x6, x7, x8, x9, x10, x11, x12⟩ := cells_A C1.out
  go_wp2_with fail
  refine P1.mono ?_
  clear P1 x0 x1 x2 x3 x4 x5 x6 x7 x8 x9 x10 x11 x12 hl1
  rintro e w3 ⟨A3, c3, A4, c4, rfl, J3, J4, hb3⟩
  have J1 := Lib.hid (J1.out.below hb3)
  have J4 := Lib.hid J4
  have B3 := Lib.hid (bel2 B2.out hb3)
  have I1 := Lib.hid (I1.out.below hb3)
  have I2 := Lib.hid (I2.out.below hb3)
  have C1 := Lib.hid (C1.out.below hb3)
  clear J3 hb3
  have P1 := tgt_any (dA w.heap.size (w.heap.size + 1)) 3 true w3
  rw [show tgt (dA w.heap.size (w.heap.size + 1)) 3 true = (2, 0) by rfl] at P1
  obtain ⟨hl1, x0, x1, x2, x3, x4, x5, x6, x7, x8, x9, x10, x11, x12⟩ := cells_A C1.out
  go_wp2_with fail
  refine P1.mono ?_
  clear P1 x0 x1 x2 x3 x4 x5 x6 x7 x8 x9 x10 x11 x12 hl1
  rintro e w4 ⟨rfl, hb4⟩
  have J1 := Lib.hid (J1.out.below hb4)
  have J4 := Lib.hid (J4.out.below hb4)
  have B4 := Lib.hid (bel2 B3.out hb4)
  have I1 := Lib.hid (I1.out.below hb4)
  have I2 := Lib.hid (I2.out.below hb4)
  have C1 := Lib.hid (C1.out.below hb4)
  clear hb4
  have P1 := tgt_any (dA w.heap.size (w.heap.size + 1)) 4 true w4
  rw [show tgt (dA w.heap.size (w.heap.size + 1)) 4 true = (0, 13) by rfl] at P1
  obtain ⟨hl1, x0, x1, x2, x3, x4, x5, x6, x7, x8, x9, x10, x11, x12⟩ := cells_A C1.out
  go_wp2_with fail
  refine P1.mono ?_
  clear P1 x0 x1 x2 x3 x4 x5 x6 x7 x8 x9 x10 x11 x12 hl1
  rintro e w5 ⟨rfl, hb5⟩
  have J1 := Lib.hid (J1.out.below hb5)
  have J4 := Lib.hid (J4.out.below hb5)
  have B5 := Lib.hid (bel2 B4.out hb5)
  have I1 := Lib.hid (I1.out.below hb5)
  have I2 := Lib.hid (I2.out.below hb5)
  have C1 := Lib.hid (C1.out.below hb5)
  clear hb5 D0 D3 D4 B1 B2 B3 B4
  have bA : Below w5.heap.size w5 (w5.alloc (.cells #[.int .i64 0, .int .i64 2] 3)) := bal (Below.refl _ _) _
  have P1 := eql_any A1 _ c1 2 [0, 2] [0, 2] _ (J1.out.below bA) (il_lit2 w5 0 2)
  rw [decide_eq_true rfl] at P1
  have BA := Lib.hid bA
  clear bA
  go_wp2_with fail
  refine P1.mono ?_
  clear P1
  rintro e w6 ⟨rfl, hb6⟩
  have b56 := bel2 BA.out hb6
  have J4 := Lib.hid (J4.out.below b56)
  have I1 := Lib.hid (I1.out.below b56)
  have I2 := Lib.hid (I2.out.below b56)
  have C1 := Lib.hid (C1.out.below b56)
  have B6 := Lib.hid (bel2 B5.out b56)
  clear hb6 b56 BA
  have bA : Below w6.heap.size w6 (w6.alloc (.cells #[.int .i64 0] 3)) := bal (Below.refl _ _) _
  have P1 := eql_any A4 _ c4 1 [0] [0] _ (J4.out.below bA) (il_lit1 w6 0)
  rw [decide_eq_true rfl] at P1
  have BA := Lib.hid bA
  clear bA
  go_wp2_with fail
  refine P1.mono ?_
  clear P1
  rintro e w7 ⟨rfl, hb7⟩
  have b67 := bel2 BA.out hb7
  have I1 := Lib.hid (I1.out.below b67)
  have I2 := Lib.hid (I2.out.below b67)
  have C1 := Lib.hid (C1.out.below b67)
  have B7 := Lib.hid (bel2 B6.out b67)
  clear hb7 b67 BA J1 J4
  obtain ⟨hl1, x0, x1, x2, x3, x4, x5, x6, x7, x8, x9, x10, x11, x12⟩ := cells_A C1.out
  have bd : Below w7.heap.size w7 (w7.alloc (.cells #[.int .i64 (-1), .slice (some ⟨w.heap.size, 0, none⟩) 2 2, .slice none 0 0, .slice none 0 0, .slice (some ⟨w.heap.size + 1, 0, none⟩) 1 1, .int .i64 0, .int .i64 3, .int .i64 3, .int .i64 4, .int .i64 4, .int .i64 4, .int .i64 2, .int .i64 3] 33)) := bal (Below.refl _ _) _
  have CN : Hid (C13 (w7.alloc (.cells #[.int .i64 (-1), .slice (some ⟨w.heap.size, 0, none⟩) 2 2, .slice none 0 0, .slice none 0 0, .slice (some ⟨w.heap.size + 1, 0, none⟩) 1 1, .int .i64 0, .int .i64 3, .int .i64 3, .int .i64 4, .int .i64 4, .int .i64 4, .int .i64 2, .int .i64 3] 33)) w7.heap.size (dA w.heap.size (w.heap.size + 1))) := c13_new w7 (dA w.heap.size (w.heap.size + 1))
  have P1 := chk_one _ _ 1 lA 3 _ (rl_A (I1.out.below bd) (I2.out.below bd)) CN.out rfl (by omega)
  rw [show chR (dA w.heap.size (w.heap.size + 1)) lA 3 = 0 by rfl] at P1
  have BD := Lib.hid bd
  clear bd CN
  go_wp2_with fail
  refine P1.mono ?_
  clear P1 x0 x1 x2 x3 x4 x5 x6 x7 x8 x9 x10 x11 x12 hl1
  rintro e w8 ⟨rfl, hbn⟩
  have B8 := Lib.hid (bel2 (bel2 B7.out BD.out) hbn)
  have I1 := Lib.hid ((I1.out.below BD.out).below hbn)
  have I2 := Lib.hid ((I2.out.below BD.out).below hbn)
  have C1 := Lib.hid ((C1.out.below BD.out).below hbn)
  clear hbn BD
  obtain ⟨hl1, x0, x1, x2, x3, x4, x5, x6, x7, x8, x9, x10, x11, x12⟩ := cells_A C1.out
  have bd : Below w8.heap.size w8 (w8.alloc (.cells #[.int .i64 (-1), .slice (some ⟨w.heap.size, 0, none⟩) 2 2, .slice none 0 0, .slice none 0 0, .slice (some ⟨w.heap.size + 1, 0, none⟩) 1 1, .int .i64 0, .int .i64 3, .int .i64 3, .int .i64 4, .int .i64 4, .int .i64 4, .int .i64 2, .int .i64 3] 33)) := bal (Below.refl _ _) _
  have CN : Hid (C13 (w8.alloc (.cells #[.int .i64 (-1), .slice (some ⟨w.heap.size, 0, none⟩) 2 2, .slice none 0 0, .slice none 0 0, .slice (some ⟨w.heap.size + 1, 0, none⟩) 1 1, .int .i64 0, .int .i64 3, .int .i64 3, .int .i64 4, .int .i64 4, .int .i64 4, .int .i64 2, .int .i64 3] 33)) w8.heap.size (dA w.heap.size (w.heap.size + 1))) := c13_new w8 (dA w.heap.size (w.heap.size + 1))
  have P1 := chk_one _ _ 1 lA 2 _ (rl_A (I1.out.below bd) (I2.out.below bd)) CN.out rfl (by omega)
  rw [show chR (dA w.heap.size (w.heap.size + 1)) lA 2 = 1 by rfl] at P1
  have BD := Lib.hid bd
  clear bd CN
  go_wp2_with fail
  refine P1.mono ?_
  clear P1 x0 x1 x2 x3 x4 x5 x6 x7 x8 x9 x10 x11 x12 hl1
  rintro e w9 ⟨rfl, hbn⟩
  have B9 := Lib.hid (bel2 (bel2 B8.out BD.out) hbn)
  have I1 := Lib.hid ((I1.out.below BD.out).below hbn)
  have I2 := Lib.hid ((I2.out.below BD.out).below hbn)
  have C1 := Lib.hid ((C1.out.below BD.out).below hbn)
  clear hbn BD
  go_wp2
  go_ret
  exact ⟨rfl, B9.out⟩
end Go.Proofs.Ytejfopjnokopeaa
