/- awake of the laws on slots; the slot and its model side by side. -/
import Derived.Test.YtefciddekhmifaaRh2
import Derived.Test.YtefciddekhmifaaEqi
namespace Go.Proofs.Ytefciddekhmifaa
open Go.RowKit

theorem eq_yes (A B : Option Addr) (c d B1 B2 : Nat) (l : List Int) (n : Nat) (w : World) (hn : n = l.length) (h1 : IL .i64 B1 w A l) (h2 : IL .i64 B2 w B l) (hl : l.length ≤ 1000000) :
    Calls Try.prog 9 #[.slice A n c, .slice B n d] w (EqPost w true) := by
  subst hn
  have := eq_any A B c d B1 B2 l l w h1 h2 hl
  simpa using this
theorem lit_il1 (w : World) (x : Int) : IL .i64 w.heap.size (w.alloc (.cells #[.int .i64 x] 3)) (some ⟨w.heap.size, 0, none⟩) [x] := il_one (t := 3) (heap_alloc_new w _) (Nat.le_refl _)
theorem lit_il2 (w : World) (x y : Int) : IL .i64 w.heap.size (w.alloc (.cells #[.int .i64 x, .int .i64 y] 3)) (some ⟨w.heap.size, 0, none⟩) [x, y] := il_two (t := 3) (heap_alloc_new w _) (Nat.le_refl _)
theorem il_grown {K : IntKind} {B L : Nat} {w w' : World} {A : Option Addr} {l : List Int} (h : IL K B w A l) (hc : w.grownBy w' (some L)) (hn : L < B) : IL K B w' A l :=
  h.chg (Chg.of_grown hc) (fun b hb e => by injection e with e; omega)
set_option maxRecDepth 100000 in
set_option maxHeartbeats 2000000 in
theorem awake_any (w : World) : Calls Try.prog 7 #[] w fun e w' => e = .returned (.bool true) ∧ Below w.heap.size w w' := by
  go_enter Try.func7, Try.ntmps7
  go_wp2_with fail
  refine (new_a w true 5 (by decide)).mono ?_
  rintro e w1 ⟨rfl, S1, b1⟩
  have S1 : SlB 43 w1 w.heap.size 2 5 0 := S1
  have hL1 := blk_lt S1
  have C := hnd_a w1 w.heap.size 2 5 0 3 10 S1 (by unfold okSt; omega) (by unfold U64; omega) (by unfold U64; omega)
  have C : Calls Try.prog 12 #[.pointer (some ⟨w.heap.size, 0, none⟩), .int .i64 3, .int .u64 10] w1 (HPost 43 w1 w.heap.size 3 5 15 [1] (withErr 0)) := C
  clear S1
  go_wp2_with fail
  refine C.mono ?_
  rintro e w2 ⟨A1, c1, rfl, i1, S2, g2⟩
  clear C
  have b2 := bel_only b1 g2 (Nat.le_refl _)
  have C := adv_a w2 w.heap.size 3 5 15 15 S2
  have C : Calls Try.prog 10 #[.pointer (some ⟨w.heap.size, 0, none⟩), .int .u64 15] w2 (HPost 43 w2 w.heap.size 4 5 15 [3] id) := C
  clear b1 g2 S2
  have I1 := Lib.hid i1
  have B2 := Lib.hid b2
  clear i1 b2
  have hs2 := B2.out.size
  unfold withErr
  go_wp2_with fail
  refine C.mono ?_
  rintro e w3 ⟨A3, c3, rfl, i3, S3, g3⟩
  clear C
  have b3 := bel_only B2.out g3 (Nat.le_refl _)
  have i1 := il_grown I1.out g3 hL1
  have hL3 : w.heap.size < w2.heap.size := by
    have := g3.size
    rcases Nat.lt_or_ge w.heap.size w2.heap.size with h | h
    · exact h
    · have := B2.out.size; have := hL1; have : w1.heap.size ≤ w2.heap.size := by
        rcases I1.out with h | ⟨b, off, -, hb, hlt, -⟩
        · cases h
        · omega
      omega
  have C := hnd_a w3 w.heap.size 4 5 15 2 20 S3 (by unfold okSt; omega) (by unfold U64; omega) (by unfold U64; omega)
  have C : Calls Try.prog 12 #[.pointer (some ⟨w.heap.size, 0, none⟩), .int .i64 2, .int .u64 20] w3 (HPost 43 w3 w.heap.size 1 5 15 [5, 2] (withErr 0)) := C
  clear g3 S3 I1 B2
  have I1 := Lib.hid i1
  have I3 := Lib.hid i3
  have B3 := Lib.hid b3
  clear i1 i3 b3
  simp only [id]
  go_wp2_with fail
  refine C.mono ?_
  rintro e w4 ⟨A4, c4, rfl, i4, S4, g4⟩
  clear C
  have b4 := bel_only B3.out g4 (Nat.le_refl _)
  have i1 := il_grown I1.out g4 hL1
  have i3 := il_grown I3.out g4 hL3
  have S4 := Lib.hid S4
  have I1 := Lib.hid i1
  have I3 := Lib.hid i3
  have I4 := Lib.hid i4
  have B4 := Lib.hid b4
  clear i1 i3 i4 b4 B3 g4
  unfold withErr
  go_wp2_with fail
  refine (eq_yes _ _ _ _ _ _ [1] 1 _ rfl (I1.out.below (bal (Below.refl _ _) _)) (lit_il1 w4 1) (by decide)).mono ?_
  rintro e w5 ⟨rfl, b5⟩
  have b5' := bel2 (bal (Below.refl w4.heap.size w4) (.cells #[.int .i64 1] 3)) b5
  have B5 := Lib.hid (bel2 B4.out b5')
  have I3 := Lib.hid (I3.out.below b5')
  have I4 := Lib.hid (I4.out.below b5')
  have S5 := Lib.hid (b_blk b5' S4.out)
  clear b5 b5' S4 I1 B4
  go_wp2_with fail
  refine (eq_yes _ _ _ _ _ _ [3] 1 _ rfl (I3.out.below (bal (Below.refl _ _) _)) (lit_il1 w5 3) (by decide)).mono ?_
  rintro e w6 ⟨rfl, b6⟩
  have b6' := bel2 (bal (Below.refl w5.heap.size w5) (.cells #[.int .i64 3] 3)) b6
  have B6 := Lib.hid (bel2 B5.out b6')
  have I4 := Lib.hid (I4.out.below b6')
  have S6 := Lib.hid (b_blk b6' S5.out)
  clear b6 b6' S5 I3 B5
  go_wp2_with fail
  refine (eq_yes _ _ _ _ _ _ [5, 2] 2 _ rfl (I4.out.below (bal (Below.refl _ _) _)) (lit_il2 w6 5 2) (by decide)).mono ?_
  rintro e w7 ⟨rfl, b7⟩
  have b7' := bel2 (bal (Below.refl w6.heap.size w6) (.cells #[.int .i64 5, .int .i64 2] 3)) b7
  have B7 := Lib.hid (bel2 B6.out b7')
  have S7 : SlB 43 w7 w.heap.size 1 5 15 := b_blk b7' S6.out
  have S7 := Lib.hid S7
  clear b7 b7' S6 I4 B6
  go_wp2_with fail
  refine (sta_any w7 w.heap.size 1 5 15 S7.out).mono ?_
  rintro e w8 ⟨rfl, rfl⟩
  go_wp2
  go_ret
  exact ⟨rfl, B7.out⟩
theorem okSt_h {st : Nat} (h : okSt st) (ev : Int) : okSt (hS st ev) := by
  unfold okSt at *
  unfold hS nxt
  rcases h with rfl | rfl | rfl | rfl | rfl | rfl <;> (repeat' split) <;> omega
theorem okSt_a {st : Nat} (h : okSt st) (gd now : Int) : okSt (aS st gd now) := by
  unfold okSt at *
  unfold aS
  split <;> omega
theorem len_h (st : Nat) (ev : Int) : (hA st ev).length ≤ 2 := by
  unfold hA act
  (repeat' split) <;> simp
theorem len_a (st : Nat) (gd now : Int) : (aA st gd now).length ≤ 2 := by
  unfold aA
  split <;> simp
end Go.Proofs.Ytefciddekhmifaa
