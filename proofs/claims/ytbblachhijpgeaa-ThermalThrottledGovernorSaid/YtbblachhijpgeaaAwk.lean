/- awake. -/
import Derived.Test.YtbblachhijpgeaaTri
namespace Go.Proofs.Ytbblachhijpgeaa
open Go.RowKit

def fE (i : Nat) : St := if i = 0 then ⟨9, 0, 9⟩ else if i = 1 then ⟨1, 0, 9⟩ else ⟨9, 2, 9⟩
def fZ (_ : Nat) : St := ⟨2, 50, 5⟩
def f0 (_ : Nat) : St := ⟨0, 0, 0⟩
theorem allocE : AllocR 10 3 fE [5, 1, 4] 0 :=
  .inr (.inr (.inr ⟨by rfl, by decide, by decide, rfl, 4, by decide, by decide, by decide, by rfl⟩))
theorem wf_lit (n : Int) (h : 0 ≤ n ∧ n < 18446744073709551616) : Wf .u64 n := wf_u64_mk h
theorem slE (w : World) : SlS .u64 (w.alloc (Obj.cells #[.int .u64 9, .int .u64 0, .int .u64 9, .int .u64 1, .int .u64 0, .int .u64 9, .int .u64 9, .int .u64 2, .int .u64 9] 77)) (some ⟨w.heap.size, 0, none⟩) 3 fE := by
  refine ⟨by omega, .inr ⟨_, 0, rfl, by simp, fun i hi => ?_⟩, fun i hi => ?_⟩
  · match i, hi with
    | 0, _ => refine ⟨?_, ?_, ?_⟩ <;> simp [go_sem, fE]
    | 1, _ => refine ⟨?_, ?_, ?_⟩ <;> simp [go_sem, fE]
    | 2, _ => refine ⟨?_, ?_, ?_⟩ <;> simp [go_sem, fE]
  · match i, hi with
    | 0, _ => exact ⟨wf_lit 9 (by omega), wf_lit 0 (by omega), wf_lit 9 (by omega)⟩
    | 1, _ => exact ⟨wf_lit 1 (by omega), wf_lit 0 (by omega), wf_lit 9 (by omega)⟩
    | 2, _ => exact ⟨wf_lit 9 (by omega), wf_lit 2 (by omega), wf_lit 9 (by omega)⟩
theorem sl1 (w : World) (x y z : Int) (hx : -1000 ≤ x ∧ x ≤ 1000) (hy : -1000 ≤ y ∧ y ≤ 1000) (hz : -1000 ≤ z ∧ z ≤ 1000) : SlS .i64 (w.alloc (Obj.cells #[.int .i64 x, .int .i64 y, .int .i64 z] 48)) (some ⟨w.heap.size, 0, none⟩) 1 (fun _ => ⟨x, y, z⟩) := by
  refine ⟨by omega, .inr ⟨_, 0, rfl, by simp, fun i hi => ?_⟩, fun i _ => ⟨wf_i64_mk (x := x) (by omega), wf_i64_mk (x := y) (by omega), wf_i64_mk (x := z) (by omega)⟩⟩
  match i, hi with
  | 0, _ => refine ⟨?_, ?_, ?_⟩ <;> simp [go_sem]
theorem rl3 (w : World) : RLU (w.alloc (Obj.cells #[.int .u64 5, .int .u64 1, .int .u64 4] 31)) (some ⟨w.heap.size, 0, none⟩) [5, 1, 4] := by
  refine ⟨by simp, .inr ⟨_, 0, rfl, by simp, fun i hi => ?_⟩⟩
  match i, hi with
  | 0, _ => simp [go_sem]
  | 1, _ => simp [go_sem]
  | 2, _ => simp [go_sem]
def oF : Nat → Bool := fun _ => false
def o1 : Nat → Bool := updO 50 fZ oF
def o2 : Nat → Bool := updO 45 fZ o1
def o3 : Nat → Bool := updO 44 fZ o2
def UpT (w : World) (Z O : Nat) (TA : Option Addr) (tc : Nat) (a : Int) (on : Nat → Bool) (e : Ending) (w' : World) : Prop :=
  e = .returned (.tuple #[.int .i64 a, .bool false, .int .i64 0]) ∧ Zn 93 w' Z O TA tc 1 fZ 3 a on ∧ Chg (ZO Z O) w w'
theorem gtZ (a : Int) (h : 0 ≤ a ∧ a ≤ 3) : GT 1 fZ 3 a := ⟨by omega, fun k _ => by show 1 ≤ (2 : Int) ∧ (2 : Int) ≤ 3 ∧ -67108864 ≤ (50 : Int) ∧ (50 : Int) ≤ 67108864 ∧ 0 ≤ (5 : Int) ∧ (5 : Int) ≤ 16777216; omega, h.1, h.2, by omega⟩
theorem updT {w : World} {Z O : Nat} {TA : Option Addr} {tc : Nat} {a a' T : Int} {on : Nat → Bool} (h : Zn 93 w Z O TA tc 1 fZ 3 a on) (ha : 0 ≤ a ∧ a ≤ 3) (hT : -1000 ≤ T ∧ T ≤ 1000) (e1 : nxt (pasK fZ (updO T fZ on) 2 1) a 3 = a') (e2 : pasK fZ (updO T fZ on) 3 1 = false) :
    Calls Try.prog 16 #[.pointer (some ⟨Z, 0, none⟩), .int .i64 T] w (UpT w Z O TA tc a' (updO T fZ on)) := by
  have := upd_any Z O TA tc 1 fZ 3 a on T w h (gtZ a ha) (by omega) (by omega)
  refine this.mono fun e w' ⟨h1, h2, h3⟩ => ?_
  rw [e1] at h1 h2
  rw [e2] at h1
  exact ⟨h1, h2, h3⟩
theorem zo_below {w0 w w' : World} {Z O : Nat} (h : Below w0.heap.size w0 w) (k : Chg (ZO Z O) w w') (h1 : w0.heap.size ≤ Z) (h2 : w0.heap.size ≤ O) : Below w0.heap.size w0 w' :=
  Below.chg h k h.size (fun j hj => by rcases hj with rfl | rfl <;> assumption)
set_option maxRecDepth 100000 in
set_option maxHeartbeats 4000000 in
theorem awake_any (w : World) : Calls Try.prog 8 #[] w (LawPost w) := by
  have PA := alc_any 10 (some ⟨w.heap.size, 0, none⟩) 3 3 fE _ (by omega) (slE w)
  have B1 := Lib.hid (bal (Below.refl w.heap.size w) (Obj.cells #[.int .u64 9, .int .u64 0, .int .u64 9, .int .u64 1, .int .u64 0, .int .u64 9, .int .u64 9, .int .u64 2, .int .u64 9] 77))
  go_enter Try.func8, Try.ntmps8
  go_wp2_with fail
  generalize w.alloc (Obj.cells #[.int .u64 9, .int .u64 0, .int .u64 9, .int .u64 1, .int .u64 0, .int .u64 9, .int .u64 9, .int .u64 2, .int .u64 9] 77) = w1 at *
  refine PA.mono ?_
  clear PA
  rintro e w2 ⟨l, code, A2, c2, rfl, hR, hN, hb, hc⟩
  obtain ⟨rfl, rfl⟩ := alloc_same hR allocE
  have B2 := Lib.hid (bel2 B1.out hb)
  have RL2 := Lib.hid (hN.rl (by simp))
  clear hR hN hb hc B1
  have PN := nz_any (some ⟨w2.heap.size, 0, none⟩) 1 1 fZ 3 _ (sl1 w2 2 50 5 (by omega) (by omega) (by omega)) (fun h => by cases h)
  have B3 := Lib.hid (bal B2.out (Obj.cells #[.int .i64 2, .int .i64 50, .int .i64 5] 48))
  have RL3 := Lib.hid (RL2.out.below (bal (Below.refl _ _) (Obj.cells #[.int .i64 2, .int .i64 50, .int .i64 5] 48)))
  clear RL2 B2
  go_wp2_with fail
  generalize w2.alloc (Obj.cells #[.int .i64 2, .int .i64 50, .int .i64 5] 48) = w3 at *
  refine PN.mono ?_
  clear PN
  rintro e w4 ⟨hb, hor⟩
  rcases hor with ⟨h, _⟩ | ⟨_, Z, O, TA, tc, rfl, hZ, hz1, hz2, _⟩
  · have : okZ 1 fZ 3 = true := by rfl
    rw [this] at h; cases h
  have B4 := Lib.hid (bel2 B3.out hb)
  have RL4 := RL3.out.below hb
  have HZ := Lib.hid hZ
  have hzz : Hid (w.heap.size ≤ Z ∧ w.heap.size ≤ O) := by have := B3.out.size; exact ⟨by omega, by omega⟩
  clear hb hZ hz1 hz2 RL3 B3
  have PE := eqlU A2 (some ⟨w4.heap.size, 0, none⟩) c2 3 [5, 1, 4] [5, 1, 4] (w4.alloc (Obj.cells #[.int .u64 5, .int .u64 1, .int .u64 4] 31)) (RL4.below (bal (Below.refl _ _) _)) (rl3 w4)
  have hd : decide (([5, 1, 4] : List Int) = [5, 1, 4]) = true := by rfl
  rw [hd] at PE
  clear hd
  have B5 := Lib.hid (bal B4.out (Obj.cells #[.int .u64 5, .int .u64 1, .int .u64 4] 31))
  have Z5 := Lib.hid (HZ.out.below (bal (Below.refl _ _) (Obj.cells #[.int .u64 5, .int .u64 1, .int .u64 4] 31)))
  clear RL4 B4 HZ
  go_wp2_with fail
  generalize w4.alloc (Obj.cells #[.int .u64 5, .int .u64 1, .int .u64 4] 31) = w5 at *
  refine PE.mono ?_
  clear PE
  rintro e w6 ⟨rfl, hb⟩
  have B6 := Lib.hid (bel2 B5.out hb)
  have Z6 := Lib.hid (Z5.out.below hb)
  clear hb B5 Z5
  have P1 := updT (a' := 1) (T := 50) (on := oF) Z6.out (by omega) (by omega) (by rfl) (by rfl)
  go_wp2_with fail
  refine P1.mono ?_
  clear P1
  rintro e w7 ⟨rfl, hZ, hc⟩
  have Z7 := Lib.hid hZ
  have B7 := Lib.hid (zo_below B6.out hc hzz.out.1 hzz.out.2)
  clear hZ hc Z6 B6
  have P2 := updT (a' := 2) (T := 45) (on := o1) Z7.out (by omega) (by omega) (by rfl) (by rfl)
  go_wp2_with fail
  refine P2.mono ?_
  clear P2
  rintro e w8 ⟨rfl, hZ, hc⟩
  have Z8 := Lib.hid hZ
  have B8 := Lib.hid (zo_below B7.out hc hzz.out.1 hzz.out.2)
  clear hZ hc Z7 B7
  have P3 := updT (a' := 1) (T := 44) (on := o2) Z8.out (by omega) (by omega) (by rfl) (by rfl)
  go_wp2_with fail
  refine P3.mono ?_
  clear P3
  rintro e w9 ⟨rfl, hZ, hc⟩
  have B9 := Lib.hid (zo_below B8.out hc hzz.out.1 hzz.out.2)
  clear hZ hc Z8 B8
  have PC := chk_any (some ⟨w9.heap.size, 0, none⟩) 1 1 f0 _ (sl1 w9 0 0 0 (by omega) (by omega) (by omega))
  have hcd : cod (vT 1 f0) = 1 := by rfl
  have B10 := Lib.hid (bal B9.out (Obj.cells #[.int .i64 0, .int .i64 0, .int .i64 0] 48))
  clear B9
  go_wp2_with fail
  generalize w9.alloc (Obj.cells #[.int .i64 0, .int .i64 0, .int .i64 0] 48) = w10 at *
  refine PC.mono ?_
  rintro e w11 ⟨rfl, hb⟩
  rw [hcd]
  have B11 := Lib.hid (bel2 B10.out hb)
  clear PC hb hcd B10
  go_wp2
  go_ret
  exact ⟨rfl, B11.out⟩
end Go.Proofs.Ytbblachhijpgeaa
