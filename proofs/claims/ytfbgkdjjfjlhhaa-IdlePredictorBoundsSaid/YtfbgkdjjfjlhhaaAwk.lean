/- awake returns true. -/
import Derived.Test.YtfbgkdjjfjlhhaaEng
import Derived.Outline
namespace Go.Proofs.Ytfbgkdjjfjlhhaa
open Go.RowKit

def fA : Nat → St
  | 0 => ⟨0, 0, 10⟩
  | 1 => ⟨5, 20, 4⟩
  | _ => ⟨50, 200, 1⟩
def rowA : Array Value := #[.int .u64 0, .int .u64 0, .int .u64 10, .int .u64 5, .int .u64 20, .int .u64 4, .int .u64 50, .int .u64 200, .int .u64 1]
theorem vldA : vld 3 fA = true := by decide
theorem wfA (i : Nat) : U64 (fA i).l ∧ U64 (fA i).r ∧ U64 (fA i).p := by
  unfold U64
  match i with
  | 0 => decide
  | 1 => decide
  | _ + 2 => exact (by decide : (0 ≤ (50 : Int) ∧ (50 : Int) < 18446744073709551616) ∧ (0 ≤ (200 : Int) ∧ (200 : Int) < 18446744073709551616) ∧ 0 ≤ (1 : Int) ∧ (1 : Int) < 18446744073709551616)
theorem slsA (w : World) : SlS (w.alloc (.cells rowA 25)) (some ⟨w.heap.size, 0, none⟩) 3 fA := by
  refine ⟨by omega, .inr ⟨_, _, rfl, by simp, fun i hi => ?_⟩, fun i _ => wfA i⟩
  match i, hi with
  | 0, _ => exact ⟨by simp [go_sem, rowA, fA], by simp [go_sem, rowA, fA], by simp [go_sem, rowA, fA]⟩
  | 1, _ => exact ⟨by simp [go_sem, rowA, fA], by simp [go_sem, rowA, fA], by simp [go_sem, rowA, fA]⟩
  | 2, _ => exact ⟨by simp [go_sem, rowA, fA], by simp [go_sem, rowA, fA], by simp [go_sem, rowA, fA]⟩

theorem selA (w : World) (A : Option Addr) (c : Nat) (x l : Int) (k : Nat) (h : SlS w A 3 fA) (hk : selTo fA x l 3 = k) :
    Calls Try.prog 16 #[.slice A 3 c, .int .u64 x, .int .u64 l] w fun e w' => e = .returned (.tuple #[.int .i64 k, .int .i64 0]) ∧ Below w.heap.size w w' :=
  (sel_any A 3 c fA x l w h).mono fun e w' ⟨he, hb⟩ => ⟨by rw [he, vldA, hk]; rfl, hb⟩
theorem engA (w : World) (A : Option Addr) (c : Nat) (h : SlS w A 3 fA) :
    Calls Try.prog 20 #[.slice A 3 c, .int .i64 2, .int .u64 0] w fun e w' => e = .returned (.tuple #[.int .u64 720, .int .i64 0]) ∧ Below w.heap.size w w' :=
  (eng_any A 3 c fA 2 0 w h (by omega)).mono fun e w' ⟨he, hb⟩ => ⟨by rw [he, show engOk 3 fA 2 0 = true from by decide, show eng fA (Int.toNat 2) 0 = 720 from by decide]; rfl, hb⟩
theorem chkN (w : World) : Calls Try.prog 18 #[.slice none 0 0] w fun e w' => e = .returned (.int .i64 1) ∧ Below w.heap.size w w' :=
  (chk_none none 0 fA w).mono fun e w' ⟨he, hb⟩ => ⟨by rw [he]; rfl, hb⟩

set_option maxHeartbeats 1000000 in
theorem awake_any (w : World) : Calls Try.prog 13 #[] w fun e w' => e = .returned (.bool true) ∧ Below w.heap.size w w' := by
  have hA := slsA w
  have B0 : Below w.heap.size w (w.alloc (.cells rowA 25)) := (Below.refl _ _).alloc (Nat.le_refl _) _
  unfold rowA at hA B0
  go_enter Try.func13, Try.ntmps13
  go_wp2_with fail
  generalize w.alloc (.cells _ 25) = w1 at *
  refine (selA _ _ _ _ _ 2 hA (by decide)).mono ?_
  rintro e w2 ⟨rfl, hb2⟩
  have hA2 := hA.below hb2 (Nat.le_refl _)
  go_wp2_with fail
  refine (selA _ _ _ _ _ 1 hA2 (by decide)).mono ?_
  rintro e w3 ⟨rfl, hb3⟩
  have hA3 := hA2.below hb3 (Nat.le_refl _)
  go_wp2_with fail
  refine (engA _ _ _ hA3).mono ?_
  rintro e w4 ⟨rfl, hb4⟩
  go_wp2_with fail
  refine (chkN _).mono ?_
  rintro e w5 ⟨rfl, hb5⟩
  go_wp2
  go_ret
  exact ⟨rfl, (((B0.trans (hb2.mono B0.size)).trans (hb3.mono (by have := B0.size; have := hb2.size; omega))).trans (hb4.mono (by have := B0.size; have := hb2.size; have := hb3.size; omega))).trans (hb5.mono (by have := B0.size; have := hb2.size; have := hb3.size; have := hb4.size; omega))⟩
end Go.Proofs.Ytfbgkdjjfjlhhaa
