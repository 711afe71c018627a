/- The example of the chapter holds. -/
import Derived.Test.YtfmaadfccnjnjaaTab
import Derived.Test.YtfmaadfccnjnjaaEql
namespace Go.Proofs.Ytfmaadfccnjnjaa
open Go.RowKit

def tE (i : Nat) : St := if i = 0 then ⟨100, 900, 10⟩ else ⟨200, 1000, 25⟩
def lU : List PO := [⟨true, 1000⟩, ⟨false, 200⟩]
def lD : List PO := [⟨false, 100⟩, ⟨true, 900⟩]
theorem trU : trR 2 tE 0 1 = lU := by rfl
theorem trD : trR 2 tE 1 0 = lD := by rfl
theorem teU : trE 2 tE 0 1 = 0 := by rfl
theorem teD : trE 2 tE 1 0 = 0 := by rfl
theorem fE1 : fv 2 tE 101 = 1 := by rfl
theorem fE2 : fe 2 tE 101 = 0 := by rfl
theorem sE : safeB 2 tE 0 2 (atL lU) = true := by rfl
theorem eU : eqlB lU.length 2 (atL lU) (atL lU) = true := by rfl
theorem eD : eqlB lD.length 2 (atL lD) (atL lD) = true := by rfl
theorem slE (w : World) : SlS (w.alloc (Obj.cells #[.int .u64 100, .int .u64 900, .int .u64 10, .int .u64 200, .int .u64 1000, .int .u64 25] 25)) (some ⟨w.heap.size, 0, none⟩) 2 tE := by
  refine ⟨by decide, .inr ⟨w.heap.size, 0, rfl, by simp, fun i hi => ?_⟩, fun i hi => ?_⟩
  · match i, hi with
    | 0, _ => refine ⟨?_, ?_, ?_⟩ <;> simp [go_sem, tE]
    | 1, _ => refine ⟨?_, ?_, ?_⟩ <;> simp [go_sem, tE]
  · match i, hi with
    | 0, _ => simp [tE, U64]
    | 1, _ => simp [tE, U64]
theorem plU (w : World) : PlS (w.alloc (Obj.cells #[.bool true, .int .u64 1000, .bool false, .int .u64 200] 40)) (some ⟨w.heap.size, 0, none⟩) 2 (atL lU) := by
  refine pl_two (y := ⟨true, 1000⟩) (z := ⟨false, 200⟩) ?_ ?_ ?_ ?_ ?_ <;> simp [go_sem]
theorem plD (w : World) : PlS (w.alloc (Obj.cells #[.bool false, .int .u64 100, .bool true, .int .u64 900] 40)) (some ⟨w.heap.size, 0, none⟩) 2 (atL lD) := by
  refine pl_two (y := ⟨false, 100⟩) (z := ⟨true, 900⟩) ?_ ?_ ?_ ?_ ?_ <;> simp [go_sem]
theorem tra_ev (G : Nat) (c : Nat) (a b : Int) (l : List PO) (w : World) (h : SlS w (some ⟨G, 0, none⟩) 2 tE) (hl : trR 2 tE a b = l) (he : trE 2 tE a b = 0) :
    Calls Try.prog 19 #[.slice (some ⟨G, 0, none⟩) 2 c, .int .i64 a, .int .i64 b] w fun e w' => ∃ A c', e = .returned (.tuple #[.slice A l.length c', .int .i64 0]) ∧ PlS w' A l.length (atL l) ∧ Below w.heap.size w w' := by
  refine (tra_any _ _ _ _ _ _ _ h).mono ?_
  rintro e w' ⟨A, c', h1, h2, h3⟩
  rw [hl] at h1 h2
  rw [he] at h1
  exact ⟨A, c', h1, h2, h3⟩
set_option maxRecDepth 100000 in
set_option maxHeartbeats 2000000 in
theorem awake_any (w : World) : Calls Try.prog 12 #[] w (LawPost w) := by
  have S0 := slE w
  have B0 := bal (Below.refl w.heap.size w) (Obj.cells #[.int .u64 100, .int .u64 900, .int .u64 10, .int .u64 200, .int .u64 1000, .int .u64 25] 25)
  go_enter Try.func12, Try.ntmps12
  go_wp2_with fail
  generalize w.alloc (Obj.cells #[.int .u64 100, .int .u64 900, .int .u64 10, .int .u64 200, .int .u64 1000, .int .u64 25] 25) = w1 at *
  refine (tra_ev _ _ _ _ lU _ S0 trU teU).mono ?_
  rintro e w2 ⟨A1, k1, rfl, P1, b1⟩
  have S1 := S0.below b1 (Nat.le_refl _)
  have B1 := bel2 B0 b1
  clear S0 B0 b1
  go_wp2_with fail
  refine (tra_ev _ _ _ _ lD _ S1 trD teD).mono ?_
  rintro e w3 ⟨A2, k2, rfl, P2, b2⟩
  have S2 := S1.below b2 (Nat.le_refl _)
  have P1 := P1.below b2 (Nat.le_refl _)
  have B2 := bel2 B1 b2
  clear S1 B1 b2
  go_wp2_with fail
  refine (find_any _ _ _ _ _ _ S2).mono ?_
  rintro e w4 ⟨rfl, b3⟩
  rw [fE1, fE2]
  have S3 := S2.below b3 (Nat.le_refl _)
  have P1 := P1.below b3 (Nat.le_refl _)
  have P2 := P2.below b3 (Nat.le_refl _)
  have B3 := bel2 B2 b3
  clear S2 B2 b3
  have Q1 := P1.below (bal (Below.refl _ _) (Obj.cells #[.bool true, .int .u64 1000, .bool false, .int .u64 200] 40)) (Nat.le_refl _)
  have Q2 := P2.below (bal (Below.refl _ _) (Obj.cells #[.bool true, .int .u64 1000, .bool false, .int .u64 200] 40)) (Nat.le_refl _)
  have S4 := S3.below (bal (Below.refl _ _) (Obj.cells #[.bool true, .int .u64 1000, .bool false, .int .u64 200] 40)) (Nat.le_refl _)
  have B4 := bal B3 (Obj.cells #[.bool true, .int .u64 1000, .bool false, .int .u64 200] 40)
  have U4 := plU w4
  go_wp2_with fail
  generalize w4.alloc (Obj.cells #[.bool true, .int .u64 1000, .bool false, .int .u64 200] 40) = w5 at *
  refine (eql_any _ _ _ _ _ _ _ _ _ Q1 U4).mono ?_
  rintro e w6 ⟨rfl, b5⟩
  rw [eU]
  have S5 := S4.below b5 (Nat.le_refl _)
  have Q1 := Q1.below b5 (Nat.le_refl _)
  have Q2 := Q2.below b5 (Nat.le_refl _)
  have B5 := bel2 B4 b5
  clear S3 S4 P1 P2 B3 B4 b5 U4
  have R1 := Q1.below (bal (Below.refl _ _) (Obj.cells #[.bool false, .int .u64 100, .bool true, .int .u64 900] 40)) (Nat.le_refl _)
  have R2 := Q2.below (bal (Below.refl _ _) (Obj.cells #[.bool false, .int .u64 100, .bool true, .int .u64 900] 40)) (Nat.le_refl _)
  have S6 := S5.below (bal (Below.refl _ _) (Obj.cells #[.bool false, .int .u64 100, .bool true, .int .u64 900] 40)) (Nat.le_refl _)
  have B6 := bal B5 (Obj.cells #[.bool false, .int .u64 100, .bool true, .int .u64 900] 40)
  have U6 := plD w6
  go_wp2_with fail
  generalize w6.alloc (Obj.cells #[.bool false, .int .u64 100, .bool true, .int .u64 900] 40) = w7 at *
  refine (eql_any _ _ _ _ _ _ _ _ _ R2 U6).mono ?_
  rintro e w8 ⟨rfl, b7⟩
  rw [eD]
  have S7 := S6.below b7 (Nat.le_refl _)
  have R1 := R1.below b7 (Nat.le_refl _)
  have B7 := bel2 B6 b7
  clear S5 S6 Q1 Q2 B5 B6 b7 U6
  go_wp2_with fail
  refine (chk_none _ _ tE _).mono ?_
  rintro e w9 ⟨rfl, b8⟩
  have S8 := S7.below b8 (Nat.le_refl _)
  have R1 := R1.below b8 (Nat.le_refl _)
  have B8 := bel2 B7 b8
  clear S7 B7 b8
  rw [show vld 0 tE = false from rfl]
  go_wp2_with fail
  refine (saf_any _ _ _ _ _ _ _ _ _ _ S8 R1).mono ?_
  rintro e w10 ⟨rfl, b9⟩
  rw [show safeB 2 tE 0 lU.length (atL lU) = true from rfl]
  have B9 := bel2 B8 b9
  go_wp2
  go_ret
  exact ⟨rfl, B9⟩
end Go.Proofs.Ytfmaadfccnjnjaa
