/- awake. -/
import Derived.Test.YtcmklipifhpgmaaTrc
import Derived.Test.YtcmklipifhpgmaaEql
namespace Go.Proofs.Ytcmklipifhpgmaa
open Go.ChangeShapes Go.WideShapes Go.ChangeAt Go.RowKit Go.Deep Go.Joins

def LawP (w : World) (e : Ending) (w' : World) : Prop := e = .returned (.bool true) ∧ Below w.heap.size w w'
def o2 (j : Nat) : Int := j
def r4 (j : Nat) : Int := if j = 3 then 17 else 0
def cL : List Op := [(1, 0), (1, 1), (2, 1), (2, 0), (3, 1), (3, 0), (4, 1), (4, 0), (5, 0), (5, 1), (6, 0), (6, 1), (7, 0), (7, 1), (8, 1), (8, 0)]
def dL : List Op := [(1, 0), (1, 1), (2, 1), (2, 0), (7, 1), (8, 1), (8, 0)]
theorem good2 : good 2 o2 := ⟨by decide, fun i hi => by unfold o2; omega, fun i j _ _ e => by unfold o2 at e; omega⟩
theorem tr_c (L M : Nat) (OA : Option Addr) (oc : Nat) : trF 0 (fun _ => 0) (8 * 2 + 1) (newS L M OA oc 2 o2) [] = cL := by kernel_rfl
theorem tr_d (L M : Nat) (OA : Option Addr) (oc : Nat) : trF 4 r4 (8 * 2 + 1) (newS L M OA oc 2 o2) [] = dL := by kernel_rfl
theorem lit_fl (w : World) (vs : Array Value) (p : List Op) (h : vs = (vsL (oV p) (p.length * 2)).toArray) (hl : p.length ≤ 1000) : Fl (w.alloc (.cells vs 30)) (some ⟨w.heap.size, 0, none⟩) 2 p.length (oV p) := by
  refine ⟨by omega, .inr ⟨w.heap.size, 0, rfl, by simp, fun j hj => ?_⟩⟩
  rw [Nat.zero_add, new_c, h]
  rw [List.getElem?_toArray]
  exact (vsL_get _ _ _ _).2 ⟨hj, rfl⟩
theorem lit_i (w : World) (vs : Array Value) (t n : Nat) (E : Nat → Int) (h : vs = (vsL (eV E) n).toArray) (hl : n ≤ 1000) : Fl (w.alloc (.cells vs t)) (some ⟨w.heap.size, 0, none⟩) 1 n (eV E) := by
  refine ⟨by omega, .inr ⟨w.heap.size, 0, rfl, by simp, fun j hj => ?_⟩⟩
  rw [Nat.zero_add, new_c, h]
  rw [List.getElem?_toArray]
  exact (vsL_get _ _ _ _).2 ⟨by omega, rfl⟩
set_option maxRecDepth 20000 in
set_option maxHeartbeats 4000000 in
theorem awake_any (w : World) : Calls Try.prog 10 #[] w (LawP w) := by
  have F1 := lit_i w #[.int .i64 0, .int .i64 1] 3 2 o2 (by kernel_rfl) (by decide)
  have T1 := tr_any (some ⟨w.heap.size, 0, none⟩) 2 2 o2 none 0 0 (fun _ => 0) _ F1 (fun e => by cases e) good2 ⟨by decide, .inl rfl⟩
  have B1 : Below w.heap.size w (w.alloc (.cells #[.int .i64 0, .int .i64 1] 3)) := bal (Below.refl _ _) _
  have B1' := Lib.hid B1
  clear B1
  clear F1
  go_enter Try.func10, Try.ntmps10
  go_wp2_with fail
  refine T1.mono ?_
  clear T1
  rintro e w1 ⟨L, M, OA, oc, v1, rfl, hown1, hb1⟩
  rw [tr_c] at hown1
  obtain ⟨A1, c1, rfl, hF1, -⟩ := fl_of_own hown1 (by decide)
  have B2 := Lib.hid (bel2 B1'.out hb1)
  have G1 := Lib.hid hF1
  clear hown1 hb1 B1' hF1
  have F2 := lit_i w1 #[.int .i64 0, .int .i64 1] 3 2 o2 (by kernel_rfl) (by decide)
  have b2 : Below w1.heap.size w1 (w1.alloc (.cells #[.int .i64 0, .int .i64 1] 3)) := bal (Below.refl _ _) _
  have F3 := lit_i (w1.alloc (.cells #[.int .i64 0, .int .i64 1] 3)) #[.int .i64 0, .int .i64 0, .int .i64 0, .int .i64 17] 24 4 r4 (by kernel_rfl) (by decide)
  have b3 : Below w1.heap.size w1 ((w1.alloc (.cells #[.int .i64 0, .int .i64 1] 3)).alloc (.cells #[.int .i64 0, .int .i64 0, .int .i64 0, .int .i64 17] 24)) := bal b2 _
  have F2' := F2.below (bal (Below.refl _ _) (.cells #[.int .i64 0, .int .i64 0, .int .i64 0, .int .i64 17] 24)) (Nat.le_refl _)
  have T2 := tr_any (some ⟨w1.heap.size, 0, none⟩) 2 2 o2 _ 4 4 r4 _ F2' (fun e => by cases e) good2 F3
  rw [show (w1.alloc (.cells #[.int .i64 0, .int .i64 1] 3)).heap.size = w1.heap.size + 1 by simp] at T2
  have hb3 := Lib.hid b3
  clear F2 b2 F3 b3 F2'
  go_wp2_with fail
  refine T2.mono ?_
  clear T2
  rintro e w2 ⟨L2, M2, OA2, oc2, v2, rfl, hown2, hb2⟩
  rw [tr_d] at hown2
  obtain ⟨A2, c2, rfl, hF2, -⟩ := fl_of_own hown2 (by decide)
  have b4 := bel2 hb3.out hb2
  have B3 := Lib.hid (bel2 B2.out b4)
  have G1' := Lib.hid (G1.out.below b4 (Nat.le_refl _))
  have G2 := Lib.hid hF2
  clear hown2 hb2 hb3 b4 B2 G1 hF2
  go_upto_region 5 with fail
  have b4 : Below w2.heap.size w2 (w2.alloc (.cells #[.int .i64 1, .int .i64 0, .int .i64 1, .int .i64 1, .int .i64 2, .int .i64 1, .int .i64 2, .int .i64 0, .int .i64 3, .int .i64 1, .int .i64 3, .int .i64 0, .int .i64 4, .int .i64 1, .int .i64 4, .int .i64 0, .int .i64 5, .int .i64 0, .int .i64 5, .int .i64 1, .int .i64 6, .int .i64 0, .int .i64 6, .int .i64 1, .int .i64 7, .int .i64 0, .int .i64 7, .int .i64 1, .int .i64 8, .int .i64 1, .int .i64 8, .int .i64 0] 30)) := bal (Below.refl _ _) _
  have b5 : Below w2.heap.size w2 ((w2.alloc (.cells #[.int .i64 1, .int .i64 0, .int .i64 1, .int .i64 1, .int .i64 2, .int .i64 1, .int .i64 2, .int .i64 0, .int .i64 3, .int .i64 1, .int .i64 3, .int .i64 0, .int .i64 4, .int .i64 1, .int .i64 4, .int .i64 0, .int .i64 5, .int .i64 0, .int .i64 5, .int .i64 1, .int .i64 6, .int .i64 0, .int .i64 6, .int .i64 1, .int .i64 7, .int .i64 0, .int .i64 7, .int .i64 1, .int .i64 8, .int .i64 1, .int .i64 8, .int .i64 0] 30)).alloc (.cells #[.int .i64 1, .int .i64 0, .int .i64 1, .int .i64 1, .int .i64 2, .int .i64 1, .int .i64 2, .int .i64 0, .int .i64 7, .int .i64 1, .int .i64 8, .int .i64 1, .int .i64 8, .int .i64 0] 30)) := bal b4 _
  have H1 := Lib.hid ((lit_fl w2 #[.int .i64 1, .int .i64 0, .int .i64 1, .int .i64 1, .int .i64 2, .int .i64 1, .int .i64 2, .int .i64 0, .int .i64 3, .int .i64 1, .int .i64 3, .int .i64 0, .int .i64 4, .int .i64 1, .int .i64 4, .int .i64 0, .int .i64 5, .int .i64 0, .int .i64 5, .int .i64 1, .int .i64 6, .int .i64 0, .int .i64 6, .int .i64 1, .int .i64 7, .int .i64 0, .int .i64 7, .int .i64 1, .int .i64 8, .int .i64 1, .int .i64 8, .int .i64 0] cL (by kernel_rfl) (by decide)).below (bal (Below.refl _ _) (.cells #[.int .i64 1, .int .i64 0, .int .i64 1, .int .i64 1, .int .i64 2, .int .i64 1, .int .i64 2, .int .i64 0, .int .i64 7, .int .i64 1, .int .i64 8, .int .i64 1, .int .i64 8, .int .i64 0] 30)) (Nat.le_refl _))
  have H2 := lit_fl (w2.alloc (.cells #[.int .i64 1, .int .i64 0, .int .i64 1, .int .i64 1, .int .i64 2, .int .i64 1, .int .i64 2, .int .i64 0, .int .i64 3, .int .i64 1, .int .i64 3, .int .i64 0, .int .i64 4, .int .i64 1, .int .i64 4, .int .i64 0, .int .i64 5, .int .i64 0, .int .i64 5, .int .i64 1, .int .i64 6, .int .i64 0, .int .i64 6, .int .i64 1, .int .i64 7, .int .i64 0, .int .i64 7, .int .i64 1, .int .i64 8, .int .i64 1, .int .i64 8, .int .i64 0] 30)) #[.int .i64 1, .int .i64 0, .int .i64 1, .int .i64 1, .int .i64 2, .int .i64 1, .int .i64 2, .int .i64 0, .int .i64 7, .int .i64 1, .int .i64 8, .int .i64 1, .int .i64 8, .int .i64 0] dL (by kernel_rfl) (by decide)
  rw [show (w2.alloc (.cells #[.int .i64 1, .int .i64 0, .int .i64 1, .int .i64 1, .int .i64 2, .int .i64 1, .int .i64 2, .int .i64 0, .int .i64 3, .int .i64 1, .int .i64 3, .int .i64 0, .int .i64 4, .int .i64 1, .int .i64 4, .int .i64 0, .int .i64 5, .int .i64 0, .int .i64 5, .int .i64 1, .int .i64 6, .int .i64 0, .int .i64 6, .int .i64 1, .int .i64 7, .int .i64 0, .int .i64 7, .int .i64 1, .int .i64 8, .int .i64 1, .int .i64 8, .int .i64 0] 30)).heap.size = w2.heap.size + 1 by simp] at H2
  have H2 := Lib.hid H2
  have B5 := Lib.hid b5
  clear b4 b5
  generalize ((w2.alloc (.cells #[.int .i64 1, .int .i64 0, .int .i64 1, .int .i64 1, .int .i64 2, .int .i64 1, .int .i64 2, .int .i64 0, .int .i64 3, .int .i64 1, .int .i64 3, .int .i64 0, .int .i64 4, .int .i64 1, .int .i64 4, .int .i64 0, .int .i64 5, .int .i64 0, .int .i64 5, .int .i64 1, .int .i64 6, .int .i64 0, .int .i64 6, .int .i64 1, .int .i64 7, .int .i64 0, .int .i64 7, .int .i64 1, .int .i64 8, .int .i64 1, .int .i64 8, .int .i64 0] 30)).alloc (.cells #[.int .i64 1, .int .i64 0, .int .i64 1, .int .i64 1, .int .i64 2, .int .i64 1, .int .i64 2, .int .i64 0, .int .i64 7, .int .i64 1, .int .i64 8, .int .i64 1, .int .i64 8, .int .i64 0] 30)) = w4 at *
  have E1 := eql_any (c := c1) (d := 16) (G1'.out.below B5.out (Nat.le_refl _)) H1.out
  have E1 : Calls Try.prog 13 #[.slice A1 cL.length c1, .slice (some ⟨w2.heap.size, 0, none⟩) 16 16] w4 (fun e w' => e = .returned (.bool true) ∧ Below w4.heap.size w4 w') := E1.mono (fun e w' h => ⟨by rw [h.1]; rfl, h.2⟩)
  go_wp2_with fail
  refine E1.mono ?_
  clear E1
  rintro e w5 ⟨rfl, hb5⟩
  have E2 := eql_any (c := c2) (d := 7) ((G2.out.below B5.out (Nat.le_refl _)).below hb5 (Nat.le_refl _)) (H2.out.below hb5 (Nat.le_refl _))
  have E2 : Calls Try.prog 13 #[.slice A2 dL.length c2, .slice (some ⟨w2.heap.size + 1, 0, none⟩) 7 7] w5 (fun e w' => e = .returned (.bool true) ∧ Below w5.heap.size w5 w') := E2.mono (fun e w' h => ⟨by rw [h.1]; rfl, h.2⟩)
  have B6 := Lib.hid (bel2 (bel2 B3.out B5.out) hb5)
  clear hb5 H1 H2 G1' G2
  go_wp2_with fail
  refine E2.mono ?_
  clear E2
  rintro e w6 ⟨rfl, hb6⟩
  have F : Hid (LawP w (.returned (.bool true)) w6) := ⟨rfl, bel2 B6.out hb6⟩
  clear hb6
  go_wp2
  go_ret
  exact F.out
end Go.Proofs.Ytcmklipifhpgmaa
