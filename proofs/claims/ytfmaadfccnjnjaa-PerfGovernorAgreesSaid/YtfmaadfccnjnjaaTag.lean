/- The walk of PerfTransitionAgrees. -/
import Derived.Test.YtfmaadfccnjnjaaAwk
namespace Go.Proofs.Ytfmaadfccnjnjaa
open Go.RowKit

theorem eqP_refl (a : PO) : eqP a a = true := by simp [eqP]
theorem eqTo_refl (g : Nat → PO) (n : Nat) : eqTo g g n = true := by
  induction n with
  | zero => rfl
  | succ n ih => simp [eqTo, ih, eqP_refl]
theorem eqlB_refl (n : Nat) (g : Nat → PO) : eqlB n n g g = true := by simp [eqlB, eqTo_refl]
theorem eql_same (A B : Option Addr) (c d : Nat) (l : List PO) (w : World) (hg : PlS w A l.length (atL l)) (hh : PlS w B l.length (atL l)) :
    Calls Try.prog 21 #[.slice A l.length c, .slice B l.length d] w fun e w' => e = .returned (.bool true) ∧ Below w.heap.size w w' := by
  refine (eql_any A B _ _ c d _ _ w hg hh).mono ?_
  rintro e w' ⟨rfl, h⟩
  rw [eqlB_refl]
  exact ⟨rfl, h⟩
def T2 (w : World) (l : List PO) (x : Int) (e : Ending) (w' : World) : Prop :=
  ∃ A c, e = .returned (.tuple #[.slice A l.length c, .int .i64 x]) ∧ PlS w' A l.length (atL l) ∧ Below w.heap.size w w'
theorem two_tra (n : Nat) (f : Nat → St) (a b : Int) : ∃ l x, ∀ (A : Option Addr) (c : Nat) (w : World), SlS w A n f →
    Calls Try.prog 19 #[.slice A n c, .int .i64 a, .int .i64 b] w (T2 w l x) ∧ Calls Try.prog 20 #[.slice A n c, .int .i64 a, .int .i64 b] w (T2 w l x) :=
  ⟨trR n f a b, trE n f a b, fun A c w h => ⟨tra_any A n c f a b w h, rtr_any A n c f a b w h⟩⟩
set_option maxRecDepth 100000 in
set_option maxHeartbeats 4000000 in
theorem tag_walk (A : Option Addr) (m c : Nat) (g : Nat → St) (a b : Int) (w : World) (h : SlS w A m g) (_ha : (Lit.int .i64 a).wf = true) (_hb : (Lit.int .i64 b).wf = true) :
    Calls Try.prog 4 #[.slice A m c, .int .i64 a, .int .i64 b] w (LawPost w) := by
  have hm := h.len
  by_cases h20 : 20 < m
  · go_enter Try.func4, Try.ntmps4
    go_wp2_with fail
    refine (awake_any _).mono ?_
    rintro e w1 ⟨rfl, hb1⟩
    go_wp2
    go_ret
    exact ⟨rfl, hb1⟩
  · have ST := tab_any A m c g _ h
    obtain ⟨hn1, hn8, -, -⟩ := tbN_bd m
    go_enter Try.func4, Try.ntmps4
    go_wp2_with fail
    refine ST.mono ?_
    rintro e w1 ⟨G, k, rfl, -, S0, B0⟩
    clear ST
    have H0 := h.below B0 (Nat.le_refl _)
    clear h
    generalize tbF m g = f at *
    generalize tbN m = n at *
    have M := Lib.hid (fun v W => mod_any v n hn1 (by omega) W)
    go_wp2_with fail
    refine (M.out a w1).mono ?_
    rintro e w' ⟨rfl, rfl⟩
    go_wp2_with fail
    refine (M.out b w1).mono ?_
    rintro e w' ⟨rfl, rfl⟩
    clear M
    generalize modOf a n = x at *
    generalize modOf b n = y at *
    obtain ⟨l1, e1, C1⟩ := two_tra n f x y
    obtain ⟨l2, e2, C2⟩ := two_tra m g a b
    obtain ⟨l3, e3, C3⟩ := two_tra n f a y
    have C1 := Lib.hid C1
    have C2 := Lib.hid C2
    have C3 := Lib.hid C3
    go_wp2_with fail
    refine (C1.out _ _ _ S0).1.mono ?_
    rintro e y0 ⟨A0, k0, rfl, P0_0, b0⟩
    have S1 := S0.below b0 (Nat.le_refl _)
    have H1 := H0.below b0 (Nat.le_refl _)
    have B1 := bel2 B0 b0
    clear S0 H0 B0 b0
    go_wp2_with fail
    refine (C1.out _ _ _ S1).2.mono ?_
    rintro e y1 ⟨A1, k1, rfl, P1_1, b1⟩
    have S2 := S1.below b1 (Nat.le_refl _)
    have H2 := H1.below b1 (Nat.le_refl _)
    have B2 := bel2 B1 b1
    have P0_1 := P0_0.below b1 (Nat.le_refl _)
    clear S1 H1 B1 b1 P0_0
    go_wp2_with fail
    refine (C2.out _ _ _ H2).1.mono ?_
    rintro e y2 ⟨A2, k2, rfl, P2_2, b2⟩
    have S3 := S2.below b2 (Nat.le_refl _)
    have H3 := H2.below b2 (Nat.le_refl _)
    have B3 := bel2 B2 b2
    have P0_2 := P0_1.below b2 (Nat.le_refl _)
    have P1_2 := P1_1.below b2 (Nat.le_refl _)
    clear S2 H2 B2 b2 P0_1 P1_1
    go_wp2_with fail
    refine (C2.out _ _ _ H3).2.mono ?_
    rintro e y3 ⟨A3, k3, rfl, P3_3, b3⟩
    have S4 := S3.below b3 (Nat.le_refl _)
    have H4 := H3.below b3 (Nat.le_refl _)
    have B4 := bel2 B3 b3
    have P0_3 := P0_2.below b3 (Nat.le_refl _)
    have P1_3 := P1_2.below b3 (Nat.le_refl _)
    have P2_3 := P2_2.below b3 (Nat.le_refl _)
    clear S3 H3 B3 b3 P0_2 P1_2 P2_2
    go_wp2_with fail
    refine (C3.out _ _ _ S4).1.mono ?_
    rintro e y4 ⟨A4, k4, rfl, P4_4, b4⟩
    have S5 := S4.below b4 (Nat.le_refl _)
    have H5 := H4.below b4 (Nat.le_refl _)
    have B5 := bel2 B4 b4
    have P0_4 := P0_3.below b4 (Nat.le_refl _)
    have P1_4 := P1_3.below b4 (Nat.le_refl _)
    have P2_4 := P2_3.below b4 (Nat.le_refl _)
    have P3_4 := P3_3.below b4 (Nat.le_refl _)
    clear S4 H4 B4 b4 P0_3 P1_3 P2_3 P3_3
    go_wp2_with fail
    refine (C3.out _ _ _ S5).2.mono ?_
    rintro e y5 ⟨A5, k5, rfl, P5_5, b5⟩
    have S6 := S5.below b5 (Nat.le_refl _)
    have H6 := H5.below b5 (Nat.le_refl _)
    have B6 := bel2 B5 b5
    have P0_5 := P0_4.below b5 (Nat.le_refl _)
    have P1_5 := P1_4.below b5 (Nat.le_refl _)
    have P2_5 := P2_4.below b5 (Nat.le_refl _)
    have P3_5 := P3_4.below b5 (Nat.le_refl _)
    have P4_5 := P4_4.below b5 (Nat.le_refl _)
    clear S5 H5 B5 b5 P0_4 P1_4 P2_4 P3_4 P4_4
    clear C1 C2 C3
    go_wp2_with fail
    refine (eql_same _ _ _ _ _ _ P0_5 P1_5).mono ?_
    rintro e y6 ⟨rfl, b6⟩
    have B7 := bel2 B6 b6
    have P2_6 := P2_5.below b6 (Nat.le_refl _)
    have P3_6 := P3_5.below b6 (Nat.le_refl _)
    have P4_6 := P4_5.below b6 (Nat.le_refl _)
    have P5_6 := P5_5.below b6 (Nat.le_refl _)
    clear B6 b6 P0_5 P1_5 P2_5 P3_5 P4_5 P5_5
    go_wp2_with fail
    refine (eql_same _ _ _ _ _ _ P2_6 P3_6).mono ?_
    rintro e y7 ⟨rfl, b7⟩
    have B8 := bel2 B7 b7
    have P4_7 := P4_6.below b7 (Nat.le_refl _)
    have P5_7 := P5_6.below b7 (Nat.le_refl _)
    clear B7 b7 P2_6 P3_6 P4_6 P5_6
    go_wp2_with fail
    refine (eql_same _ _ _ _ _ _ P4_7 P5_7).mono ?_
    rintro e y8 ⟨rfl, b8⟩
    have B9 := bel2 B8 b8
    clear B8 b8 P4_7 P5_7
    go_wp2_with fail
    refine (awake_any _).mono ?_
    rintro e y9 ⟨rfl, b9⟩
    go_wp2
    go_ret
    exact ⟨rfl, bel2 B9 b9⟩
end Go.Proofs.Ytfmaadfccnjnjaa
