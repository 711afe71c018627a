/- BlockdevArguments: the walk. -/
import Derived.Test.YtoafoikphpdimaaAwk
namespace Go.Proofs.Ytoafoikphpdimaa
open Go.ChangeShapes Go.WideShapes Go.ChangeAt Go.RowKit Go.Deep Go.Joins

/-- What the statement says of the second disk. -/
def wantA (off : Bool) (i : Int) (d : ByteArray) : Int := if decide (0 ≤ i) && decide (i < 3) && decide (d.size = 64) then (if off then 16 else 0) else 1
def stA (off : Bool) (L X : Nat) : DkS := if off then loS (s0 3 L X) (fun _ => false) 0 else s0 3 L X
theorem stA_wr (off : Bool) (L X : Nat) (i : Int) (d : ByteArray) : (wrS (stA off L X) i d).2 = wantA off i d := by
  have e1 : hasB (stA off L X) i = (decide (0 ≤ i) && decide (i < 3)) := by unfold stA; cases off <;> rfl
  have e2 : (stA off L X).off = off := by unfold stA; cases off <;> rfl
  have e3 : (stA off L X).pl = false := by unfold stA; cases off <;> rfl
  unfold wrS wantA
  rw [e1, e2, e3]
  split
  · cases off <;> rfl
  · rfl
theorem stA_len (off : Bool) (L X : Nat) : (stA off L X).C.length = 0 := by unfold stA; cases off <;> rfl
set_option maxRecDepth 20000 in
set_option maxHeartbeats 8000000 in
theorem arg_rest (off : Bool) (i : Int) (d : ByteArray) : ∀ (n : Int) (w : World), Calls Try.prog 4 #[.int .i64 n, .int .i64 i, .string d, .bool off] w (LawP w) := by
  intro n w
  have PN := new_any n w
  have P3 := Lib.hid (fun W => new_any 3 W)
  have AW := Lib.hid (fun W => awake_any W)
  have OF := Lib.hid (fun (W w0 : World) (L X : Nat) (v : Value) (Ka : Option Addr) (kc : Nat) (D : Dw w0 (fun _ => False) W (s0 3 L X) v Ka kc) => D.call (fun F h => off_any h (bs_nil W (fun _ => false)) (fun a e => by cases e)))
  have WR := Lib.hid (fun (W w0 : World) (L X : Nat) (v : Value) (Ka : Option Addr) (kc : Nat) (D : Dw w0 (fun _ => False) W (stA off L X) v Ka kc) => D.call (fun F h => write_any h i d (by rw [stA_len]; omega)))
  go_enter Try.func4, Try.ntmps4
  go_wp2_with fail
  refine PN.mono ?_
  clear PN
  rintro e w1 hN
  have H1 : ∃ (p : Option Addr) (x : Int), e = .returned (.tuple #[.pointer p, .int .i64 x]) ∧ Below w.heap.size w w1 ∧ ((1 ≤ n ∧ n ≤ 4096 ∧ x = 0) ∨ (¬ (1 ≤ n ∧ n ≤ 4096) ∧ x = 1 ∧ p = none)) := by
    rcases hN with ⟨m, L, X, rfl, h1, h2, rfl, v, Ka, kc, D⟩ | ⟨h, rfl, rfl⟩
    · exact ⟨_, _, rfl, D.bel, .inl ⟨by omega, by omega, rfl⟩⟩
    · exact ⟨_, _, rfl, Below.refl _ _, .inr ⟨h, rfl, rfl⟩⟩
  clear hN
  obtain ⟨p, x, rfl, B1, H⟩ := H1
  have B1 := Lib.hid B1
  have H2 : (1 ≤ n ∧ n ≤ 4096 ∧ x = 0) ∨ (n < 1 ∧ x = 1 ∧ p = none) ∨ (4096 < n ∧ x = 1 ∧ p = none) := by
    rcases H with h | ⟨h, h2⟩
    · exact .inl h
    · rcases (show n < 1 ∨ 4096 < n by omega) with h3 | h3
      · exact .inr (.inl ⟨h3, h2⟩)
      · exact .inr (.inr ⟨h3, h2⟩)
  clear H
  rcases H2 with ⟨h1, h2, rfl⟩ | ⟨h1, rfl, rfl⟩ | ⟨h1, rfl, rfl⟩
  all_goals go_upto_region 4 with fail
  all_goals
    go_wp2_with fail
    refine (P3.out _).mono ?_
    rintro e w2 (⟨m, L, X, hm, -, -, rfl, v, Ka, kc, D⟩ | ⟨h, -, -⟩)
    case inr => omega
    have hm3 : m = 3 := by omega
    subst hm3
    clear hm
    have D := Lib.hid D
    cases off with
    | true =>
      have P := OF.out _ _ _ _ _ _ _ D.out
      rw [show offR (s0 3 L X) = 0 from rfl, show offS (s0 3 L X) (fun _ => false) 0 = stA true L X from rfl] at P
      clear D OF
      go_wp2_with fail
      refine P.mono ?_
      clear P
      rintro e w3 ⟨rfl, v3, Ka3, kc3, D3⟩
      have P := WR.out _ _ _ _ _ _ _ D3
      rw [stA_wr] at P
      have D3 := Lib.hid D3
      have E1 : Hid (i < 0 → wantA true i d = 1) := fun h => by unfold wantA; rw [decide_eq_false (by omega)]; rfl
      have E2 : Hid (2 < i → wantA true i d = 1) := fun h => by unfold wantA; rw [decide_eq_false (show ¬ i < 3 by omega), Bool.and_false]; rfl
      have E3 : Hid (d.size ≠ 64 → wantA true i d = 1) := fun h => by unfold wantA; rw [decide_eq_false h, Bool.and_false]; rfl
      have E4 : Hid (0 ≤ i → i ≤ 2 → d.size = 64 → wantA true i d = 16) := fun h1 h2 h3 => by unfold wantA; rw [decide_eq_true h1, decide_eq_true (show i < 3 by omega), decide_eq_true h3]; rfl
      generalize wantA true i d = x at *
      have F : (i < 0 ∧ x = 1) ∨ (0 ≤ i ∧ 2 < i ∧ x = 1) ∨ (0 ≤ i ∧ i ≤ 2 ∧ d.size ≠ 64 ∧ x = 1) ∨ (0 ≤ i ∧ i ≤ 2 ∧ d.size = 64 ∧ x = 16) := by
        by_cases k1 : i < 0
        · exact .inl ⟨k1, E1.out k1⟩
        by_cases k2 : 2 < i
        · exact .inr (.inl ⟨by omega, k2, E2.out k2⟩)
        by_cases k3 : d.size = 64
        · exact .inr (.inr (.inr ⟨by omega, by omega, k3, E4.out (by omega) (by omega) k3⟩))
        · exact .inr (.inr (.inl ⟨by omega, by omega, k3, E3.out k3⟩))
      clear E1 E2 E3 E4
      rcases F with ⟨k1, rfl⟩ | ⟨k1, k2, rfl⟩ | ⟨k1, k2, k3, rfl⟩ | ⟨k1, k2, k3, rfl⟩
      · go_wp2_with (first
          | (go_at_call 23; refine P.mono ?_; rintro e w4 ⟨rfl, v4, Ka4, kc4, D4⟩; have B4 := Lib.hid D4.bel; clear D4)
          | (go_at_call 10; refine (AW.out _).mono ?_; rintro e w5 ⟨rfl, hb5⟩))
        go_ret
        exact ⟨rfl, bel2 B1.out (bel2 B4.out hb5)⟩
      · go_wp2_with (first
          | (go_at_call 23; refine P.mono ?_; rintro e w4 ⟨rfl, v4, Ka4, kc4, D4⟩; have B4 := Lib.hid D4.bel; clear D4)
          | (go_at_call 10; refine (AW.out _).mono ?_; rintro e w5 ⟨rfl, hb5⟩))
        go_ret
        exact ⟨rfl, bel2 B1.out (bel2 B4.out hb5)⟩
      · have j : ((d.size : Int) != 64) = true := by simp; omega
        go_wp2_with (first
          | (go_at_call 23; refine P.mono ?_; rintro e w4 ⟨rfl, v4, Ka4, kc4, D4⟩; have B4 := Lib.hid D4.bel; clear D4)
          | (go_at_call 10; refine (AW.out _).mono ?_; rintro e w5 ⟨rfl, hb5⟩))
        go_ret
        exact ⟨rfl, bel2 B1.out (bel2 B4.out hb5)⟩
      · have j : ((d.size : Int) != 64) = false := by simp; omega
        clear k3
        go_wp2_with (first
          | (go_at_call 23; refine P.mono ?_; rintro e w4 ⟨rfl, v4, Ka4, kc4, D4⟩; have B4 := Lib.hid D4.bel; clear D4)
          | (go_at_call 10; refine (AW.out _).mono ?_; rintro e w5 ⟨rfl, hb5⟩))
        go_ret
        exact ⟨rfl, bel2 B1.out (bel2 B4.out hb5)⟩
    | false =>
      have P := WR.out _ _ _ _ _ _ _ (show Dw _ _ w2 (stA false L X) v Ka kc from D.out)
      rw [stA_wr, show (stA false L X).L = L from rfl] at P
      have D3 := D.out
      clear OF
      have D3 := Lib.hid D3
      have E1 : Hid (i < 0 → wantA false i d = 1) := fun h => by unfold wantA; rw [decide_eq_false (by omega)]; rfl
      have E2 : Hid (2 < i → wantA false i d = 1) := fun h => by unfold wantA; rw [decide_eq_false (show ¬ i < 3 by omega), Bool.and_false]; rfl
      have E3 : Hid (d.size ≠ 64 → wantA false i d = 1) := fun h => by unfold wantA; rw [decide_eq_false h, Bool.and_false]; rfl
      have E4 : Hid (0 ≤ i → i ≤ 2 → d.size = 64 → wantA false i d = 0) := fun h1 h2 h3 => by unfold wantA; rw [decide_eq_true h1, decide_eq_true (show i < 3 by omega), decide_eq_true h3]; rfl
      generalize wantA false i d = x at *
      have F : (i < 0 ∧ x = 1) ∨ (0 ≤ i ∧ 2 < i ∧ x = 1) ∨ (0 ≤ i ∧ i ≤ 2 ∧ d.size ≠ 64 ∧ x = 1) ∨ (0 ≤ i ∧ i ≤ 2 ∧ d.size = 64 ∧ x = 0) := by
        by_cases k1 : i < 0
        · exact .inl ⟨k1, E1.out k1⟩
        by_cases k2 : 2 < i
        · exact .inr (.inl ⟨by omega, k2, E2.out k2⟩)
        by_cases k3 : d.size = 64
        · exact .inr (.inr (.inr ⟨by omega, by omega, k3, E4.out (by omega) (by omega) k3⟩))
        · exact .inr (.inr (.inl ⟨by omega, by omega, k3, E3.out k3⟩))
      clear E1 E2 E3 E4
      rcases F with ⟨k1, rfl⟩ | ⟨k1, k2, rfl⟩ | ⟨k1, k2, k3, rfl⟩ | ⟨k1, k2, k3, rfl⟩
      · go_wp2_with (first
          | (go_at_call 23; refine P.mono ?_; rintro e w4 ⟨rfl, v4, Ka4, kc4, D4⟩; have B4 := Lib.hid D4.bel; clear D4)
          | (go_at_call 10; refine (AW.out _).mono ?_; rintro e w5 ⟨rfl, hb5⟩))
        go_ret
        exact ⟨rfl, bel2 B1.out (bel2 B4.out hb5)⟩
      · go_wp2_with (first
          | (go_at_call 23; refine P.mono ?_; rintro e w4 ⟨rfl, v4, Ka4, kc4, D4⟩; have B4 := Lib.hid D4.bel; clear D4)
          | (go_at_call 10; refine (AW.out _).mono ?_; rintro e w5 ⟨rfl, hb5⟩))
        go_ret
        exact ⟨rfl, bel2 B1.out (bel2 B4.out hb5)⟩
      · have j : ((d.size : Int) != 64) = true := by simp; omega
        go_wp2_with (first
          | (go_at_call 23; refine P.mono ?_; rintro e w4 ⟨rfl, v4, Ka4, kc4, D4⟩; have B4 := Lib.hid D4.bel; clear D4)
          | (go_at_call 10; refine (AW.out _).mono ?_; rintro e w5 ⟨rfl, hb5⟩))
        go_ret
        exact ⟨rfl, bel2 B1.out (bel2 B4.out hb5)⟩
      · have j : ((d.size : Int) != 64) = false := by simp; omega
        clear k3
        go_wp2_with (first
          | (go_at_call 23; refine P.mono ?_; rintro e w4 ⟨rfl, v4, Ka4, kc4, D4⟩; have B4 := Lib.hid D4.bel; clear D4)
          | (go_at_call 10; refine (AW.out _).mono ?_; rintro e w5 ⟨rfl, hb5⟩))
        go_ret
        exact ⟨rfl, bel2 B1.out (bel2 B4.out hb5)⟩
theorem arg_walk (n i : Int) (d : ByteArray) (off : Bool) (w : World) (_ : (Lit.int .i64 n).wf = true) (_ : (Lit.int .i64 i).wf = true) (_ : d.size ≤ 140737488351232) : Calls Try.prog 4 #[.int .i64 n, .int .i64 i, .string d, .bool off] w (LawPost w) := arg_rest off i d n w
end Go.Proofs.Ytoafoikphpdimaa
