/- ThermalAllocateAgrees. -/
import Derived.Test.YtopbfnnmgckikaaTag
namespace Go.Proofs.Ytopbfnnmgckikaa
open Go.RowKit

theorem alloc_len {bud : Int} {n : Nat} {f : Nat → St} {l : List Int} {c : Int} (h : AllocR bud n f l c) : l.length ≤ 32 ∧ (c = 0 → l.length = n) ∧ (c = 0 ∨ c = 1 ∨ c = 19) := by
  rcases h with ⟨a1, a2, a3⟩ | ⟨a1, a2, a3, a4⟩ | ⟨a1, a2, a3, a4, a5⟩ | ⟨a1, a2, a3, a4, L, a5, a6, a7, a8⟩
  · subst a2 a3; exact ⟨by simp, fun h => by omega, by omega⟩
  · subst a3 a4; exact ⟨by simp, fun h => by omega, by omega⟩
  · have := vA_len a1
    subst a4 a5
    rw [atL_len]
    exact ⟨this, fun _ => rfl, by omega⟩
  · have := vA_len a1
    subst a8
    have e : (filL L f (bud - atS L f n) n).length = n := by simp [filL]
    rw [e]
    exact ⟨this, fun _ => rfl, by omega⟩
def AlQ (w : World) (bud : Int) (n : Nat) (f : Nat → St) (e : Ending) (w' : World) : Prop :=
  ∃ l code A c, e = .returned (.tuple #[.slice A l.length c, .int .i64 code]) ∧ AllocR bud n f l code ∧ RLU w' A l ∧ Below w.heap.size w w'
theorem alq_of {w w' : World} {bud : Int} {n : Nat} {f : Nat → St} {e : Ending} (h : AlcP w bud n f e w') : AlQ w bud n f e w' := by
  obtain ⟨l, code, A, c, h1, h2, h3, h4, _⟩ := h
  exact ⟨l, code, A, c, h1, h2, h3.rl (by have := (alloc_len h2).1; omega), h4⟩
theorem acF_wf (g : Nat → St) (i : Nat) : WfS .u64 (acF g i) := by
  have a1 := Int.emod_nonneg (g i).a (show (40 : Int) ≠ 0 by omega)
  have a2 := Int.emod_lt_of_pos (g i).a (show (0 : Int) < 40 by omega)
  have b1 := Int.emod_nonneg (g i).b (show (10 : Int) ≠ 0 by omega)
  have b2 := Int.emod_lt_of_pos (g i).b (show (0 : Int) < 10 by omega)
  have c1 := Int.emod_nonneg (g i).c (show (30 : Int) ≠ 0 by omega)
  have c2 := Int.emod_lt_of_pos (g i).c (show (0 : Int) < 30 by omega)
  unfold acF
  exact ⟨wf_u64_mk (x := (g i).a % 40) (by omega), wf_u64_mk (x := (g i).b % 10) (by omega), wf_u64_mk (x := (g i).b % 10 + (g i).c % 30) (by omega)⟩
theorem acF_ok (g : Nat → St) (m : Nat) : vA (acN m) (acF g) = true := by
  unfold vA
  rw [allTo_of fun k _ => ?_, decide_eq_true (by unfold acN; omega)]
  · rfl
  · have b1 := Int.emod_nonneg (g k).b (show (10 : Int) ≠ 0 by omega)
    have b2 := Int.emod_lt_of_pos (g k).b (show (0 : Int) < 10 by omega)
    have c1 := Int.emod_nonneg (g k).c (show (30 : Int) ≠ 0 by omega)
    have c2 := Int.emod_lt_of_pos (g k).c (show (0 : Int) < 30 by omega)
    show (decide ((g k).b % 10 ≤ (g k).b % 10 + (g k).c % 30) && decide ((g k).b % 10 + (g k).c % 30 ≤ 4294967296)) = true
    rw [decide_eq_true (by omega), decide_eq_true (by omega)]
    rfl
/-- What Actors leaves. -/
def AcQ (w : World) (m : Nat) (g : Nat → St) (e : Ending) (w' : World) : Prop := ∃ A c, e = .returned (.slice A (acN m) c) ∧ SlS .u64 w' A (acN m) (acF g) ∧ Below w.heap.size w w'
theorem actors_q (A : Option Addr) (m c : Nat) (g : Nat → St) (w : World) (h : SlS .u64 w A m g) : Calls Try.prog 29 #[.slice A m c] w (AcQ w m g) :=
  (actors_any A m c g w h).mono fun e w' ⟨A', c', he, ho, hb⟩ => by
    obtain ⟨A2, c2, e2, hS, _, _⟩ := sls_of_own ho (by unfold acN; omega) (fun i _ => acF_wf g i)
    injection e2 with e3 _ e4
    subst e3 e4
    exact ⟨A', c', he, hS, hb⟩
theorem dec_self (l : List Int) : decide (l = l) = true := by simp
set_option maxRecDepth 100000 in
set_option maxHeartbeats 8000000 in
theorem aag_any (bud : Int) (A : Option Addr) (m c : Nat) (g : Nat → St) (w : World) (hb0 : (Lit.int .u64 bud).wf = true) (h : SlS .u64 w A m g ∧ m ≤ c ∧ c ≤ 9223372036854775807 ∧ (A = none → c = 0)) : Calls Try.prog 7 #[.int .u64 bud, .slice A m c] w (LawPost w) := by
  obtain ⟨h, _, _, _⟩ := h
  have hbu := wf_u64 hb0
  obtain ⟨bu0, bu1⟩ := hbu
  have hm0 : 0 ≤ bud % 200 := Int.emod_nonneg _ (by omega)
  have hm1 : bud % 200 < 200 := Int.emod_lt_of_pos _ (by omega)
  have hl := h.len
  by_cases h40 : 40 < m
  · clear h
    go_enter Try.func7, Try.ntmps7
    go_wp2_with fail
    refine (awake_any w).mono ?_
    rintro e w2 ⟨rfl, hb⟩
    have B2 := Lib.hid hb
    clear hb
    go_wp2
    go_ret
    exact ⟨rfl, B2.out⟩
  have P := actors_q A m c g w h
  have S0 := Lib.hid h
  clear h
  go_enter Try.func7, Try.ntmps7
  go_wp2_with fail
  refine P.mono ?_
  clear P
  rintro e w1 ⟨A2, c2, rfl, hS, hb⟩
  have S1 := Lib.hid (S0.out.below hb (Nat.le_refl _))
  have T1 := Lib.hid hS
  have B1 := Lib.hid hb
  clear hb hS S0
  generalize acN m = n2 at *
  generalize acF g = f2 at *
  have P := alc_any (bud) A m c g w1 (by omega) S1.out
  go_wp2_with fail
  refine (P.mono fun _ _ => alq_of).mono ?_
  clear P
  rintro e w2 ⟨l2, k2, A2x, c2x, rfl, hR2, hL2, hb⟩
  have S2 := Lib.hid (S1.out.below hb (Nat.le_refl _))
  have T2 := Lib.hid (T1.out.below hb (Nat.le_refl _))
  have B2 := Lib.hid (bel2 B1.out hb)
  have L2 := Lib.hid hL2
  have R2 := Lib.hid hR2
  clear hb S1 T1 B1 hL2 hR2 
  have P := ralc_any (bud) A m c g w2 (by omega) S2.out
  go_wp2_with fail
  refine (P.mono fun _ _ => alq_of).mono ?_
  clear P
  rintro e w3 ⟨l3, k3, A3x, c3x, rfl, hR3, hL3, hb⟩
  have S3 := Lib.hid (S2.out.below hb (Nat.le_refl _))
  have T3 := Lib.hid (T2.out.below hb (Nat.le_refl _))
  have B3 := Lib.hid (bel2 B2.out hb)
  have L3 := Lib.hid hL3
  have L2_3 := Lib.hid (L2.out.below hb)
  have R3 := Lib.hid hR3
  clear hb S2 T2 B2 hL3 hR3 L2
  obtain ⟨e1, e2⟩ := alloc_same R3.out R2.out
  subst e1 e2
  clear R3 R2
  have P := alc_any (bud % 200) A2 n2 c2 f2 w3 (by omega) T3.out
  go_wp2_with fail
  refine (P.mono fun _ _ => alq_of).mono ?_
  clear P
  rintro e w4 ⟨l4, k4, A4x, c4x, rfl, hR4, hL4, hb⟩
  have S4 := Lib.hid (S3.out.below hb (Nat.le_refl _))
  have T4 := Lib.hid (T3.out.below hb (Nat.le_refl _))
  have B4 := Lib.hid (bel2 B3.out hb)
  have L4 := Lib.hid hL4
  have L2_4 := Lib.hid (L2_3.out.below hb)
  have L3_4 := Lib.hid (L3.out.below hb)
  have R4 := Lib.hid hR4
  clear hb S3 T3 B3 hL4 hR4 L2_3 L3
  have P := ralc_any (bud % 200) A2 n2 c2 f2 w4 (by omega) T4.out
  go_wp2_with fail
  refine (P.mono fun _ _ => alq_of).mono ?_
  clear P
  rintro e w5 ⟨l5, k5, A5x, c5x, rfl, hR5, hL5, hb⟩
  have S5 := Lib.hid (S4.out.below hb (Nat.le_refl _))
  have T5 := Lib.hid (T4.out.below hb (Nat.le_refl _))
  have B5 := Lib.hid (bel2 B4.out hb)
  have L5 := Lib.hid hL5
  have L2_5 := Lib.hid (L2_4.out.below hb)
  have L3_5 := Lib.hid (L3_4.out.below hb)
  have L4_5 := Lib.hid (L4.out.below hb)
  have R5 := Lib.hid hR5
  clear hb S4 T4 B4 hL5 hR5 L2_4 L3_4 L4
  obtain ⟨e1, e2⟩ := alloc_same R5.out R4.out
  subst e1 e2
  clear R5 R4
  have P := alc_any (bud) A2 n2 c2 f2 w5 (by omega) T5.out
  go_wp2_with fail
  refine (P.mono fun _ _ => alq_of).mono ?_
  clear P
  rintro e w6 ⟨l6, k6, A6x, c6x, rfl, hR6, hL6, hb⟩
  have S6 := Lib.hid (S5.out.below hb (Nat.le_refl _))
  have T6 := Lib.hid (T5.out.below hb (Nat.le_refl _))
  have B6 := Lib.hid (bel2 B5.out hb)
  have L6 := Lib.hid hL6
  have L2_6 := Lib.hid (L2_5.out.below hb)
  have L3_6 := Lib.hid (L3_5.out.below hb)
  have L4_6 := Lib.hid (L4_5.out.below hb)
  have L5_6 := Lib.hid (L5.out.below hb)
  have R6 := Lib.hid hR6
  clear hb S5 T5 B5 hL6 hR6 L2_5 L3_5 L4_5 L5
  have P := ralc_any (bud) A2 n2 c2 f2 w6 (by omega) T6.out
  go_wp2_with fail
  refine (P.mono fun _ _ => alq_of).mono ?_
  clear P
  rintro e w7 ⟨l7, k7, A7x, c7x, rfl, hR7, hL7, hb⟩
  have S7 := Lib.hid (S6.out.below hb (Nat.le_refl _))
  have T7 := Lib.hid (T6.out.below hb (Nat.le_refl _))
  have B7 := Lib.hid (bel2 B6.out hb)
  have L7 := Lib.hid hL7
  have L2_7 := Lib.hid (L2_6.out.below hb)
  have L3_7 := Lib.hid (L3_6.out.below hb)
  have L4_7 := Lib.hid (L4_6.out.below hb)
  have L5_7 := Lib.hid (L5_6.out.below hb)
  have L6_7 := Lib.hid (L6.out.below hb)
  have R7 := Lib.hid hR7
  clear hb S6 T6 B6 hL7 hR7 L2_6 L3_6 L4_6 L5_6 L6
  obtain ⟨e1, e2⟩ := alloc_same R7.out R6.out
  subst e1 e2
  clear R7 R6
  have P := eqlU A2x A3x c2x c3x l3 l3 w7 L2_7.out L3_7.out
  rw [dec_self] at P
  go_wp2_with fail
  refine P.mono ?_
  clear P
  rintro e w8 ⟨rfl, hb⟩
  have B8 := Lib.hid (bel2 B7.out hb)
  have L4_8 := Lib.hid (L4_7.out.below hb)
  have L5_8 := Lib.hid (L5_7.out.below hb)
  have L6_8 := Lib.hid (L6_7.out.below hb)
  have L7_8 := Lib.hid (L7.out.below hb)
  clear hb B7
  have P := eqlU A4x A5x c4x c5x l5 l5 w8 L4_8.out L5_8.out
  rw [dec_self] at P
  go_wp2_with fail
  refine P.mono ?_
  clear P
  rintro e w9 ⟨rfl, hb⟩
  have B9 := Lib.hid (bel2 B8.out hb)
  have L6_9 := Lib.hid (L6_8.out.below hb)
  have L7_9 := Lib.hid (L7_8.out.below hb)
  clear hb B8
  have P := eqlU A6x A7x c6x c7x l7 l7 w9 L6_9.out L7_9.out
  rw [dec_self] at P
  go_wp2_with fail
  refine P.mono ?_
  clear P
  rintro e w10 ⟨rfl, hb⟩
  have B10 := Lib.hid (bel2 B9.out hb)
  clear hb B9
  go_wp2_with fail
  refine (awake_any w10).mono ?_
  rintro e w11 ⟨rfl, hb⟩
  have B11 := Lib.hid (bel2 B10.out hb)
  clear hb
  go_wp2
  go_ret
  exact ⟨rfl, B11.out⟩
end Go.Proofs.Ytopbfnnmgckikaa
