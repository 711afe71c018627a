/- ThermalMoreBudgetHelps. -/
import Derived.Test.YtopbfnnmgckikaaAag
namespace Go.Proofs.Ytopbfnnmgckikaa
open Go.RowKit

theorem fr_mono (L : Int) (f : Nat → St) {r r' : Int} (h0 : 0 ≤ r) (h : r ≤ r') (k : Nat) : frR L f r k ≤ frR L f r' k := by
  induction k with
  | zero => exact h
  | succ k ih =>
    have a := fr_bd L f r k h0
    have b := fr_bd L f r' k (by omega)
    have e1 : frR L f r (k + 1) = if 0 < frR L f r k ∧ elg L (f k) then frR L f r k - 1 else frR L f r k := rfl
    have e2 : frR L f r' (k + 1) = if 0 < frR L f r' k ∧ elg L (f k) then frR L f r' k - 1 else frR L f r' k := rfl
    rw [e1, e2]
    by_cases hel : elg L (f k)
    · by_cases h1 : 0 < frR L f r k
      · rw [if_pos ⟨h1, hel⟩, if_pos ⟨by omega, hel⟩]; omega
      · rw [if_neg (fun x => h1 x.1)]
        split <;> omega
    · rw [if_neg (fun x => hel x.2), if_neg (fun x => hel x.2)]; exact ih
theorem gfil_lo (L : Int) (f : Nat → St) (r : Int) (i : Nat) : atG L (f i) ≤ gfil L f r i := by
  unfold gfil; split <;> omega
theorem gfil_hi (L : Int) (f : Nat → St) (r : Int) (i : Nat) : gfil L f r i ≤ atG (L + 1) (f i) := by
  unfold gfil
  split
  · next h =>
    obtain ⟨_, h1, h2⟩ := h
    unfold atG
    unfold wantI at *
    omega
  · exact atG_mono _ (by omega)
theorem gfil_mono (L : Int) (f : Nat → St) {r r' : Int} (h0 : 0 ≤ r) (h : r ≤ r') (i : Nat) : gfil L f r i ≤ gfil L f r' i := by
  have := fr_mono L f h0 h i
  unfold gfil
  by_cases hel : elg L (f i)
  · by_cases h1 : 0 < frR L f r i
    · rw [if_pos ⟨h1, hel⟩, if_pos ⟨by omega, hel⟩]; exact Int.le_refl _
    · rw [if_neg (fun x => h1 x.1)]; split <;> omega
  · rw [if_neg (fun x => hel x.2), if_neg (fun x => hel x.2)]; exact Int.le_refl _
theorem filL_get (L : Int) (f : Nat → St) (r : Int) (n i : Nat) (h : i < n) : (filL L f r n).getD i 0 = gfil L f r i := by simp [filL, List.getD_eq_getElem?_getD, h]
theorem more_helps {b b' : Int} {n : Nat} {f : Nat → St} {x y : List Int} {c c' : Int} (hbb : b ≤ b') (h : AllocR b n f x c) (h' : AllocR b' n f y c') (hv : vA n f = true) :
    (c = 19 ∨ c = 0) ∧ (c = 0 → c' = 0 ∧ x.length = n ∧ y.length = n ∧ ∀ i, i < n → x.getD i 0 ≤ y.getD i 0) := by
  have hl := alloc_len h
  have hl' := alloc_len h'
  rcases h with ⟨a1, a2, a3⟩ | ⟨a1, a2, a3, a4⟩ | ⟨a1, a2, a3, a4, a5⟩ | ⟨a1, a2, a3, a4, L, a5, a6, a7, a8⟩
  · rw [hv] at a1; cases a1
  · exact ⟨.inl a4, fun h => by omega⟩
  · refine ⟨.inr a5, fun _ => ?_⟩
    rcases h' with ⟨b1, b2, b3⟩ | ⟨b1, b2, b3, b4⟩ | ⟨b1, b2, b3, b4, b5⟩ | ⟨b1, b2, b3, b4, L', b5, b6, b7, b8⟩
    · rw [hv] at b1; cases b1
    · omega
    · exact ⟨b5, hl.2.1 a5, hl'.2.1 b5, fun i _ => by rw [a4, b4]; exact Int.le_refl _⟩
    · omega
  · refine ⟨.inr a4, fun _ => ?_⟩
    rcases h' with ⟨b1, b2, b3⟩ | ⟨b1, b2, b3, b4⟩ | ⟨b1, b2, b3, b4, b5⟩ | ⟨b1, b2, b3, b4, L', b5, b6, b7, b8⟩
    · rw [hv] at b1; cases b1
    · omega
    · refine ⟨b5, hl.2.1 a4, hl'.2.1 b5, fun i hi => ?_⟩
      rw [a8, b4, filL_get _ _ _ _ _ hi, atL_get _ _ _ _ hi]
      have h1 := gfil_hi (L : Int) f (b - atS L f n) i
      have h2 := atG_mono (a := (L : Int) + 1) (b := 4294967296) (f i) (by omega)
      omega
    · refine ⟨b4, hl.2.1 a4, hl'.2.1 b4, fun i hi => ?_⟩
      rw [a8, b8, filL_get _ _ _ _ _ hi, filL_get _ _ _ _ _ hi]
      rcases Nat.lt_trichotomy L L' with h | h | h
      · have h1 := gfil_hi (L : Int) f (b - atS L f n) i
        have h2 := atG_mono (a := (L : Int) + 1) (b := (L' : Int)) (f i) (by omega)
        have h3 := gfil_lo (L' : Int) f (b' - atS L' f n) i
        omega
      · subst h
        exact gfil_mono _ _ (by omega) (by omega) i
      · have := atS_mono (a := ((L' + 1 : Nat) : Int)) (b := (L : Int)) f n (by omega)
        omega
set_option maxRecDepth 100000 in
set_option maxHeartbeats 8000000 in
theorem mbh_any (bud more : Int) (A : Option Addr) (m c : Nat) (g : Nat → St) (w : World) (hb0 : (Lit.int .u64 bud).wf = true) (hm0' : (Lit.int .u64 more).wf = true) (h : SlS .u64 w A m g ∧ m ≤ c ∧ c ≤ 9223372036854775807 ∧ (A = none → c = 0)) : Calls Try.prog 10 #[.int .u64 bud, .int .u64 more, .slice A m c] w (LawPost w) := by
  obtain ⟨h, _, _, _⟩ := h
  obtain ⟨bu0, bu1⟩ := wf_u64 hb0
  obtain ⟨mo0, mo1⟩ := wf_u64 hm0'
  have hm0 : 0 ≤ bud % 200 := Int.emod_nonneg _ (by omega)
  have hm1 : bud % 200 < 200 := Int.emod_lt_of_pos _ (by omega)
  have hq0 : 0 ≤ more % 20 := Int.emod_nonneg _ (by omega)
  have hq1 : more % 20 < 20 := Int.emod_lt_of_pos _ (by omega)
  have hl := h.len
  by_cases h40 : 40 < m
  · clear h
    go_enter Try.func10, Try.ntmps10
    go_wp2_with fail
    refine (awake_any w).mono ?_
    rintro e w2 ⟨rfl, hb⟩
    have B2 := Lib.hid hb
    clear hb
    go_wp2
    go_ret
    exact ⟨rfl, B2.out⟩
  have P := actors_q A m c g w h
  have HV : Hid (vA (acN m) (acF g) = true) := acF_ok g m
  clear h
  go_enter Try.func10, Try.ntmps10
  go_wp2_with fail
  refine P.mono ?_
  clear P
  rintro e w1 ⟨A2, c2, rfl, hS, hb⟩
  have T1 := Lib.hid hS
  have B1 := Lib.hid hb
  clear hb hS
  generalize acN m = n2 at *
  generalize acF g = f2 at *
  have P := alc_any (bud % 200) A2 n2 c2 f2 w1 (by omega) T1.out
  go_wp2_with fail
  refine (P.mono fun _ _ => alq_of).mono ?_
  clear P
  rintro e w2 ⟨l2, k2, A2x, c2x, rfl, hR2, hL2, hb⟩
  have T2 := Lib.hid (T1.out.below hb (Nat.le_refl _))
  have B2 := Lib.hid (bel2 B1.out hb)
  have L2 := Lib.hid hL2
  have R2 := Lib.hid hR2
  clear hb hL2 hR2 T1 B1
  have P := alc_any (bud % 200 + more % 20) A2 n2 c2 f2 w2 (by omega) T2.out
  go_wp2_with fail
  refine (P.mono fun _ _ => alq_of).mono ?_
  clear P
  rintro e w3 ⟨l3, k3, A3x, c3x, rfl, hR3, hL3, hb⟩
  have B3 := Lib.hid (bel2 B2.out hb)
  have L2' := Lib.hid (L2.out.below hb)
  have L3 := Lib.hid hL3
  obtain ⟨hk, hmore⟩ := more_helps (by omega) R2.out hR3 HV.out
  have hn2 := vA_len HV.out
  clear hb hL3 hR3 R2 T2 B2 L2
  rcases hk with rfl | rfl
  · clear hmore
    go_wp2_with fail
    refine (awake_any w3).mono ?_
    rintro e w4 ⟨rfl, hb⟩
    have B4 := Lib.hid (bel2 B3.out hb)
    clear hb
    go_wp2
    go_ret
    exact ⟨rfl, B4.out⟩
  · obtain ⟨rfl, e2, e3, hle⟩ := hmore rfl
    have HLE := Lib.hid hle
    have E2 := Lib.hid e2
    have E3 := Lib.hid e3
    rw [e2, e3]
    clear hle e2 e3 hmore
    go_wp2_with fail
    go_loopw [13] (fun i wr => ∃ k : Nat, k ≤ n2 ∧ i = .int .i64 k ∧ Below w.heap.size w wr ∧ RLU wr A2x l2 ∧ RLU wr A3x l3) (fun i _ => n2 - (intOf i).toNat)
    case atStart => exact ⟨0, Nat.zero_le _, rfl, B3.out, L2'.out, L3.out⟩
    case round =>
      clear B3 L2' L3
      obtain ⟨k, hk, rfl, hB, q2, q3⟩ := hrel
      by_cases hlt : k < n2
      · rcases q2.2 with h0 | ⟨b1, o1, rfl, l1, c1⟩
        · have := E2.out; rw [h0] at this; simp at this; omega
        rcases q3.2 with h0 | ⟨b2, o2, rfl, lb2, cc2⟩
        · have := E3.out; rw [h0] at this; simp at this; omega
        have d1 := c1 k (by have := E2.out; omega)
        have d2 := cc2 k (by have := E3.out; omega)
        have hle := HLE.out k hlt
        clear c1 cc2
        generalize l2.getD k 0 = x at *
        generalize l3.getD k 0 = y at *
        have HB := Lib.hid hB
        have Q2 := Lib.hid q2
        have Q3 := Lib.hid q3
        clear hB q2 q3
        have hd : decide (y < x) = false := decide_eq_false (by omega)
        go_wp2_with fail
        go_quiet (fail)
        go_wp2
        go_roundw
        case rel => exact ⟨k + 1, by omega, by go_num, below_drewN HB.out _, Q2.out.below (below_drewN (Below.refl _ _) _), Q3.out.below (below_drewN (Below.refl _ _) _)⟩
        case measure => simp [intOf]; omega
      · have HB := Lib.hid hB
        clear hB q2 q3
        go_wp2_with fail
        refine (awake_any wr).mono ?_
        rintro e w4 ⟨rfl, hb⟩
        have B4 := Lib.hid (bel2 HB.out hb)
        clear hb
        go_wp2
        go_ret
        exact ⟨rfl, B4.out⟩
end Go.Proofs.Ytopbfnnmgckikaa
