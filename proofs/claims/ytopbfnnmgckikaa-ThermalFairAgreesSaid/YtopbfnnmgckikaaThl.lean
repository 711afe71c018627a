/- Throttle, the reference's, and ThermalThrottle. -/
import Derived.Test.YtopbfnnmgckikaaPtb
namespace Go.Proofs.Ytopbfnnmgckikaa
open Go.RowKit

def ThR (n : Nat) (f : Nat → St) (gr : Int) (a code : Int) : Prop :=
  (vld n f = false ∧ a = 0 ∧ code = 1) ∨ (vld n f = true ∧ ((∃ i : Nat, i < n ∧ a = i ∧ code = 0 ∧ (f i).c ≤ gr ∧ ∀ j, i < j → j < n → gr < (f j).c) ∨ (a = 0 ∧ code = 6 ∧ ∀ j, j < n → gr < (f j).c)))
theorem thr_same {n : Nat} {f : Nat → St} {gr a c a' c' : Int} (h : ThR n f gr a c) (h' : ThR n f gr a' c') : a = a' ∧ c = c' := by
  rcases h with ⟨h1, h2, h3⟩ | ⟨h1, ⟨i, i1, i2, i3, i4, i5⟩ | ⟨h2, h3, h4⟩⟩ <;> rcases h' with ⟨k1, k2, k3⟩ | ⟨k1, ⟨j, j1, j2, j3, j4, j5⟩ | ⟨k2, k3, k4⟩⟩
  all_goals first | (rw [h1] at k1; cases k1; done) | (exact ⟨h2.trans k2.symm, h3.trans k3.symm⟩) | skip
  · have : i = j := by
      rcases Nat.lt_trichotomy i j with h | h | h
      · have := i5 j h j1; omega
      · exact h
      · have := j5 i h i1; omega
    subst this
    exact ⟨i2.trans j2.symm, i3.trans j3.symm⟩
  · have := k4 i i1; omega
  · have := h4 j j1; omega
def ThP (w : World) (n : Nat) (f : Nat → St) (gr : Int) (e : Ending) (w' : World) : Prop :=
  ∃ a code : Int, e = .returned (.tuple #[.int .i64 a, .int .i64 code]) ∧ ThR n f gr a code ∧ Below w.heap.size w w'

set_option maxRecDepth 100000 in
set_option maxHeartbeats 4000000 in
theorem th_any (A : Option Addr) (n c : Nat) (f : Nat → St) (gr : Int) (w : World) (h : SlS .u64 w A n f) : Calls Try.prog 13 #[.slice A n c, .int .u64 gr] w (ThP w n f gr) := by
  have P := pchk_any A n c f w h
  have HS := Lib.hid h
  have hl := h.len
  clear h
  go_enter Try.func13, Try.ntmps13
  go_wp2_with fail
  refine P.mono ?_
  clear P
  rintro e w1 ⟨rfl, hb⟩
  have S1 := Lib.hid (HS.out.below hb (Nat.le_refl _))
  have B1 := Lib.hid hb
  clear hb
  by_cases hv : vld n f = true
  case neg =>
    have hv : vld n f = false := by simpa using hv
    have F : Hid (ThP w n f gr (.returned (.tuple #[.int .i64 0, .int .i64 1])) w1) := ⟨0, 1, rfl, .inl ⟨hv, rfl, rfl⟩, B1.out⟩
    have e : (if vld n f = true then (0 : Int) else 1) = 1 := by rw [hv]; rfl
    rw [e]
    clear hv e
    go_wp2
    go_ret2
    exact F.out
  case pos =>
  have e : (if vld n f = true then (0 : Int) else 1) = 0 := by rw [hv]; rfl
  rw [e]
  have HV := Lib.hid hv
  have hn := vld_len hv
  clear e hv
  go_wp2_with fail
  go_loop [7] (fun i => ∃ k : Nat, k ≤ n ∧ i = .int .i64 ((k : Int) - 1) ∧ Hid (∀ j, k ≤ j → j < n → gr < (f j).c)) (fun i => (intOf i + 1).toNat)
  case atStart => exact ⟨n, Nat.le_refl _, rfl, fun j h1 h2 => by omega⟩
  case round =>
    obtain ⟨k, hk, rfl, HQ⟩ := hrel
    rcases Nat.eq_zero_or_pos k with hk0 | hk0
    · have F : Hid (ThP w n f gr (.returned (.tuple #[.int .i64 0, .int .i64 6])) w1) := ⟨0, 6, rfl, .inr ⟨HV.out, .inr ⟨rfl, rfl, fun j hj => HQ.out j (by omega) hj⟩⟩, B1.out⟩
      have hneg : (k : Int) - 1 < 0 := by omega
      clear HQ
      go_wp2
      go_ret2
      exact F.out
    · obtain ⟨j, rfl⟩ : ∃ j, k = j + 1 := ⟨k - 1, by omega⟩
      have ej : ((j + 1 : Nat) : Int) - 1 = (j : Int) := by omega
      rw [ej]
      rcases S1.out.row with h0 | ⟨b, off, rfl, hbl, hc⟩
      · omega
      obtain ⟨_, _, c2⟩ := hc j (by omega)
      have GO : Hid ((f j).c ≤ gr → ThP w n f gr (.returned (.tuple #[.int .i64 j, .int .i64 0])) w1) := fun hle => ⟨j, 0, rfl, .inr ⟨HV.out, .inl ⟨j, by omega, rfl, rfl, hle, fun i h1 h2 => HQ.out i (by omega) h2⟩⟩, B1.out⟩
      have NQ : Hid (gr < (f j).c → ∀ i, j ≤ i → i < n → gr < (f i).c) := fun hlt i h1 h2 => by
        rcases Nat.eq_or_lt_of_le h1 with h | h
        · subst h; exact hlt
        · exact HQ.out i h h2
      have hjn : j < n := by omega
      clear hc HQ
      generalize (f j).c = x at *
      by_cases hle : x ≤ gr
      · have F := Lib.hid (GO.out hle)
        clear GO NQ ej
        go_wp2
        go_ret2
        exact F.out
      · have NQ := Lib.hid (NQ.out (by omega))
        clear GO ej
        go_wp2
        go_round
        case rel => exact ⟨j, by omega, rfl, NQ.out⟩
        case measure => simp [intOf]

set_option maxRecDepth 100000 in
set_option maxHeartbeats 4000000 in
theorem rth_any (A : Option Addr) (n c : Nat) (f : Nat → St) (gr : Int) (w : World) (h : SlS .u64 w A n f) : Calls Try.prog 14 #[.slice A n c, .int .u64 gr] w (ThP w n f gr) := by
  have P := prchk_any A n c f w h
  have HS := Lib.hid h
  have hl := h.len
  clear h
  go_enter Try.func14, Try.ntmps14
  go_wp2_with fail
  refine P.mono ?_
  clear P
  rintro e w1 ⟨rfl, hb⟩
  have S1 := Lib.hid (HS.out.below hb (Nat.le_refl _))
  have B1 := Lib.hid hb
  clear hb
  by_cases hv : vld n f = true
  case neg =>
    have hv : vld n f = false := by simpa using hv
    have F : Hid (ThP w n f gr (.returned (.tuple #[.int .i64 0, .int .i64 1])) w1) := ⟨0, 1, rfl, .inl ⟨hv, rfl, rfl⟩, B1.out⟩
    have e : (if vld n f = true then (0 : Int) else 1) = 1 := by rw [hv]; rfl
    rw [e]
    clear hv e
    go_wp2
    go_ret2
    exact F.out
  case pos =>
  have e : (if vld n f = true then (0 : Int) else 1) = 0 := by rw [hv]; rfl
  rw [e]
  have HV := Lib.hid hv
  have hn := vld_len hv
  clear e hv
  go_wp2_with fail
  go_loop [7] (fun i => ∃ k : Nat, k ≤ n ∧ i = .int .i64 ((k : Int) - 1) ∧ Hid (∀ j, k ≤ j → j < n → gr < (f j).c)) (fun i => (intOf i + 1).toNat)
  case atStart => exact ⟨n, Nat.le_refl _, rfl, fun j h1 h2 => by omega⟩
  case round =>
    obtain ⟨k, hk, rfl, HQ⟩ := hrel
    rcases Nat.eq_zero_or_pos k with hk0 | hk0
    · have F : Hid (ThP w n f gr (.returned (.tuple #[.int .i64 0, .int .i64 6])) w1) := ⟨0, 6, rfl, .inr ⟨HV.out, .inr ⟨rfl, rfl, fun j hj => HQ.out j (by omega) hj⟩⟩, B1.out⟩
      have hneg : (k : Int) - 1 < 0 := by omega
      clear HQ
      go_wp2
      go_ret2
      exact F.out
    · obtain ⟨j, rfl⟩ : ∃ j, k = j + 1 := ⟨k - 1, by omega⟩
      have ej : ((j + 1 : Nat) : Int) - 1 = (j : Int) := by omega
      rw [ej]
      rcases S1.out.row with h0 | ⟨b, off, rfl, hbl, hc⟩
      · omega
      obtain ⟨_, _, c2⟩ := hc j (by omega)
      have GO : Hid ((f j).c ≤ gr → ThP w n f gr (.returned (.tuple #[.int .i64 j, .int .i64 0])) w1) := fun hle => ⟨j, 0, rfl, .inr ⟨HV.out, .inl ⟨j, by omega, rfl, rfl, hle, fun i h1 h2 => HQ.out i (by omega) h2⟩⟩, B1.out⟩
      have NQ : Hid (gr < (f j).c → ∀ i, j ≤ i → i < n → gr < (f i).c) := fun hlt i h1 h2 => by
        rcases Nat.eq_or_lt_of_le h1 with h | h
        · subst h; exact hlt
        · exact HQ.out i h h2
      have hjn : j < n := by omega
      clear hc HQ
      generalize (f j).c = x at *
      by_cases hle : x ≤ gr
      · have F := Lib.hid (GO.out hle)
        clear GO NQ ej
        go_wp2
        go_ret2
        exact F.out
      · have NQ := Lib.hid (NQ.out (by omega))
        clear GO ej
        go_wp2
        go_round
        case rel => exact ⟨j, by omega, rfl, NQ.out⟩
        case measure => simp [intOf]

set_option maxRecDepth 100000 in
set_option maxHeartbeats 8000000 in
theorem thl_any (A : Option Addr) (m c : Nat) (g : Nat → St) (gr : Int) (w : World) (h : SlS .u64 w A m g ∧ m ≤ c ∧ c ≤ 9223372036854775807 ∧ (A = none → c = 0)) (hgr : (Lit.int .u64 gr).wf = true) : Calls Try.prog 3 #[.slice A m c, .int .u64 gr] w (LawPost w) := by
  obtain ⟨h, _, _, _⟩ := h
  obtain ⟨g0, g1⟩ := wf_u64 hgr
  have hm0 : 0 ≤ gr % 250 := Int.emod_nonneg _ (by omega)
  have hm1 : gr % 250 < 250 := Int.emod_lt_of_pos _ (by omega)
  have hl := h.len
  by_cases h20 : 20 < m
  · clear h
    go_enter Try.func3, Try.ntmps3
    go_wp2_with fail
    refine (awake_any w).mono ?_
    rintro e w2 ⟨rfl, hb⟩
    have B2 := Lib.hid hb
    clear hb
    go_wp2
    go_ret
    exact ⟨rfl, B2.out⟩
  have P := tab_any A m c g w h
  have HS := Lib.hid h
  have HVL : Hid (vld (tbN m) (tbF m g) = true) := tbF_vld m g
  have hN := tbN_bd m
  obtain ⟨hN1, hN2, _, _⟩ := hN
  clear h
  go_enter Try.func3, Try.ntmps3
  go_wp2_with fail
  refine P.mono ?_
  clear P
  rintro e w1 ⟨G, c1, rfl, hGB, hS, hb⟩
  have S1 := Lib.hid (HS.out.below hb (Nat.le_refl _))
  have T1 := Lib.hid hS
  have B1 := Lib.hid hb
  clear hb hS HS hGB
  generalize tbN m = n at *
  generalize tbF m g = f at *
  have P := th_any A m c g gr w1 S1.out
  go_wp2_with fail
  refine P.mono ?_
  clear P
  rintro e w2 ⟨a2, k2, rfl, hR2, hb⟩
  have S2 := Lib.hid (S1.out.below hb (Nat.le_refl _))
  have T2 := Lib.hid (T1.out.below hb (Nat.le_refl _))
  have B2 := Lib.hid (bel2 B1.out hb)
  have R2 := Lib.hid hR2
  clear hb hR2 S1 T1 B1
  have P := rth_any A m c g gr w2 S2.out
  go_wp2_with fail
  refine P.mono ?_
  clear P
  rintro e w3 ⟨a3, k3, rfl, hR3, hb⟩
  obtain ⟨e1, e2⟩ := thr_same hR3 R2.out
  subst e1 e2
  have T3 := Lib.hid (T2.out.below hb (Nat.le_refl _))
  have B3 := Lib.hid (bel2 B2.out hb)
  clear hb hR3 R2 S2 T2 B2
  have P := th_any (some ⟨G, 0, none⟩) n c1 f (gr % 250) w3 T3.out
  go_wp2_with fail
  refine P.mono ?_
  clear P
  rintro e w4 ⟨a4, k4, rfl, hR4, hb⟩
  have T4 := T3.out.below hb (Nat.le_refl _)
  have B4 := Lib.hid (bel2 B3.out hb)
  clear hb T3 B3
  rcases T4.row with h0 | ⟨b, off, hA, hGl, hc⟩
  · omega
  injection hA with hA
  injection hA with q1 q2
  subst q1 q2
  generalize gr % 250 = w0 at *
  rcases hR4 with ⟨h1, _⟩ | ⟨_, ⟨i, i1, rfl, rfl, i4, i5⟩ | ⟨rfl, rfl, h4⟩⟩
  · rw [HVL.out] at h1; cases h1
  · obtain ⟨_, _, c2⟩ := hc i i1
    simp only [Nat.zero_add] at c2
    generalize (f i).c = x at *
    by_cases hlast : i + 1 = n
    · have hq : ((i : Int) == (n : Int) - 1) = true := by simp; omega
      clear hc i5 T4 hlast
      go_wp2_with fail
      refine (awake_any w4).mono ?_
      rintro e w5 ⟨rfl, hb⟩
      have B5 := Lib.hid (bel2 B4.out hb)
      clear hb
      go_wp2
      go_ret
      exact ⟨rfl, B5.out⟩
    · have hq : ((i : Int) == (n : Int) - 1) = false := by simp; omega
      obtain ⟨_, _, d2⟩ := hc (i + 1) (by omega)
      have h5 := i5 (i + 1) (by omega) (by omega)
      simp only [Nat.zero_add] at d2
      generalize (f (i + 1)).c = y at *
      have hi1 : (i : Int) + 1 < n := by omega
      have hi2 : ((i : Int) + 1).toNat = i + 1 := by omega
      have hi3 : (0 : Int) ≤ (i : Int) + 1 := by omega
      clear hc i5 T4 hlast
      go_wp2_with fail
      refine (awake_any w4).mono ?_
      rintro e w5 ⟨rfl, hb⟩
      have B5 := Lib.hid (bel2 B4.out hb)
      clear hb
      go_wp2
      go_ret
      exact ⟨rfl, B5.out⟩
  · obtain ⟨_, _, c2⟩ := hc 0 (by omega)
    have h40 := h4 0 (by omega)
    simp only [Nat.zero_mul, Nat.zero_add] at c2
    generalize (f 0).c = x at *
    clear hc h4 T4
    go_wp2_with fail
    refine (awake_any w4).mono ?_
    rintro e w5 ⟨rfl, hb⟩
    have B5 := Lib.hid (bel2 B4.out hb)
    clear hb
    go_wp2
    go_ret
    exact ⟨rfl, B5.out⟩
end Go.Proofs.Ytopbfnnmgckikaa
