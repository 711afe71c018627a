/- The laws on energy: the selected state uses the least; neighbours break even at the residency of the deeper one: their walks. -/
import Derived.Test.YtfbgkdjjfjlhhaaResp
namespace Go.Proofs.Ytfbgkdjjfjlhhaa
open Go.RowKit

theorem eng_step (f : Nat → St) (i : Nat) (x : Int) : eng f (i + 1) x = eng f i x + ((f i).p - (f (i + 1)).p) * ((f (i + 1)).r - x) := by
  unfold eng
  simp only [engTo]
  generalize (f i).p = a
  generalize (f (i + 1)).p = b
  generalize (f (i + 1)).r = r
  generalize engTo f i = t
  rw [Int.mul_sub, Int.sub_mul, Int.sub_mul]
  omega
theorem eng_down {n : Nat} {f : Nat → St} (hv : vld n f = true) (x : Int) (k : Nat) (hk : k < n) (hr : (f k).r ≤ x) (i : Nat) (hi : i ≤ k) : eng f k x ≤ eng f i x := by
  induction k with
  | zero => have : i = 0 := by omega
            subst this; exact Int.le_refl _
  | succ k ih =>
    have st := vld_step hv hk
    rcases Nat.lt_or_ge i (k + 1) with h | h
    · have := ih (by omega) (by omega) (by omega)
      rw [eng_step]
      have : ((f k).p - (f (k + 1)).p) * ((f (k + 1)).r - x) ≤ 0 := Int.mul_nonpos_of_nonneg_of_nonpos (by omega) (by omega)
      omega
    · have : i = k + 1 := by omega
      subst this; exact Int.le_refl _
theorem eng_up {n : Nat} {f : Nat → St} (hv : vld n f = true) (x : Int) (k : Nat) (i : Nat) (hki : k ≤ i) (hi : i < n) (hr : ∀ j, k < j → j ≤ i → x ≤ (f j).r) : eng f k x ≤ eng f i x := by
  induction i with
  | zero => have : k = 0 := by omega
            subst this; exact Int.le_refl _
  | succ i ih =>
    rcases Nat.lt_or_ge k (i + 1) with h | h
    · have st := vld_step hv hi
      have := ih (by omega) (by omega) (fun j a b => hr j a (by omega))
      have h2 := hr (i + 1) h (Nat.le_refl _)
      rw [eng_step]
      have : 0 ≤ ((f i).p - (f (i + 1)).p) * ((f (i + 1)).r - x) := Int.mul_nonneg (by omega) (by omega)
      omega
    · have : k = i + 1 := by omega
      subst this; exact Int.le_refl _
theorem vld_mono {n : Nat} {f : Nat → St} (hv : vld n f = true) (i j : Nat) (hij : i ≤ j) (hj : j < n) : (f i).l ≤ (f j).l := by
  induction j with
  | zero => have : i = 0 := by omega
            subst this; exact Int.le_refl _
  | succ j ih =>
    rcases Nat.lt_or_ge i (j + 1) with h | h
    · have := ih (by omega) (by omega); have := vld_step hv hj; omega
    · have : i = j + 1 := by omega
      subst this; exact Int.le_refl _
theorem sel_min {n : Nat} {f : Nat → St} (hv : vld n f = true) (x l : Int) (hx : 0 ≤ x) (hl : 0 ≤ l) (i : Nat) (hi : i < n) (hli : (f i).l ≤ l) : eng f (selTo f x l n) x ≤ eng f i x := by
  obtain ⟨h1, -, f0, f1⟩ := vld_len hv
  obtain ⟨k0, k1, k2, k3⟩ := selTo_ok f x l (by omega) (by omega) n h1
  rcases Nat.lt_or_ge (selTo f x l n) i with h | h
  · refine eng_up hv x _ i (by omega) hi fun j hj hji => ?_
    have := k3 j hj (by omega)
    have := vld_mono hv j i hji hi
    by_cases hc : (f j).r ≤ x
    · exact absurd ⟨by omega, hc⟩ (k3 j hj (by omega))
    · omega
  · exact eng_down hv x _ k0 k2 i h

theorem eng_yes {w : World} {G n : Nat} {f : Nat → St} (c : Nat) (k : Nat) (d : Int) (h : SlS w (some ⟨G, 0, none⟩) n f) (hv : vld n f = true) (hk : k < n) (hd0 : 0 ≤ d) (hd : d ≤ 1099511627776) :
    Calls Try.prog 20 #[.slice (some ⟨G, 0, none⟩) n c, .int .i64 k, .int .u64 d] w fun e w' => e = .returned (.tuple #[.int .u64 (eng f k d), .int .i64 0]) ∧ Below w.heap.size w w' :=
  (eng_any _ n c f k d w h hd0).mono fun e w' ⟨he, hb⟩ => ⟨by
    have : engOk n f k d = true := by simp [engOk, hv]; omega
    rw [he, this]; rfl, hb⟩

set_option maxRecDepth 100000 in
set_option maxHeartbeats 2000000 in
theorem min_walk (A : Option Addr) (m c : Nat) (g : Nat → St) (x l : Int) (w : World) (h : SlS w A m g) (hx : (Lit.int .u64 x).wf = true) (hl : (Lit.int .u64 l).wf = true) :
    Calls Try.prog 6 #[.slice A m c, .int .u64 x, .int .u64 l] w (LawPost w) := by
  have hm := h.len
  have hx := (u64_of_wf hx).1
  have hl := (u64_of_wf hl).1
  by_cases h20 : 20 < m
  · go_enter Try.func6, Try.ntmps6
    go_wp2_with fail
    refine (awake_any _).mono ?_
    rintro e w1 ⟨rfl, hb1⟩
    go_wp2
    go_ret
    exact ⟨rfl, hb1⟩
  · have ST := sta_any A m c g w h
    obtain ⟨hn1, hn7, -, -⟩ := stN_bd m
    have V := Lib.hid (stF_vld m g)
    go_enter Try.func6, Try.ntmps6
    go_wp2_with fail
    refine ST.mono ?_
    rintro e w1 ⟨G, rfl, hG, hS, hb1⟩
    clear ST
    generalize stF m g = f at *
    generalize stN m = n at *
    have K := (selTo_ok f (x % 1500) (l % 300) (by have := vld_len V.out; omega) (by have := vld_len V.out; omega) n hn1).1
    have M := Lib.hid (fun i => sel_min V.out (x % 1500) (l % 300) (by omega) (by omega) i)
    go_wp2_with fail
    refine (sel_any _ n n f (x % 1500) (l % 300) w1 hS).mono ?_
    rintro e w2 ⟨rfl, hb2⟩
    rw [V.out]
    generalize selTo f (x % 1500) (l % 300) n = k at *
    have S2 := hS.below hb2 (Nat.le_refl _)
    have B2 := hb1.trans (hb2.mono hb1.size)
    clear hS hb1 hb2
    go_wp2_with fail
    refine (eng_yes n k (x % 1500) S2 V.out K (by omega) (by omega)).mono ?_
    rintro e w3 ⟨rfl, hb3⟩
    have S3 := S2.below hb3 (Nat.le_refl _)
    have B3 := B2.trans (hb3.mono B2.size)
    clear S2 B2 hb3
    generalize eng f k (x % 1500) = best at *
    go_wp2
    go_loopw [14] (fun i wr => ∃ j : Nat, j ≤ n ∧ i = .int .i64 j ∧ Below w.heap.size w wr ∧ SlS wr (some ⟨G, 0, none⟩) n f) (fun i _ => n - (intOf i).toNat)
    case atStart => exact ⟨0, Nat.zero_le _, rfl, B3, S3⟩
    case round =>
      clear S3 B3
      obtain ⟨j, j1, rfl, B, S⟩ := hrel
      by_cases hlt : j < n
      · go_wp2_with fail
        refine (eng_yes n j (x % 1500) S V.out hlt (by omega) (by omega)).mono ?_
        rintro e w4 ⟨rfl, hb4⟩
        have S4 := S.below hb4 (Nat.le_refl _)
        have B4 := B.trans (hb4.mono B.size)
        clear S B hb4
        obtain ⟨d0, -, -⟩ := S4.cells hlt
        have hGw := S4.lt hn1
        by_cases a1 : (f j).l ≤ l % 300
        · have a2 := M.out j hlt a1
          generalize eng f j (x % 1500) = en at *
          go_wp2
          go_roundw
          case rel => exact ⟨j + 1, by omega, by go_num, B4, S4⟩
          case measure => simp [intOf]; omega
        · generalize eng f j (x % 1500) = en at *
          go_wp2
          go_roundw
          case rel => exact ⟨j + 1, by omega, by go_num, B4, S4⟩
          case measure => simp [intOf]; omega
      · go_wp2_with fail
        refine (awake_any _).mono ?_
        rintro e w3 ⟨rfl, hb3⟩
        go_wp2
        go_ret
        exact ⟨rfl, B.trans (hb3.mono B.size)⟩
end Go.Proofs.Ytfbgkdjjfjlhhaa
