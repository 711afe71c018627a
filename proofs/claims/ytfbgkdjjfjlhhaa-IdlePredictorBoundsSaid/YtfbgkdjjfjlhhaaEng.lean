/- idle.Energy returns the energy of a state of a valid list. -/
import Derived.Test.YtfbgkdjjfjlhhaaSel
namespace Go.Proofs.Ytfbgkdjjfjlhhaa
open Go.RowKit

def engTo (f : Nat → St) : Nat → Int
  | 0 => 0
  | k + 1 => engTo f k + ((f k).p - (f (k + 1)).p) * (f (k + 1)).r
def eng (f : Nat → St) (k : Nat) (d : Int) : Int := (f k).p * d + engTo f k

theorem vld_okAt {n : Nat} {f : Nat → St} (hv : vld n f = true) {k : Nat} (hk : k < n) : okAt f k = true := by
  simp only [vld, Bool.and_eq_true] at hv
  have := okTo_le f (show k + 1 ≤ n by omega) hv.2
  simp only [okTo, Bool.and_eq_true] at this
  exact this.2
theorem vld_top {n : Nat} {f : Nat → St} (hv : vld n f = true) {k : Nat} (hk : k < n) : (f k).l ≤ 1073741824 ∧ (f k).r ≤ 1073741824 ∧ (f k).p ≤ 1048576 := by
  have := vld_okAt hv hk
  simp [okAt, St.okB] at this; omega
theorem vld_step {n : Nat} {f : Nat → St} (hv : vld n f = true) {k : Nat} (hk : k + 1 < n) : (f k).l < (f (k + 1)).l ∧ (f k).r < (f (k + 1)).r ∧ (f (k + 1)).p < (f k).p := by
  have := vld_okAt hv hk
  simp [okAt, St.ltB] at this; omega
theorem vld_len {n : Nat} {f : Nat → St} (hv : vld n f = true) : 1 ≤ n ∧ n ≤ 10 ∧ (f 0).l = 0 ∧ (f 0).r = 0 := by
  simp [vld] at hv; omega

theorem engTo_bd {n : Nat} {f : Nat → St} (hv : vld n f = true) (hw : ∀ i, i < n → U64 (f i).l ∧ U64 (f i).r ∧ U64 (f i).p) (k : Nat) (hk : k < n) :
    0 ≤ engTo f k ∧ engTo f k ≤ ((f 0).p - (f k).p) * 1073741824 := by
  induction k with
  | zero => simp [engTo]
  | succ k ih =>
    have h1 := ih (by omega)
    have h2 := vld_step hv hk
    have h3 := vld_top hv hk
    have h4 := hw (k + 1) hk
    unfold U64 at h4
    have a : 0 ≤ ((f k).p - (f (k + 1)).p) * (f (k + 1)).r := Int.mul_nonneg (by omega) (by omega)
    have b : ((f k).p - (f (k + 1)).p) * (f (k + 1)).r ≤ ((f k).p - (f (k + 1)).p) * 1073741824 := Int.mul_le_mul_of_nonneg_left (by omega) (by omega)
    simp only [engTo]
    omega
theorem eng_bd {n : Nat} {f : Nat → St} (hv : vld n f = true) (hw : ∀ i, i < n → U64 (f i).l ∧ U64 (f i).r ∧ U64 (f i).p) (k : Nat) (hk : k < n) (d : Int) (h0 : 0 ≤ d) (h1 : d ≤ 1099511627776) :
    0 ≤ (f k).p * d ∧ (f k).p * d ≤ 1152921504606846976 ∧ 0 ≤ engTo f k ∧ engTo f k ≤ 1125899906842624 := by
  have h2 := vld_top hv hk
  have h3 := hw k hk
  have h4 := hw 0 (by omega)
  have h5 := vld_top hv (show 0 < n by omega)
  have h6 := engTo_bd hv hw k hk
  unfold U64 at h3 h4
  have a : 0 ≤ (f k).p * d := Int.mul_nonneg (by omega) (by omega)
  have b : (f k).p * d ≤ (f k).p * 1099511627776 := Int.mul_le_mul_of_nonneg_left h1 (by omega)
  omega

def engOk (n : Nat) (f : Nat → St) (s d : Int) : Bool := vld n f && decide (0 ≤ s) && decide (s < n) && decide (d ≤ 1099511627776)
def EngPost (w : World) (n : Nat) (f : Nat → St) (s d : Int) (e : Ending) (w' : World) : Prop :=
  e = .returned (.tuple #[.int .u64 (if engOk n f s d then eng f s.toNat d else 0), .int .i64 (if engOk n f s d then 0 else 1)]) ∧ Below w.heap.size w w'

theorem eng_bad (A : Option Addr) (n c : Nat) (f : Nat → St) (s d : Int) (w : World) (h : SlS w A n f) (hv : vld n f = false) :
    Calls Try.prog 20 #[.slice A n c, .int .i64 s, .int .u64 d] w (EngPost w n f s d) := by
  have C := chk_any A n c f w h
  have HV := Lib.hid hv; clear hv
  go_enter Try.func20, Try.ntmps20
  go_wp2_with fail
  refine C.mono ?_
  rintro e w' ⟨rfl, hb⟩
  rw [HV.out]
  go_wp2
  go_ret2
  exact ⟨by simp [engOk, HV.out], hb⟩
set_option maxHeartbeats 1000000 in
theorem eng_out (A : Option Addr) (n c : Nat) (f : Nat → St) (s d : Int) (w : World) (h : SlS w A n f) (hv : vld n f = true) (ho : s < 0 ∨ n ≤ s ∨ 1099511627776 < d) :
    Calls Try.prog 20 #[.slice A n c, .int .i64 s, .int .u64 d] w (EngPost w n f s d) := by
  have C := chk_any A n c f w h
  have hn := (vld_len hv).2.1
  have E : Hid (engOk n f s d = false) := by show _ = _; simp [engOk]; omega
  have HV := Lib.hid hv; clear hv
  have HO := Lib.hid ho; clear ho
  by_cases h1 : s < 0
  · clear HO
    go_enter Try.func20, Try.ntmps20
    go_wp2_with fail
    refine C.mono ?_
    rintro e w' ⟨rfl, hb⟩
    rw [HV.out]
    go_wp2
    go_ret2
    exact ⟨by rw [E.out]; rfl, hb⟩
  by_cases h2 : (n : Int) ≤ s
  · clear HO
    go_enter Try.func20, Try.ntmps20
    go_wp2_with fail
    refine C.mono ?_
    rintro e w' ⟨rfl, hb⟩
    rw [HV.out]
    go_wp2
    go_ret2
    exact ⟨by rw [E.out]; rfl, hb⟩
  have h3 : 1099511627776 < d := by have := HO.out; omega
  go_enter Try.func20, Try.ntmps20
  go_wp2_with fail
  refine C.mono ?_
  rintro e w' ⟨rfl, hb⟩
  rw [HV.out]
  go_wp2
  go_ret2
  exact ⟨by rw [E.out]; rfl, hb⟩
set_option maxRecDepth 100000 in
set_option maxHeartbeats 1000000 in
theorem eng_good (b off n c : Nat) (f : Nat → St) (s : Nat) (d : Int) (w : World) (h : SlS w (some ⟨b, off, none⟩) n f) (hb : b < w.heap.size) (hc : Sts w b off n f) (hv : vld n f = true) (hs : s < n) (hd0 : 0 ≤ d) (hd : d ≤ 1099511627776) :
    Calls Try.prog 20 #[.slice (some ⟨b, off, none⟩) n c, .int .i64 s, .int .u64 d] w (EngPost w n f s d) := by
  have C := chk_any _ n c f w h
  have hn := (vld_len hv).2.1
  have E : Hid (engOk n f s d = true) := by show _ = _; simp [engOk, hv]; omega
  have BD := Lib.hid (fun k hk => eng_bd hv h.wf k hk d hd0 hd)
  have ST := Lib.hid (fun k (hk : k + 1 < n) => vld_step hv hk)
  have WF := Lib.hid h.wf
  have TP := Lib.hid (fun k (hk : k < n) => vld_top hv hk)
  have HC := Lib.hid hc
  obtain ⟨q0, q1, q2, q3⟩ := BD.out s hs
  have d2 := (hc s hs).2.2
  have HV := Lib.hid hv; clear hv hc
  generalize hP : (f s).p = P at *
  have HP := Lib.hid hP; clear hP
  clear q2 q3
  go_enter Try.func20, Try.ntmps20
  go_wp2_with fail
  refine C.mono ?_
  rintro e w0 ⟨rfl, hb0⟩
  rw [HV.out]
  rw [← hb0.cell hb] at d2
  go_wp2
  go_loopw [9, 10] (fun en i wr => ∃ j : Nat, j ≤ s ∧ i = .int .i64 (j + 1 : Int) ∧ en = .int .u64 (P * d + engTo f j) ∧ Below w.heap.size w wr) (fun _ i _ => s + 1 - (intOf i).toNat)
  case atStart => exact ⟨0, Nat.zero_le _, rfl, by simp [engTo], hb0⟩
  case round =>
    obtain ⟨j, hj, rfl, rfl, hbel⟩ := hrel
    by_cases hlt : j < s
    · have e2 := (HC.out j (by omega)).2.2
      obtain ⟨-, e4, e5⟩ := HC.out (j + 1) (by omega)
      rw [← hbel.cell hb] at e2 e4 e5
      have b1 := BD.out j (by omega)
      have b2 := BD.out (j + 1) (by omega)
      have b3 := ST.out j (by omega)
      have b4 := WF.out (j + 1) (by omega)
      have b5 := TP.out (j + 1) (by omega)
      have b6 := TP.out j (by omega)
      have EN : Hid (engTo f (j + 1) = engTo f j + ((f j).p - (f (j + 1)).p) * (f (j + 1)).r) := rfl
      have M1 : 0 ≤ ((f j).p - (f (j + 1)).p) * (f (j + 1)).r := Int.mul_nonneg (by omega) (by have := b4.2.1.1; omega)
      have M2 : P * d + (engTo f j + ((f j).p - (f (j + 1)).p) * (f (j + 1)).r) < 18446744073709551616 := by rw [← EN.out]; omega
      have M0 : 0 ≤ engTo f j := b1.2.2.1
      unfold U64 at b4
      generalize (f j).p = y at *
      generalize (f (j + 1)).p = x at *
      generalize (f (j + 1)).r = r at *
      generalize engTo f j = T at *
      have w3 : IntKind.u64.wrap (y - x) = y - x := IntWalk.u64_in _ (by omega)
      have w4 : IntKind.u64.wrap ((y - x) * r) = (y - x) * r := IntWalk.u64_in _ (by omega)
      have w5 : IntKind.u64.wrap (P * d + T + (y - x) * r) = P * d + T + (y - x) * r := IntWalk.u64_in _ (by omega)
      have w1 : IntKind.i64.wrap (j : Int) = (j : Int) := IntWalk.i64_in _ (by omega)
      have w2 : (j : Int) + 1 < n := by omega
      have w6 : (j : Int) < n := by omega
      have w7 : (0 : Int) ≤ (j : Int) + 1 := by omega
      have w8 : ((j : Int) + 1).toNat = j + 1 := by omega
      clear b1 b2 b3 b4 b5 b6 M1 M2 M0 q0 q1
      have WZ : Hid (IntKind.u64.wrap (P * d + T + IntKind.u64.wrap (IntKind.u64.wrap (y - x) * r)) = P * d + (T + (y - x) * r)) := by
        show _ = _
        rw [w3, w4, w5, Int.add_assoc]
      clear w3 w4 w5
      go_wp2_with fail
      go_quiet (fail)
      clear w1 w2 w6 w7 w8
      go_wp2
      go_roundw
      case rel => exact ⟨j + 1, by omega, by go_num, by rw [EN.out, WZ.out], below_drewN hbel _⟩
      case measure => simp [intOf]; omega
    · have : j = s := by omega
      subst this
      go_wp2
      go_ret2
      exact ⟨by rw [E.out]; simp [eng, HP.out], hbel⟩
theorem eng_any (A : Option Addr) (n c : Nat) (f : Nat → St) (s d : Int) (w : World) (h : SlS w A n f) (hd0 : 0 ≤ d) : Calls Try.prog 20 #[.slice A n c, .int .i64 s, .int .u64 d] w (EngPost w n f s d) := by
  cases hv : vld n f
  · exact eng_bad A n c f s d w h hv
  · by_cases ho : s < 0 ∨ n ≤ s ∨ 1099511627776 < d
    · exact eng_out A n c f s d w h hv ho
    · rcases h.row with h0 | ⟨b, off, rfl, hlt, hc⟩
      · subst h0; simp [vld] at hv
      · obtain ⟨k, rfl⟩ : ∃ k : Nat, s = k := ⟨s.toNat, by omega⟩
        exact eng_good b off n c f k d w h hlt hc hv (by omega) hd0 (by omega)
end Go.Proofs.Ytfbgkdjjfjlhhaa
