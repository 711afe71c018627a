/- The search for the point of a frequency, by slices.IndexFunc and a closure. -/
import Derived.Test.YtfmaadfccnjnjaaTra
namespace Go.Proofs.Ytfmaadfccnjnjaa
open Go.RowKit

theorem clo_any (x y z F : Int) (L : Nat) (w : World) (hc : w.cell? ⟨L, 0, none⟩ = some (.int .u64 F)) (hL : L < w.heap.size) :
    Calls Try.prog 35 #[.agg #[.int .u64 x, .int .u64 y, .int .u64 z], .pointer (some ⟨L, 0, none⟩)] w fun e w' => e = .returned (.bool (x == F)) ∧ Below w.heap.size w w' := by
  go_enter Try.func35, Try.ntmps35
  go_wp2
  go_ret
  exact ⟨rfl, bal (Below.refl _ _) _⟩
def idx (n : Nat) (f : Nat → St) (F : Int) : Option Nat := (List.range n).find? (fun i => decide ((f i).l = F))
def idxI (n : Nat) (f : Nat → St) (F : Int) : Int := match idx n f F with
  | some i => (i : Int)
  | none => -1
theorem idx_at {n : Nat} {f : Nat → St} {F : Int} {k : Nat} (hk : k < n) (h : (f k).l = F) (hb : ∀ i, i < k → ¬ (f i).l = F) : idx n f F = some k := by
  unfold idx
  rw [List.find?_range_eq_some]
  exact ⟨by simpa using h, by simpa using hk, fun j hj => by simpa using hb j hj⟩
theorem idx_no {n : Nat} {f : Nat → St} {F : Int} (hb : ∀ i, i < n → ¬ (f i).l = F) : idx n f F = none := by
  unfold idx
  rw [List.find?_range_eq_none]
  exact fun j hj => by simpa using hb j hj
set_option maxRecDepth 100000 in
set_option maxHeartbeats 2000000 in
theorem idf_pos (b off n c L : Nat) (f : Nat → St) (F : Int) (w : World) (hn : n ≤ 16) (hb : b < w.heap.size) (hc : Sts w b off n f) (hL : L < w.heap.size) (hF : w.cell? ⟨L, 0, none⟩ = some (.int .u64 F)) :
    Calls Try.prog 34 #[.slice (some ⟨b, off, none⟩) n c, .func (.func 35) #[] #[.pointer (some ⟨L, 0, none⟩)]] w fun e w' => e = .returned (.int .i64 (idxI n f F)) ∧ Below w.heap.size w w' := by
  have HC := Lib.hid hc; clear hc
  go_enter Try.func34, Try.ntmps34
  go_wp2_with fail
  go_loopw [8] (fun i wr => ∃ k : Nat, k ≤ n ∧ i = .int .i64 k ∧ Below w.heap.size w wr ∧ Hid (∀ i, i < k → ¬ (f i).l = F)) (fun i _ => n - (intOf i).toNat)
  case atStart => exact ⟨0, Nat.zero_le _, rfl, Below.refl _ _, fun i hi => by omega⟩
  case round =>
    obtain ⟨k, hk, rfl, hB, HN⟩ := hrel
    by_cases hlt : k < n
    · obtain ⟨d0, d1, d2⟩ := HC.out k hlt
      rw [← hB.cell hb] at d0 d1 d2
      have hF2 := hF
      rw [← hB.cell (p := ⟨L, 0, none⟩) hL] at hF2
      have hL2 : L < wr.heap.size := by have := hB.size; omega
      have CL := Lib.hid (fun x y z => clo_any x y z F L wr hF2 hL2)
      go_wp2_with fail
      refine (CL.out _ _ _).mono ?_
      rintro e w2 ⟨rfl, hb2⟩
      have B2 := bel2 hB hb2
      clear hF2 hL2
      by_cases e1 : (f k).l = F
      · have e2 : ((f k).l == F) = true := by simp [e1]
        have E1 := Lib.hid e1; clear e1
        rw [e2]
        go_wp2
        go_ret
        exact ⟨by unfold idxI; rw [idx_at hlt E1.out HN.out]; rfl, B2⟩
      · have e2 : ((f k).l == F) = false := by simp [e1]
        have E1 := Lib.hid e1; clear e1
        rw [e2]
        go_wp2
        go_roundw
        case rel => exact ⟨k + 1, by omega, by go_num, B2, fun i hi => by
          rcases Nat.lt_or_ge i k with h1 | h1
          · exact HN.out i h1
          · have : i = k := by omega
            subst this; exact E1.out⟩
        case measure => simp [intOf]; omega
    · have : k = n := by omega
      subst this
      go_wp2
      go_ret
      exact ⟨by unfold idxI; rw [idx_no HN.out]; rfl, hB⟩
end Go.Proofs.Ytfmaadfccnjnjaa
