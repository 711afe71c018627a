/- perf.Find and the reference's Find return the same, the first point that is fast enough. -/
import Derived.Test.YtfmaadfccnjnjaaRck
namespace Go.Proofs.Ytfmaadfccnjnjaa
open Go.RowKit

def fnd (n : Nat) (f : Nat → St) (x : Int) : Option Nat := (List.range n).find? (fun i => decide (x ≤ (f i).l))
theorem fnd_at {n : Nat} {f : Nat → St} {x : Int} {k : Nat} (hk : k < n) (h : x ≤ (f k).l) (hb : ∀ i, i < k → (f i).l < x) : fnd n f x = some k := by
  unfold fnd
  rw [List.find?_range_eq_some]
  exact ⟨by simpa using h, by simpa using hk, fun j hj => by simpa using hb j hj⟩
theorem fnd_no {n : Nat} {f : Nat → St} {x : Int} (hb : ∀ i, i < n → (f i).l < x) : fnd n f x = none := by
  unfold fnd
  rw [List.find?_range_eq_none]
  exact fun j hj => by simpa using hb j hj
def fv (n : Nat) (f : Nat → St) (x : Int) : Int := if vld n f then ((fnd n f x).getD 0 : Nat) else 0
def fe (n : Nat) (f : Nat → St) (x : Int) : Int := if vld n f then (if (fnd n f x).isSome then 0 else 6) else 1
def FndPost (w : World) (n : Nat) (f : Nat → St) (x : Int) (e : Ending) (w' : World) : Prop :=
  e = .returned (.tuple #[.int .i64 (fv n f x), .int .i64 (fe n f x)]) ∧ Below w.heap.size w w'
theorem fnd_hit {w w' : World} {n : Nat} {f : Nat → St} {x : Int} {k : Nat} (hv : vld n f = true) (hk : k < n) (h : x ≤ (f k).l) (hb : ∀ i, i < k → (f i).l < x) (hB : Below w.heap.size w w') :
    FndPost w n f x (.returned (.tuple #[.int .i64 k, .int .i64 0])) w' :=
  ⟨by unfold fv fe; rw [hv, fnd_at hk h hb]; rfl, hB⟩
theorem fnd_miss {w w' : World} {n : Nat} {f : Nat → St} {x : Int} (hv : vld n f = true) (hb : ∀ i, i < n → (f i).l < x) (hB : Below w.heap.size w w') :
    FndPost w n f x (.returned (.tuple #[.int .i64 0, .int .i64 6])) w' :=
  ⟨by unfold fv fe; rw [hv, fnd_no hb]; rfl, hB⟩
theorem find_bad (A : Option Addr) (n c : Nat) (f : Nat → St) (x : Int) (w : World) (h : SlS w A n f) (hv : vld n f = false) :
    Calls Try.prog 15 #[.slice A n c, .int .u64 x] w (FndPost w n f x) := by
  have C := chk_any A n c f w h
  have HV := Lib.hid hv; clear hv
  go_enter Try.func15, Try.ntmps15
  go_wp2_with fail
  refine C.mono ?_
  rintro e w' ⟨rfl, hb⟩
  rw [HV.out]
  go_wp2
  go_ret2
  exact ⟨by unfold fv fe; rw [HV.out]; rfl, hb⟩
theorem rfind_bad (A : Option Addr) (n c : Nat) (f : Nat → St) (x : Int) (w : World) (h : SlS w A n f) (hv : vld n f = false) :
    Calls Try.prog 16 #[.slice A n c, .int .u64 x] w (FndPost w n f x) := by
  have C := rchk_any A n c f w h
  have HV := Lib.hid hv; clear hv
  go_enter Try.func16, Try.ntmps16
  go_wp2_with fail
  refine C.mono ?_
  rintro e w' ⟨rfl, hb⟩
  rw [HV.out]
  go_wp2
  go_ret2
  exact ⟨by unfold fv fe; rw [HV.out]; rfl, hb⟩
set_option maxRecDepth 100000 in
set_option maxHeartbeats 1000000 in
theorem find_good (b off n c : Nat) (f : Nat → St) (x : Int) (w : World) (h : SlS w (some ⟨b, off, none⟩) n f) (hb : b < w.heap.size) (hc : Sts w b off n f) (hv : vld n f = true) :
    Calls Try.prog 15 #[.slice (some ⟨b, off, none⟩) n c, .int .u64 x] w (FndPost w n f x) := by
  have C := chk_any _ n c f w h
  have hn := (vld_len hv).2
  have HV := Lib.hid hv; clear hv
  go_enter Try.func15, Try.ntmps15
  go_wp2_with fail
  refine C.mono ?_
  rintro e w0 ⟨rfl, hb0⟩
  rw [HV.out]
  go_wp2
  go_loopw [16] (fun i wr => ∃ k : Nat, k ≤ n ∧ i = .int .i64 k ∧ Below w.heap.size w wr ∧ Hid (∀ i, i < k → (f i).l < x)) (fun i _ => n - (intOf i).toNat)
  case atStart => exact ⟨0, Nat.zero_le _, rfl, hb0, fun i hi => by omega⟩
  case round =>
    obtain ⟨k, hk, rfl, hbel, HN⟩ := hrel
    by_cases hlt : k < n
    · obtain ⟨d0, d1, d2⟩ := hc k hlt
      rw [← hbel.cell hb] at d0 d1 d2
      by_cases a1 : x ≤ (f k).l
      · go_wp2
        go_ret2
        exact fnd_hit HV.out hlt a1 HN.out (hbel.alloc hbel.size _)
      · go_wp2
        go_roundw
        case rel => exact ⟨k + 1, by omega, by go_num, hbel.alloc hbel.size _, fun i hi => by
          rcases Nat.lt_or_ge i k with h1 | h1
          · exact HN.out i h1
          · have : i = k := by omega
            subst this; omega⟩
        case measure => simp [intOf]; omega
    · have : k = n := by omega
      subst this
      go_wp2
      go_ret2
      exact fnd_miss HV.out HN.out hbel
set_option maxRecDepth 100000 in
set_option maxHeartbeats 1000000 in
theorem rfind_good (b off n c : Nat) (f : Nat → St) (x : Int) (w : World) (h : SlS w (some ⟨b, off, none⟩) n f) (hb : b < w.heap.size) (hc : Sts w b off n f) (hv : vld n f = true) :
    Calls Try.prog 16 #[.slice (some ⟨b, off, none⟩) n c, .int .u64 x] w (FndPost w n f x) := by
  have C := rchk_any _ n c f w h
  have hn := (vld_len hv).2
  have HV := Lib.hid hv; clear hv
  go_enter Try.func16, Try.ntmps16
  go_wp2_with fail
  refine C.mono ?_
  rintro e w0 ⟨rfl, hb0⟩
  rw [HV.out]
  go_wp2
  go_loopw [7] (fun i wr => ∃ k : Nat, k ≤ n ∧ i = .int .i64 k ∧ Below w.heap.size w wr ∧ Hid (∀ i, i < k → (f i).l < x)) (fun i _ => n - (intOf i).toNat)
  case atStart => exact ⟨0, Nat.zero_le _, rfl, hb0, fun i hi => by omega⟩
  case round =>
    obtain ⟨k, hk, rfl, hbel, HN⟩ := hrel
    by_cases hlt : k < n
    · obtain ⟨d0, d1, d2⟩ := hc k hlt
      rw [← hbel.cell hb] at d0 d1 d2
      by_cases a1 : x ≤ (f k).l
      · go_wp2
        go_ret2
        exact fnd_hit HV.out hlt a1 HN.out hbel
      · go_wp2
        go_roundw
        case rel => exact ⟨k + 1, by omega, by go_num, hbel, fun i hi => by
          rcases Nat.lt_or_ge i k with h1 | h1
          · exact HN.out i h1
          · have : i = k := by omega
            subst this; omega⟩
        case measure => simp [intOf]; omega
    · have : k = n := by omega
      subst this
      go_wp2
      go_ret2
      exact fnd_miss HV.out HN.out hbel
theorem find_any (A : Option Addr) (n c : Nat) (f : Nat → St) (x : Int) (w : World) (h : SlS w A n f) : Calls Try.prog 15 #[.slice A n c, .int .u64 x] w (FndPost w n f x) := by
  cases hv : vld n f
  · exact find_bad A n c f x w h hv
  · rcases h.row with h0 | ⟨b, off, rfl, hlt, hc⟩
    · subst h0; simp [vld] at hv
    · exact find_good b off n c f x w h hlt hc hv
theorem rfind_any (A : Option Addr) (n c : Nat) (f : Nat → St) (x : Int) (w : World) (h : SlS w A n f) : Calls Try.prog 16 #[.slice A n c, .int .u64 x] w (FndPost w n f x) := by
  cases hv : vld n f
  · exact rfind_bad A n c f x w h hv
  · rcases h.row with h0 | ⟨b, off, rfl, hlt, hc⟩
    · subst h0; simp [vld] at hv
    · exact rfind_good b off n c f x w h hlt hc hv
end Go.Proofs.Ytfmaadfccnjnjaa
