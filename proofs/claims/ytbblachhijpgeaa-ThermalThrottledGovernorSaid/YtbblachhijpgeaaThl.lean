/- Throttle, the reference's, and ThermalThrottle. -/
import Derived.Test.YtbblachhijpgeaaPtb
namespace Go.Proofs.Ytbblachhijpgeaa
open Go.RowKit

def ThR (n : Nat) (f : Nat → St) (gr : Int) (a code : Int) : Prop :=
  (vld n f = false ∧ a = 0 ∧ code = 1) ∨ (vld n f = true ∧ ((∃ i : Nat, i < n ∧ a = i ∧ code = 0 ∧ (f i).c ≤ gr ∧ ∀ j, i < j → j < n → gr < (f j).c) ∨ (a = 0 ∧ code = 6 ∧ ∀ j, j < n → gr < (f j).c)))
theorem thr_same {n : Nat} {f : Nat → St} {gr a c a' c' : Int} (h : ThR n f gr a c) (h' : ThR n f gr a' c') : a = a' ∧ c = c' := by
  rcases h with ⟨h1, h2, h3⟩ | ⟨h1, ⟨i, i1, i2, i3, i4, i5⟩ | ⟨h2, h3, h4⟩⟩ <;> rcases h' with ⟨k1, k2, k3⟩ | ⟨k1, ⟨j, j1, j2, j3, j4, j5⟩ | ⟨k2, k3, k4⟩⟩
  all_goals first | (rw [h1] at k1; cases k1; done) | (exact ⟨h2.trans k2.symm, h3.trans k3.symm⟩) | skip
  · have : i = j := by
      rcases Nat.lt_trichotomy i j with h | h | h
      · have := i5 j h j1; omega
      · exact h
      · have := j5 i h i1; omega
    subst this
    exact ⟨i2.trans j2.symm, i3.trans j3.symm⟩
  · have := k4 i i1; omega
  · have := h4 j j1; omega
def ThP (w : World) (n : Nat) (f : Nat → St) (gr : Int) (e : Ending) (w' : World) : Prop :=
  ∃ a code : Int, e = .returned (.tuple #[.int .i64 a, .int .i64 code]) ∧ ThR n f gr a code ∧ Below w.heap.size w w'

set_option maxRecDepth 100000 in
set_option maxHeartbeats 4000000 in
theorem th_any (A : Option Addr) (n c : Nat) (f : Nat → St) (gr : Int) (w : World) (h : SlS .u64 w A n f) : Calls Try.prog 21 #[.slice A n c, .int .u64 gr] w (ThP w n f gr) := by
  have P := pchk_any A n c f w h
  have HS := Lib.hid h
  have hl := h.len
  clear h
  go_enter Try.func21, Try.ntmps21
  go_wp2_with fail
  refine P.mono ?_
  clear P
  rintro e w1 ⟨rfl, hb⟩
  have S1 := Lib.hid (HS.out.below hb (Nat.le_refl _))
  have B1 := Lib.hid hb
  clear hb
  by_cases hv : vld n f = true
  case neg =>
    have hv : vld n f = false := by simpa using hv
    have F : Hid (ThP w n f gr (.returned (.tuple #[.int .i64 0, .int .i64 1])) w1) := ⟨0, 1, rfl, .inl ⟨hv, rfl, rfl⟩, B1.out⟩
    have e : (if vld n f = true then (0 : Int) else 1) = 1 := by rw [hv]; rfl
    rw [e]
    clear hv e
    go_wp2
    go_ret2
    exact F.out
  case pos =>
  have e : (if vld n f = true then (0 : Int) else 1) = 0 := by rw [hv]; rfl
  rw [e]
  have HV := Lib.hid hv
  have hn := vld_len hv
  clear e hv
  go_wp2_with fail
  go_loop [7] (fun i => ∃ k : Nat, k ≤ n ∧ i = .int .i64 ((k : Int) - 1) ∧ Hid (∀ j, k ≤ j → j < n → gr < (f j).c)) (fun i => (intOf i + 1).toNat)
  case atStart => exact ⟨n, Nat.le_refl _, rfl, fun j h1 h2 => by omega⟩
  case round =>
    obtain ⟨k, hk, rfl, HQ⟩ := hrel
    rcases Nat.eq_zero_or_pos k with hk0 | hk0
    · have F : Hid (ThP w n f gr (.returned (.tuple #[.int .i64 0, .int .i64 6])) w1) := ⟨0, 6, rfl, .inr ⟨HV.out, .inr ⟨rfl, rfl, fun j hj => HQ.out j (by omega) hj⟩⟩, B1.out⟩
      have hneg : (k : Int) - 1 < 0 := by omega
      clear HQ
      go_wp2
      go_ret2
      exact F.out
    · obtain ⟨j, rfl⟩ : ∃ j, k = j + 1 := ⟨k - 1, by omega⟩
      have ej : ((j + 1 : Nat) : Int) - 1 = (j : Int) := by omega
      rw [ej]
      rcases S1.out.row with h0 | ⟨b, off, rfl, hbl, hc⟩
      · omega
      obtain ⟨_, _, c2⟩ := hc j (by omega)
      have GO : Hid ((f j).c ≤ gr → ThP w n f gr (.returned (.tuple #[.int .i64 j, .int .i64 0])) w1) := fun hle => ⟨j, 0, rfl, .inr ⟨HV.out, .inl ⟨j, by omega, rfl, rfl, hle, fun i h1 h2 => HQ.out i (by omega) h2⟩⟩, B1.out⟩
      have NQ : Hid (gr < (f j).c → ∀ i, j ≤ i → i < n → gr < (f i).c) := fun hlt i h1 h2 => by
        rcases Nat.eq_or_lt_of_le h1 with h | h
        · subst h; exact hlt
        · exact HQ.out i h h2
      have hjn : j < n := by omega
      clear hc HQ
      generalize (f j).c = x at *
      by_cases hle : x ≤ gr
      · have F := Lib.hid (GO.out hle)
        clear GO NQ ej
        go_wp2
        go_ret2
        exact F.out
      · have NQ := Lib.hid (NQ.out (by omega))
        clear GO ej
        go_wp2
        go_round
        case rel => exact ⟨j, by omega, rfl, NQ.out⟩
        case measure => simp [intOf]

end Go.Proofs.Ytbblachhijpgeaa
