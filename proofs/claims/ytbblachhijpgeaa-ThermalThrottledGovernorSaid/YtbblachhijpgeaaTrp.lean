/- Trip points: CheckTrips and the reference's. -/
import Derived.Test.YtbblachhijpgeaaEql
namespace Go.Proofs.Ytbblachhijpgeaa
open Go.RowKit

def okT (s : St) : Bool := decide (1 ≤ s.a ∧ s.a ≤ 3 ∧ -67108864 ≤ s.b ∧ s.b ≤ 67108864 ∧ 0 ≤ s.c ∧ s.c ≤ 16777216)
def vT (n : Nat) (f : Nat → St) : Bool := decide (n ≤ 12) && allTo okT f n
theorem vT_len {n : Nat} {f : Nat → St} (h : vT n f = true) : n ≤ 12 := by
  simp [vT] at h; omega
theorem vT_at {n : Nat} {f : Nat → St} (h : vT n f = true) {k : Nat} (hk : k < n) : 1 ≤ (f k).a ∧ (f k).a ≤ 3 ∧ -67108864 ≤ (f k).b ∧ (f k).b ≤ 67108864 ∧ 0 ≤ (f k).c ∧ (f k).c ≤ 16777216 := by
  simp only [vT, Bool.and_eq_true] at h
  have := allTo_at h.2 hk
  simpa [okT] using this
theorem vT_long {n : Nat} {f : Nat → St} (h : 12 < n) : vT n f = false := by
  unfold vT; rw [decide_eq_false (by omega)]; rfl
theorem vT_bad {n k : Nat} {f : Nat → St} (hk : k < n) (h : okT (f k) = false) : vT n f = false := by
  unfold vT; rw [allTo_not hk h, Bool.and_false]
theorem allTo_of {p : St → Bool} {f : Nat → St} {n : Nat} (h : ∀ k, k < n → p (f k) = true) : allTo p f n = true := by
  induction n with
  | zero => rfl
  | succ n ih =>
    show (allTo p f n && p (f n)) = true
    rw [ih (fun k hk => h k (by omega)), h n (by omega)]
    rfl
def cod (b : Bool) : Int := if b then 0 else 1
def CPost (w : World) (n : Nat) (f : Nat → St) (e : Ending) (w' : World) : Prop := e = .returned (.int .i64 (cod (vT n f))) ∧ Below w.heap.size w w'

set_option maxRecDepth 100000 in
set_option maxHeartbeats 4000000 in
theorem chk_any (A : Option Addr) (n c : Nat) (f : Nat → St) (w : World) (h : SlS .i64 w A n f) : Calls Try.prog 25 #[.slice A n c] w (CPost w n f) := by
  have hl := h.len
  by_cases hn : 12 < n
  · have E : Hid (vT n f = false) := vT_long hn
    clear h
    go_enter Try.func25, Try.ntmps25
    go_wp2
    go_ret
    exact ⟨by rw [E.out]; rfl, Below.refl _ _⟩
  · have H := Lib.hid h
    clear h
    go_enter Try.func25, Try.ntmps25
    go_wp2
    go_loopw [10] (fun i wr => ∃ k : Nat, k ≤ n ∧ i = .int .i64 k ∧ Below w.heap.size w wr ∧ Hid (allTo okT f k = true)) (fun i _ => n - (intOf i).toNat)
    case atStart => exact ⟨0, Nat.zero_le _, rfl, Below.refl _ _, rfl⟩
    case round =>
      obtain ⟨k, hk, rfl, hB, HO⟩ := hrel
      by_cases hlt : k < n
      · rcases H.out.row with h0 | ⟨b, off, rfl, hb, hc⟩
        · omega
        obtain ⟨c0, c1, c2⟩ := hc k hlt
        rw [← hB.cell hb] at c0 c1 c2
        have BAD : Hid (okT (f k) = false → vT n f = false) := vT_bad hlt
        have NX : Hid (allTo okT f (k + 1) = (allTo okT f k && okT (f k))) := rfl
        clear hc
        generalize f k = s at *
        obtain ⟨s0, s1, s2⟩ := s
        simp only at c0 c1 c2
        have OK : Hid (okT ⟨s0, s1, s2⟩ = decide (1 ≤ s0 ∧ s0 ≤ 3 ∧ -67108864 ≤ s1 ∧ s1 ≤ 67108864 ∧ 0 ≤ s2 ∧ s2 ≤ 16777216)) := rfl
        have HB := Lib.hid (bal hB (Obj.cells #[.int .i64 s0, .int .i64 s1, .int .i64 s2] 48))
        clear hB
        by_cases h0 : s0 < 1
        · go_wp2
          go_ret
          exact ⟨by rw [BAD.out (by rw [OK.out]; simp; omega)]; rfl, HB.out⟩
        by_cases h1 : 3 < s0
        · go_wp2
          go_ret
          exact ⟨by rw [BAD.out (by rw [OK.out]; simp; omega)]; rfl, HB.out⟩
        by_cases h2 : s1 < -67108864
        · go_wp2
          go_ret
          exact ⟨by rw [BAD.out (by rw [OK.out]; simp; omega)]; rfl, HB.out⟩
        by_cases h3 : 67108864 < s1
        · go_wp2
          go_ret
          exact ⟨by rw [BAD.out (by rw [OK.out]; simp; omega)]; rfl, HB.out⟩
        by_cases h4 : s2 < 0
        · go_wp2
          go_ret
          exact ⟨by rw [BAD.out (by rw [OK.out]; simp; omega)]; rfl, HB.out⟩
        by_cases h5 : 16777216 < s2
        · go_wp2
          go_ret
          exact ⟨by rw [BAD.out (by rw [OK.out]; simp; omega)]; rfl, HB.out⟩
        go_wp2
        go_roundw
        case rel => exact ⟨k + 1, by omega, by go_num, HB.out, by show _ = _; rw [NX.out, HO.out, OK.out, decide_eq_true (by omega)]; rfl⟩
        case measure => simp [intOf]; omega
      · have hkn : k = n := by omega
        have E : Hid (vT n f = true) := by
          show _ = _
          rw [← hkn]
          unfold vT
          rw [HO.out, decide_eq_true (by omega)]
          rfl
        have HB := Lib.hid hB
        clear hB hkn
        go_wp2
        go_ret
        exact ⟨by rw [E.out]; rfl, HB.out⟩

end Go.Proofs.Ytbblachhijpgeaa
