/- Actors: validActors, want, and the reference's. -/
import Derived.Test.YtbblachhijpgeaaBas
namespace Go.Proofs.Ytbblachhijpgeaa
open Go.RowKit

def okA (s : St) : Bool := decide (s.b ≤ s.c) && decide (s.c ≤ 4294967296)
def allTo (p : St → Bool) (f : Nat → St) : Nat → Bool
  | 0 => true
  | k + 1 => allTo p f k && p (f k)
theorem allTo_not {p : St → Bool} {f : Nat → St} {k n : Nat} (hk : k < n) (h : p (f k) = false) : allTo p f n = false := by
  induction n with
  | zero => omega
  | succ n ih =>
    show (allTo p f n && p (f n)) = false
    rcases Nat.lt_or_ge k n with h1 | h1
    · rw [ih h1]; rfl
    · have : k = n := by omega
      subst this
      rw [h, Bool.and_false]
theorem allTo_at {p : St → Bool} {f : Nat → St} {n : Nat} (h : allTo p f n = true) {k : Nat} (hk : k < n) : p (f k) = true := by
  cases e : p (f k) with
  | true => rfl
  | false => rw [allTo_not hk e] at h; cases h
def vA (n : Nat) (f : Nat → St) : Bool := decide (n ≤ 32) && allTo okA f n
theorem vA_len {n : Nat} {f : Nat → St} (h : vA n f = true) : n ≤ 32 := by
  simp [vA] at h; omega
theorem vA_at {n : Nat} {f : Nat → St} (h : vA n f = true) {k : Nat} (hk : k < n) : (f k).b ≤ (f k).c ∧ (f k).c ≤ 4294967296 := by
  simp only [vA, Bool.and_eq_true] at h
  have := allTo_at h.2 hk
  simp [okA] at this
  omega
theorem vA_long {n : Nat} {f : Nat → St} (h : 32 < n) : vA n f = false := by
  unfold vA; rw [decide_eq_false (by omega)]; rfl
theorem vA_bad {n k : Nat} {f : Nat → St} (hk : k < n) (h : okA (f k) = false) : vA n f = false := by
  unfold vA; rw [allTo_not hk h, Bool.and_false]
def BPost (w : World) (b : Bool) (e : Ending) (w' : World) : Prop := e = .returned (.bool b) ∧ Below w.heap.size w w'
set_option maxRecDepth 100000 in
set_option maxHeartbeats 2000000 in
theorem va_any (A : Option Addr) (n c : Nat) (f : Nat → St) (w : World) (h : SlS .u64 w A n f) : Calls Try.prog 32 #[.slice A n c] w (BPost w (vA n f)) := by
  have hl := h.len
  by_cases hn : 32 < n
  · have E : Hid (vA n f = false) := vA_long hn
    clear h
    go_enter Try.func32, Try.ntmps32
    go_wp2
    go_ret
    exact ⟨by rw [E.out]; rfl, Below.refl _ _⟩
  · have H := Lib.hid h
    clear h
    go_enter Try.func32, Try.ntmps32
    go_wp2
    go_loopw [10] (fun i wr => ∃ k : Nat, k ≤ n ∧ i = .int .i64 k ∧ Below w.heap.size w wr ∧ Hid (allTo okA f k = true)) (fun i _ => n - (intOf i).toNat)
    case atStart => exact ⟨0, Nat.zero_le _, rfl, Below.refl _ _, rfl⟩
    case round =>
      obtain ⟨k, hk, rfl, hB, HO⟩ := hrel
      by_cases hlt : k < n
      · rcases H.out.row with h0 | ⟨b, off, rfl, hb, hc⟩
        · omega
        obtain ⟨c0, c1, c2⟩ := hc k hlt
        rw [← hB.cell hb] at c0 c1 c2
        have BAD : Hid (okA (f k) = false → vA n f = false) := vA_bad hlt
        have NX : Hid (allTo okA f (k + 1) = (allTo okA f k && okA (f k))) := rfl
        clear hc
        generalize f k = s at *
        obtain ⟨x, y, z⟩ := s
        simp only at c0 c1 c2
        have OK : Hid (okA ⟨x, y, z⟩ = (decide (y ≤ z) && decide (z ≤ 4294967296))) := rfl
        have HB := Lib.hid (bal hB (Obj.cells #[.int .u64 x, .int .u64 y, .int .u64 z] 77))
        clear hB
        by_cases h1 : z < y
        · go_wp2
          go_ret
          exact ⟨by rw [BAD.out (by rw [OK.out, decide_eq_false (by omega)]; rfl)]; rfl, HB.out⟩
        by_cases h2 : 4294967296 < z
        · go_wp2
          go_ret
          exact ⟨by rw [BAD.out (by rw [OK.out, decide_eq_false (p := z ≤ 4294967296) (by omega), Bool.and_false])]; rfl, HB.out⟩
        go_wp2
        go_roundw
        case rel => exact ⟨k + 1, by omega, by go_num, HB.out, by show _ = _; rw [NX.out, HO.out, OK.out, decide_eq_true (show y ≤ z by omega), decide_eq_true (show z ≤ 4294967296 by omega)]; rfl⟩
        case measure => simp [intOf]; omega
      · have hkn : k = n := by omega
        have E : Hid (vA n f = true) := by
          show _ = _
          rw [← hkn]
          unfold vA
          rw [HO.out, decide_eq_true (by omega)]
          rfl
        have HB := Lib.hid hB
        clear hB hkn
        go_wp2
        go_ret
        exact ⟨by rw [E.out]; rfl, HB.out⟩
def wantI (x y z : Int) : Int := min (max x y) z
def IPost (w : World) (x : Int) (e : Ending) (w' : World) : Prop := e = .returned (.int .u64 x) ∧ Below w.heap.size w w'
theorem want_any (x y z : Int) (w : World) : Calls Try.prog 36 #[.agg #[.int .u64 x, .int .u64 y, .int .u64 z]] w (IPost w (wantI x y z)) := by
  by_cases h1 : x < y
  · by_cases h2 : ¬ z < y
    · have E : Hid (wantI x y z = y) := by show _ = _; unfold wantI; omega
      generalize wantI x y z = q at *
      go_enter Try.func36, Try.ntmps36
      go_wp2
      go_ret
      exact ⟨by rw [E.out]; rfl, bal (Below.refl _ _) _⟩
    · have E : Hid (wantI x y z = z) := by show _ = _; unfold wantI; omega
      generalize wantI x y z = q at *
      go_enter Try.func36, Try.ntmps36
      go_wp2
      go_ret
      exact ⟨by rw [E.out]; rfl, bal (Below.refl _ _) _⟩
  · by_cases h2 : ¬ z < x
    · have E : Hid (wantI x y z = x) := by show _ = _; unfold wantI; omega
      generalize wantI x y z = q at *
      go_enter Try.func36, Try.ntmps36
      go_wp2
      go_ret
      exact ⟨by rw [E.out]; rfl, bal (Below.refl _ _) _⟩
    · have E : Hid (wantI x y z = z) := by show _ = _; unfold wantI; omega
      generalize wantI x y z = q at *
      go_enter Try.func36, Try.ntmps36
      go_wp2
      go_ret
      exact ⟨by rw [E.out]; rfl, bal (Below.refl _ _) _⟩
end Go.Proofs.Ytbblachhijpgeaa
