/- idle.Select returns the last permitted state of a valid list. -/
import Derived.Test.YtfbgkdjjfjlhhaaChk
namespace Go.Proofs.Ytfbgkdjjfjlhhaa
open Go.RowKit

/-- A slice of states in a world: nil or empty, or a row of cells. -/
structure SlS (w : World) (A : Option Addr) (n : Nat) (f : Nat → St) : Prop where
  len : n ≤ 9223372036854775807
  row : n = 0 ∨ ∃ b off, A = some ⟨b, off, none⟩ ∧ b < w.heap.size ∧ Sts w b off n f
  wf : ∀ i, i < n → U64 (f i).l ∧ U64 (f i).r ∧ U64 (f i).p

theorem SlS.below {w w' : World} {A : Option Addr} {n : Nat} {f : Nat → St} {B : Nat} (h : SlS w A n f) (hb : Below B w w') (hB : w.heap.size ≤ B) : SlS w' A n f := by
  refine ⟨h.len, ?_, h.wf⟩
  rcases h.row with h0 | ⟨b, off, hA, hlt, hc⟩
  · exact .inl h0
  · refine .inr ⟨b, off, hA, Nat.lt_of_lt_of_le hlt hb.size, fun i hi => ?_⟩
    obtain ⟨c0, c1, c2⟩ := hc i hi
    rw [← hb.cell (by show b < B; omega)] at c0 c1 c2
    exact ⟨c0, c1, c2⟩

theorem chk_any (A : Option Addr) (n c : Nat) (f : Nat → St) (w : World) (h : SlS w A n f) : Calls Try.prog 18 #[.slice A n c] w (ChkPost w n f) := by
  rcases Nat.eq_zero_or_pos n with h0 | h0
  · subst h0; exact chk_none A c f w
  rcases Nat.lt_or_ge 10 n with h1 | h1
  · exact chk_long A n c f w h1 h.len
  · rcases h.row with h2 | ⟨b, off, rfl, hlt, hc⟩
    · omega
    · exact chk_mid b off n c f w h0 h1 hlt hc

def selTo (f : Nat → St) (e l : Int) : Nat → Nat
  | 0 => 0
  | k + 1 => if (f k).l ≤ l ∧ (f k).r ≤ e then k else selTo f e l k
theorem selTo_le (f : Nat → St) (e l : Int) (n : Nat) : selTo f e l n ≤ n := by
  induction n with
  | zero => simp [selTo]
  | succ n ih => simp only [selTo]; split <;> omega

def SelPost (w : World) (n : Nat) (f : Nat → St) (x l : Int) (e : Ending) (w' : World) : Prop :=
  e = .returned (.tuple #[.int .i64 (if vld n f then (selTo f x l n : Nat) else 0), .int .i64 (if vld n f then 0 else 1)]) ∧ Below w.heap.size w w'

theorem sel_bad (A : Option Addr) (n c : Nat) (f : Nat → St) (x l : Int) (w : World) (h : SlS w A n f) (hv : vld n f = false) :
    Calls Try.prog 16 #[.slice A n c, .int .u64 x, .int .u64 l] w (SelPost w n f x l) := by
  have C := chk_any A n c f w h
  have HV := Lib.hid hv; clear hv
  go_enter Try.func16, Try.ntmps16
  go_wp2_with fail
  refine C.mono ?_
  rintro e w' ⟨rfl, hb⟩
  rw [HV.out]
  go_wp2
  go_ret2
  exact ⟨by rw [HV.out]; rfl, hb⟩
set_option maxRecDepth 100000 in
set_option maxHeartbeats 1000000 in
theorem sel_good (b off n c : Nat) (f : Nat → St) (x l : Int) (w : World) (h : SlS w (some ⟨b, off, none⟩) n f) (hb : b < w.heap.size) (hc : Sts w b off n f) (hv : vld n f = true) :
    Calls Try.prog 16 #[.slice (some ⟨b, off, none⟩) n c, .int .u64 x, .int .u64 l] w (SelPost w n f x l) := by
  have C := chk_any _ n c f w h
  have hn : n ≤ 10 := by simp [vld] at hv; omega
  have HV := Lib.hid hv; clear hv
  go_enter Try.func16, Try.ntmps16
  go_wp2_with fail
  refine C.mono ?_
  rintro e w0 ⟨rfl, hb0⟩
  rw [HV.out]
  go_wp2
  go_loopw [9, 19] (fun s i wr => ∃ k : Nat, k ≤ n ∧ i = .int .i64 k ∧ Below w.heap.size w wr ∧ s = .int .i64 (selTo f x l k : Nat)) (fun _ i _ => n - (intOf i).toNat)
  case atStart => exact ⟨0, Nat.zero_le _, rfl, hb0, rfl⟩
  case round =>
    obtain ⟨k, hk, rfl, hbel, rfl⟩ := hrel
    by_cases hlt : k < n
    · obtain ⟨d0, d1, d2⟩ := hc k hlt
      rw [← hbel.cell hb] at d0 d1 d2
      by_cases a1 : (f k).l ≤ l
      · by_cases a2 : (f k).r ≤ x
        · have E : Hid (selTo f x l (k + 1) = k) := by show _ = _; simp [selTo, a1, a2]
          go_wp2
          go_roundw
          case rel => exact ⟨k + 1, by omega, by go_num, hbel.alloc hbel.size _, by rw [E.out]⟩
          case measure => simp [intOf]; omega
        · have E : Hid (selTo f x l (k + 1) = selTo f x l k) := by show _ = _; simp [selTo, a2]
          go_wp2
          go_roundw
          case rel => exact ⟨k + 1, by omega, by go_num, hbel.alloc hbel.size _, by rw [E.out]⟩
          case measure => simp [intOf]; omega
      · have E : Hid (selTo f x l (k + 1) = selTo f x l k) := by show _ = _; simp [selTo, a1]
        go_wp2
        go_roundw
        case rel => exact ⟨k + 1, by omega, by go_num, hbel.alloc hbel.size _, by rw [E.out]⟩
        case measure => simp [intOf]; omega
    · have : k = n := by omega
      subst this
      go_wp2
      go_ret2
      exact ⟨by rw [HV.out]; rfl, hbel⟩
theorem sel_any (A : Option Addr) (n c : Nat) (f : Nat → St) (x l : Int) (w : World) (h : SlS w A n f) : Calls Try.prog 16 #[.slice A n c, .int .u64 x, .int .u64 l] w (SelPost w n f x l) := by
  cases hv : vld n f
  · exact sel_bad A n c f x l w h hv
  · rcases h.row with h0 | ⟨b, off, rfl, hlt, hc⟩
    · subst h0; simp [vld] at hv
    · exact sel_good b off n c f x l w h hlt hc hv
end Go.Proofs.Ytfbgkdjjfjlhhaa
