/- New. -/
import Derived.Test.YtmhianhaljphiaaDoorGpe
import Derived.Deep.LoopGhost
namespace Go.Proofs.YtmhianhaljphiaaDoor
open Go.RowKit

theorem new_bad (A : Option Addr) (n c : Nat) (w : World) (h : n < 1 ∨ 64 < n) (hn : n ≤ 9223372036854775807) : Calls Tryd.prog 9 #[.slice A n c] w (fun e w' => e = .returned (.tuple #[.pointer none, .int .i64 1]) ∧ w = w') := by
  by_cases h1 : n < 1
  · go_enter Tryd.func9, Tryd.ntmps9
    go_wp2
    go_ret2
    exact ⟨rfl, rfl⟩
  · have h2 : 64 < n := by omega
    go_enter Tryd.func9, Tryd.ntmps9
    go_wp2
    go_ret2
    exact ⟨rfl, rfl⟩
/-- A slice of bools in a world. -/
def Bls (w : World) (A : Option Addr) (n : Nat) (f : Nat → Bool) : Prop := n = 0 ∨ ∃ b off, A = some ⟨b, off, none⟩ ∧ b < w.heap.size ∧ ∀ i, i < n → w.cell? ⟨b, off + i, none⟩ = some (.bool (f i))
theorem Bls.below {w w' : World} {A : Option Addr} {n : Nat} {f : Nat → Bool} {B : Nat} (h : Bls w A n f) (hb : Below B w w') (hB : w.heap.size ≤ B) : Bls w' A n f := by
  rcases h with h0 | ⟨b, off, hA, hlt, hc⟩
  · exact .inl h0
  · exact .inr ⟨b, off, hA, Nat.lt_of_lt_of_le hlt hb.size, fun i hi => by rw [hb.cell (by show b < B; omega)]; exact hc i hi⟩
def NwP (w : World) (s : GpS) (e : Ending) (w' : World) : Prop := e = .returned (.tuple #[.pointer (some ⟨w.heap.size, 0, none⟩), .int .i64 0]) ∧ GpR w' w.heap.size s ∧ Below w.heap.size w w'
set_option maxHeartbeats 2000000 in
theorem new_any (A : Option Addr) (n c : Nat) (f : Nat → Bool) (w : World) (h : Bls w A n f) (h1 : 1 ≤ n) (h2 : n ≤ 64) : Calls Tryd.prog 9 #[.slice A n c] w (NwP w (new0 n (lvl f n))) := by
  rcases h with h0 | ⟨b, off, rfl, hb, hc⟩
  · omega
  have HC := Lib.hid hc
  have HB := Lib.hid hb
  clear hc hb
  have d1 : decide ((n : Int) < 1) = false := decide_eq_false (by omega)
  have d2 : decide (64 < (n : Int)) = false := decide_eq_false (by omega)
  go_enter Tryd.func9, Tryd.ntmps9
  go_wp2_with fail
  have S0 : Hid (GpR (w.alloc (.cells #[.int .i64 n, .int .u64 0, .int .u64 0, .int .u64 0, .int .u64 0, .int .u64 0, .int .u64 0] 49)) w.heap.size (new0 n (lvl f 0))) := by
    refine ⟨_, heap_alloc_new w _, rfl, fun i hi => ?_⟩
    rcases (show i = 0 ∨ i = 1 ∨ i = 2 ∨ i = 3 ∨ i = 4 ∨ i = 5 ∨ i = 6 by omega) with rfl | rfl | rfl | rfl | rfl | rfl | rfl <;> rfl
  have B0 : Hid (Below w.heap.size w (w.alloc (.cells #[.int .i64 n, .int .u64 0, .int .u64 0, .int .u64 0, .int .u64 0, .int .u64 0, .int .u64 0] 49))) := bal (Below.refl _ _) _
  go_loopg [21] n (fun g vi wr => ∃ k : Nat, k + g = n ∧ vi = .int .i64 k ∧ GpR wr w.heap.size (new0 n (lvl f k)) ∧ Below w.heap.size w wr)
  case atStart => exact ⟨0, by omega, rfl, S0.out, B0.out⟩
  case round =>
    clear S0 B0
    obtain ⟨k, hk, rfl, hR, hB⟩ := hrel
    by_cases hlt : k < n
    · obtain ⟨g, rfl⟩ : ∃ g, gk = g + 1 := ⟨gk - 1, by omega⟩
      have cc := (hB.cell (p := ⟨b, off + k, none⟩) HB.out).trans (HC.out k hlt)
      have cl : wr.cell? ⟨w.heap.size, 1, none⟩ = some (.int .u64 (u (lvl f k))) := (gr_lv hR :)
      have hz := hR.frozen 1
      have hL := hR.lt
      have N : Hid (∀ W : World, W.heap[w.heap.size]? = wr.heap[w.heap.size]? → Below w.heap.size w W → GpR (W.setCell ⟨w.heap.size, 1, none⟩ (.int .u64 (u (withB (lvl f k) (bitB k) (f k))))) w.heap.size (new0 n (lvl f (k + 1))) ∧ Below w.heap.size w (W.setCell ⟨w.heap.size, 1, none⟩ (.int .u64 (u (withB (lvl f k) (bitB k) (f k)))))) := fun W h1 h2 =>
        ⟨gw_lv (hR.of_block h1) _, h2.setCell (Nat.le_refl _) _⟩
      have N1 := Lib.hid (N.out (wr.drewN 1) rfl ⟨hB.os, hB.tape, hB.output, hB.size, hB.block⟩)
      clear hR hB N
      go_upto_region 7 with fail
      have hw : IntKind.u64.wrap (2 ^ k) = u (bitB k) := by have := bitB_shl k (by omega); rwa [Int.one_mul] at this
      generalize w.heap.size = L at *
      generalize lvl f k = lk at *
      generalize f k = fk at *
      go_still_tail 11, (by kernel_rfl)
      still_call ((with_any _ _ _ _).mono fun e w' h => ⟨h.1, h.2.symm⟩)
      repeat still_step
      refine wpStill_nil ?_
      clear hw
      go_wp2
      go_roundg g
      case rel => exact ⟨k + 1, by omega, by go_num, N1.out.1, N1.out.2⟩
      case measure => omega
    · have : k = n := by omega
      subst this
      have hR := Lib.hid hR
      have hB := Lib.hid hB
      go_wp2
      go_ret2
      exact ⟨rfl, hR.out, hB.out⟩
end Go.Proofs.YtmhianhaljphiaaDoor
