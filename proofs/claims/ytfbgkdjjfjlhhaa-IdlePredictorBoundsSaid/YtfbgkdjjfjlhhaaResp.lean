/- The law on the limits that a selected state respects: its walk. -/
import Derived.Test.YtfbgkdjjfjlhhaaSta
import Derived.Test.YtfbgkdjjfjlhhaaAwk
import Derived.Test.YtfbgkdjjfjlhhaaOpen
namespace Go.Proofs.Ytfbgkdjjfjlhhaa
open Go.RowKit

theorem selTo_ok (f : Nat → St) (x l : Int) (h0 : (f 0).l ≤ l) (h1 : (f 0).r ≤ x) (n : Nat) (hn : 1 ≤ n) :
    selTo f x l n < n ∧ (f (selTo f x l n)).l ≤ l ∧ (f (selTo f x l n)).r ≤ x ∧ ∀ i, selTo f x l n < i → i < n → ¬ ((f i).l ≤ l ∧ (f i).r ≤ x) := by
  induction n with
  | zero => omega
  | succ n ih =>
    by_cases hc : (f n).l ≤ l ∧ (f n).r ≤ x
    · have e : selTo f x l (n + 1) = n := by simp [selTo, hc]
      rw [e]
      exact ⟨by omega, hc.1, hc.2, fun i _ _ => by omega⟩
    · have e : selTo f x l (n + 1) = selTo f x l n := by simp only [selTo, if_neg hc]
      rw [e]
      rcases Nat.eq_zero_or_pos n with hz | hp
      · subst hz; exact absurd ⟨h0, h1⟩ hc
      · obtain ⟨a, b, c, d⟩ := ih hp
        refine ⟨by omega, b, c, fun i hi hin => ?_⟩
        rcases Nat.lt_or_ge i n with h | h
        · exact d i hi h
        · have : i = n := by omega
          subst this; exact hc

theorem SlS.cells {w : World} {G n : Nat} {f : Nat → St} (h : SlS w (some ⟨G, 0, none⟩) n f) {i : Nat} (hi : i < n) :
    w.cell? ⟨G, i * 3, none⟩ = some (.int .u64 (f i).l) ∧ w.cell? ⟨G, i * 3 + 1, none⟩ = some (.int .u64 (f i).r) ∧ w.cell? ⟨G, i * 3 + 2, none⟩ = some (.int .u64 (f i).p) := by
  rcases h.row with h0 | ⟨b, off, hA, _, hc⟩
  · omega
  · injection hA with hA
    injection hA with h1 h2
    subst h1 h2
    have := hc i hi
    simpa using this
theorem SlS.lt {w : World} {G n : Nat} {f : Nat → St} (h : SlS w (some ⟨G, 0, none⟩) n f) (hn : 1 ≤ n) : G < w.heap.size := by
  rcases h.row with h0 | ⟨b, off, hA, hb, _⟩
  · omega
  · injection hA with hA
    injection hA with h1 h2
    subst h1; exact hb

def LawPost (w : World) (e : Ending) (w' : World) : Prop := e = .returned (.bool true) ∧ Below w.heap.size w w'

set_option maxRecDepth 100000 in
set_option maxHeartbeats 2000000 in
theorem resp_walk (A : Option Addr) (m c : Nat) (g : Nat → St) (x l : Int) (w : World) (h : SlS w A m g) (hx : 0 ≤ x) (hl : 0 ≤ l) :
    Calls Try.prog 5 #[.slice A m c, .int .u64 x, .int .u64 l] w (LawPost w) := by
  have hm := h.len
  by_cases h20 : 20 < m
  · go_enter Try.func5, Try.ntmps5
    go_wp2_with fail
    refine (awake_any _).mono ?_
    rintro e w1 ⟨rfl, hb1⟩
    go_wp2
    go_ret
    exact ⟨rfl, hb1⟩
  · have ST := sta_any A m c g w h
    obtain ⟨hn1, hn7, -, -⟩ := stN_bd m
    have V := Lib.hid (stF_vld m g)
    go_enter Try.func5, Try.ntmps5
    go_wp2_with fail
    refine ST.mono ?_
    rintro e w1 ⟨G, rfl, hG, hS, hb1⟩
    clear ST
    generalize stF m g = f at *
    generalize stN m = n at *
    obtain ⟨-, -, f0, f1⟩ := vld_len V.out
    have K := selTo_ok f (x % 1500) (l % 300) (by omega) (by omega) n hn1
    go_wp2_with fail
    refine (sel_any _ n n f (x % 1500) (l % 300) w1 hS).mono ?_
    rintro e w2 ⟨rfl, hb2⟩
    rw [V.out]
    generalize selTo f (x % 1500) (l % 300) n = k at *
    obtain ⟨k0, k1, k2, k3⟩ := K
    have K3 := Lib.hid k3; clear k3
    have F0 := Lib.hid f0; clear f0
    have F1 := Lib.hid f1; clear f1
    have S2 := hS.below hb2 (Nat.le_refl _)
    have hGw := S2.lt hn1
    have B2 := Lib.hid (hb1.trans (hb2.mono hb1.size))
    obtain ⟨c0, c1, -⟩ := S2.cells k0
    clear hS hb1 hb2
    go_wp2
    go_loopw [12] (fun i wr => ∃ j : Nat, k + 1 ≤ j ∧ j ≤ n ∧ i = .int .i64 j ∧ wr = w2) (fun i _ => n - (intOf i).toNat)
    case atStart => exact ⟨k + 1, Nat.le_refl _, by omega, by go_num, rfl⟩
    case round =>
      obtain ⟨j, j0, j1, rfl, rfl⟩ := hrel
      by_cases hlt : j < n
      · obtain ⟨d0, d1, -⟩ := S2.cells hlt
        have hn := K3.out j (by omega) hlt
        by_cases a1 : (f j).l ≤ l % 300
        · have a2 : ¬ (f j).r ≤ x % 1500 := fun h => hn ⟨a1, h⟩
          clear hn
          go_wp2
          go_roundw
          case rel => exact ⟨j + 1, by omega, by omega, by go_num, by first | rfl | trivial⟩
          case measure => simp [intOf]; omega
        · clear hn
          go_wp2
          go_roundw
          case rel => exact ⟨j + 1, by omega, by omega, by go_num, by first | rfl | trivial⟩
          case measure => simp [intOf]; omega
      · go_wp2_with fail
        refine (awake_any _).mono ?_
        rintro e w3 ⟨rfl, hb3⟩
        go_wp2
        go_ret
        exact ⟨rfl, B2.out.trans (hb3.mono B2.out.size)⟩
theorem resp_wf (A : Option Addr) (m c : Nat) (g : Nat → St) (x l : Int) (w : World) (h : SlS w A m g) (hx : (Lit.int .u64 x).wf = true) (hl : (Lit.int .u64 l).wf = true) :
    Calls Try.prog 5 #[.slice A m c, .int .u64 x, .int .u64 l] w (LawPost w) := resp_walk A m c g x l w h (u64_of_wf hx).1 (u64_of_wf hl).1
end Go.Proofs.Ytfbgkdjjfjlhhaa
