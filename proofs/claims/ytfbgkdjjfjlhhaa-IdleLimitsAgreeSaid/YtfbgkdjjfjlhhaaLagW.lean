/- The law that the set of requests answers as the reference's does: all lengths. -/
import Derived.Test.YtfbgkdjjfjlhhaaLag
namespace Go.Proofs.Ytfbgkdjjfjlhhaa
open Go.RowKit
set_option maxRecDepth 100000 in
set_option maxHeartbeats 2000000 in
theorem lag_long (A : Option Addr) (n c : Nat) (w : World) (hn : n ≤ 9223372036854775807) (h60 : 60 < n) :
    Calls Try.prog 8 #[.slice A n c] w (LawPost w) := by
  go_enter Try.func8, Try.ntmps8
  go_wp2_with fail
  refine (awake_any _).mono ?_
  rintro e w1 ⟨rfl, hb1⟩
  go_wp2
  go_ret
  exact ⟨rfl, hb1⟩
set_option maxRecDepth 100000 in
set_option maxHeartbeats 2000000 in
theorem lag_zero (A : Option Addr) (c : Nat) (w : World) : Calls Try.prog 8 #[.slice A 0 c] w (LawPost w) := by
  go_enter Try.func8, Try.ntmps8
  go_wp2_with fail
  refine (new_any w).mono ?_
  rintro e w1 ⟨rfl, RA, hb1⟩
  go_wp2_with fail
  refine (rnew_any w1).mono ?_
  rintro e w2 ⟨rfl, RB, hb2⟩
  have B2 := Lib.hid (bel2 hb1 hb2)
  clear hb1 hb2 RA RB
  go_wp2_with fail
  go_loopw [5] (fun i wr => i = .int .i64 0 ∧ wr = w2) (fun i _ => (intOf i).toNat)
  case atStart => exact ⟨rfl, rfl⟩
  case round =>
    obtain ⟨rfl, rfl⟩ := hrel
    go_wp2_with fail
    refine (awake_any _).mono ?_
    rintro e w3 ⟨rfl, hb3⟩
    go_wp2
    go_ret
    exact ⟨rfl, bel2 B2.out hb3⟩
theorem lag_walk (A : Option Addr) (n c : Nat) (f : Nat → Rq) (w : World) (h : Rqs w A n f) : Calls Try.prog 8 #[.slice A n c] w (LawPost w) := by
  rcases Nat.lt_or_ge 60 n with h1 | h1
  · exact lag_long A n c w h.len h1
  · rcases Nat.eq_zero_or_pos n with h0 | h0
    · subst h0; exact lag_zero A c w
    · rcases h.row with h2 | ⟨b, off, rfl, hlt, hc⟩
      · omega
      · exact lag_pos b off n c f w h0 h1 hlt hc
end Go.Proofs.Ytfbgkdjjfjlhhaa
