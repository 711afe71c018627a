/- The law that the program's Energy returns what the reference's does: its walk. -/
import Derived.Test.YtfbgkdjjfjlhhaaRef
import Derived.Test.YtfbgkdjjfjlhhaaBrk
namespace Go.Proofs.Ytfbgkdjjfjlhhaa
open Go.RowKit

def evv (n : Nat) (f : Nat → St) (s d : Int) : Int := if engOk n f s d then eng f s.toNat d else 0
def eve (n : Nat) (f : Nat → St) (s d : Int) : Int := if engOk n f s d then 0 else 1
def EvPost (w : World) (n : Nat) (f : Nat → St) (s d : Int) (e : Ending) (w' : World) : Prop :=
  e = .returned (.tuple #[.int .u64 (evv n f s d), .int .i64 (eve n f s d)]) ∧ Below w.heap.size w w'
theorem eng_ev (A : Option Addr) (n c : Nat) (f : Nat → St) (s d : Int) (w : World) (h : SlS w A n f) (hd0 : 0 ≤ d) : Calls Try.prog 20 #[.slice A n c, .int .i64 s, .int .u64 d] w (EvPost w n f s d) := eng_any A n c f s d w h hd0
theorem reng_ev (A : Option Addr) (n c : Nat) (f : Nat → St) (s d : Int) (w : World) (h : SlS w A n f) (hd0 : 0 ≤ d) : Calls Try.prog 21 #[.slice A n c, .int .i64 s, .int .u64 d] w (EvPost w n f s d) := reng_any A n c f s d w h hd0

set_option maxRecDepth 100000 in
set_option maxHeartbeats 2000000 in
theorem eag_walk (A : Option Addr) (m c : Nat) (g : Nat → St) (s d : Int) (w : World) (h : SlS w A m g) (hs : (Lit.int .i64 s).wf = true) (hd : (Lit.int .u64 d).wf = true) :
    Calls Try.prog 4 #[.slice A m c, .int .i64 s, .int .u64 d] w (LawPost w) := by
  have hm := h.len
  have hd := (u64_of_wf hd).1
  by_cases h20 : 20 < m
  · go_enter Try.func4, Try.ntmps4
    go_wp2_with fail
    refine (awake_any _).mono ?_
    rintro e w1 ⟨rfl, hb1⟩
    go_wp2
    go_ret
    exact ⟨rfl, hb1⟩
  · have ST := sta_any A m c g w h
    obtain ⟨hn1, hn7, -, -⟩ := stN_bd m
    have d2 : 0 ≤ d % 2000 := by omega
    go_enter Try.func4, Try.ntmps4
    go_wp2_with fail
    refine ST.mono ?_
    rintro e w1 ⟨G, rfl, hG, hS, B1⟩
    clear ST
    have H1 := h.below B1 (Nat.le_refl _)
    generalize stF m g = f at *
    generalize stN m = n at *
    have C := mod_any s n (by omega) (by omega) w1
    go_wp2_with fail
    refine C.mono ?_
    rintro e w2 ⟨rfl, rfl⟩
    clear C
    generalize modOf s n = k at *
    go_wp2_with fail
    refine (eng_ev _ _ _ _ _ _ _ H1 hd).mono ?_
    rintro e w2 ⟨rfl, hb2⟩
    have S2 := hS.below hb2 (Nat.le_refl _)
    have H2 := H1.below hb2 (Nat.le_refl _)
    have B2 := bel2 B1 hb2
    clear hS H1 B1 hb2
    go_wp2_with fail
    refine (reng_ev _ _ _ _ _ _ _ H2 hd).mono ?_
    rintro e w3 ⟨rfl, hb3⟩
    have S3 := S2.below hb3 (Nat.le_refl _)
    have B3 := bel2 B2 hb3
    clear S2 H2 B2 hb3
    go_wp2_with fail
    refine (eng_ev _ _ _ _ _ _ _ S3 d2).mono ?_
    rintro e w4 ⟨rfl, hb4⟩
    have S4 := S3.below hb4 (Nat.le_refl _)
    have B4 := bel2 B3 hb4
    clear S3 B3 hb4
    go_wp2_with fail
    refine (reng_ev _ _ _ _ _ _ _ S4 d2).mono ?_
    rintro e w5 ⟨rfl, hb5⟩
    have S5 := S4.below hb5 (Nat.le_refl _)
    have B5 := bel2 B4 hb5
    clear S4 B4 hb5
    go_wp2_with fail
    refine (eng_ev _ _ _ _ _ _ _ S5 hd).mono ?_
    rintro e w6 ⟨rfl, hb6⟩
    have S6 := S5.below hb6 (Nat.le_refl _)
    have B6 := bel2 B5 hb6
    clear S5 B5 hb6
    go_wp2_with fail
    refine (reng_ev _ _ _ _ _ _ _ S6 hd).mono ?_
    rintro e w7 ⟨rfl, hb7⟩
    have B7 := bel2 B6 hb7
    clear S6 B6 hb7
    go_wp2_with fail
    refine (awake_any _).mono ?_
    rintro e z ⟨rfl, hz⟩
    go_wp2
    go_ret
    exact ⟨rfl, bel2 B7 hz⟩
end Go.Proofs.Ytfbgkdjjfjlhhaa
