/- The law on neighbours that break even: its walk. -/
import Derived.Test.YtfbgkdjjfjlhhaaMin
namespace Go.Proofs.Ytfbgkdjjfjlhhaa
open Go.RowKit

theorem brk_eq (f : Nat → St) (i : Nat) : eng f i (f (i + 1)).r = eng f (i + 1) (f (i + 1)).r := by rw [eng_step]; simp
theorem brk_lt {n : Nat} {f : Nat → St} (hv : vld n f = true) (i : Nat) (hi : i + 1 < n) (d : Int) (hd : d < (f (i + 1)).r) : eng f i d < eng f (i + 1) d := by
  have st := vld_step hv hi
  rw [eng_step]
  have : 0 < ((f i).p - (f (i + 1)).p) * ((f (i + 1)).r - d) := Int.mul_pos (by omega) (by omega)
  omega
theorem brk_gt {n : Nat} {f : Nat → St} (hv : vld n f = true) (i : Nat) (hi : i + 1 < n) (d : Int) (hd : (f (i + 1)).r < d) : eng f (i + 1) d < eng f i d := by
  have st := vld_step hv hi
  rw [eng_step]
  have : ((f i).p - (f (i + 1)).p) * ((f (i + 1)).r - d) < 0 := Int.mul_neg_of_pos_of_neg (by omega) (by omega)
  omega
/-- help.Mod at a positive modulus. -/
def modOf (v : Int) (n : Nat) : Nat := (wrap64 ((IntKind.u64.wrap v).tmod n)).toNat
theorem modOf_spec (v : Int) (n : Nat) (hn : 1 ≤ n) (hn2 : n ≤ 1000000) : wrap64 ((IntKind.u64.wrap v).tmod n) = (modOf v n : Nat) ∧ modOf v n < n := by
  have h0 : 0 ≤ IntKind.u64.wrap v := by rw [IntKind.wrap_u64]; omega
  have h1 : (IntKind.u64.wrap v).tmod n = (IntKind.u64.wrap v) % n := Int.tmod_eq_emod_of_nonneg h0
  have h2 : 0 ≤ (IntKind.u64.wrap v) % n := Int.emod_nonneg _ (by omega)
  have h3 : (IntKind.u64.wrap v) % n < n := Int.emod_lt_of_pos _ (by omega)
  have h4 : wrap64 ((IntKind.u64.wrap v).tmod n) = (IntKind.u64.wrap v) % n := by rw [h1]; exact IntWalk.wrap64_in _ (by omega)
  unfold modOf
  rw [h4]
  omega
theorem mod_any (v : Int) (n : Nat) (hn : 1 ≤ n) (hn2 : n ≤ 1000000) (w : World) : Calls Try.prog 15 #[.int .i64 v, .int .i64 n] w fun e w' => e = .returned (.int .i64 (modOf v n : Nat)) ∧ w = w' := by
  have E := Lib.hid (modOf_spec v n hn hn2)
  go_enter Try.func15, Try.ntmps15
  go_wp2
  go_ret
  exact ⟨congrArg (fun x => Ending.returned (.int .i64 x)) E.out.1, rfl⟩

theorem eng_int {w : World} {G n : Nat} {f : Nat → St} (c : Nat) (s : Int) (k : Nat) (d : Int) (hs : s = k) (h : SlS w (some ⟨G, 0, none⟩) n f) (hv : vld n f = true) (hk : k < n) (hd0 : 0 ≤ d) (hd : d ≤ 1099511627776) :
    Calls Try.prog 20 #[.slice (some ⟨G, 0, none⟩) n c, .int .i64 s, .int .u64 d] w fun e w' => e = .returned (.tuple #[.int .u64 (eng f k d), .int .i64 0]) ∧ Below w.heap.size w w' := by
  subst hs; exact eng_yes c k d h hv hk hd0 hd
theorem bel2 {w a b : World} (h : Below w.heap.size w a) (k : Below a.heap.size a b) : Below w.heap.size w b := h.trans (k.mono h.size)

set_option maxRecDepth 100000 in
set_option maxHeartbeats 2000000 in
theorem brk_walk (A : Option Addr) (m c : Nat) (g : Nat → St) (kk d : Int) (w : World) (h : SlS w A m g) (_hkk : (Lit.int .i64 kk).wf = true) (hd : (Lit.int .u64 d).wf = true) :
    Calls Try.prog 7 #[.slice A m c, .int .i64 kk, .int .u64 d] w (LawPost w) := by
  have hm := h.len
  have hd := (u64_of_wf hd).1
  by_cases h20 : 20 < m
  · go_enter Try.func7, Try.ntmps7
    go_wp2_with fail
    refine (awake_any _).mono ?_
    rintro e w1 ⟨rfl, hb1⟩
    go_wp2
    go_ret
    exact ⟨rfl, hb1⟩
  · have ST := sta_any A m c g w h
    obtain ⟨hn1, hn7, -, -⟩ := stN_bd m
    have V := Lib.hid (stF_vld m g)
    have WF := Lib.hid (stF_wf m g)
    go_enter Try.func7, Try.ntmps7
    go_wp2_with fail
    refine ST.mono ?_
    rintro e w1 ⟨G, rfl, hG, hS, hb1⟩
    clear ST
    generalize stF m g = f at *
    generalize stN m = n at *
    by_cases h2 : n < 2
    · go_wp2_with fail
      refine (awake_any _).mono ?_
      rintro e w2 ⟨rfl, hb2⟩
      go_wp2
      go_ret
      exact ⟨rfl, hb1.trans (hb2.mono hb1.size)⟩
    · obtain ⟨q, rfl⟩ : ∃ q, n = q + 1 := ⟨n - 1, by omega⟩
      have K := (modOf_spec kk q (by omega) (by omega)).2
      have C := mod_any kk q (by omega) (by omega) w1
      go_wp2_with fail
      refine C.mono ?_
      rintro e w2 ⟨rfl, rfl⟩
      clear C
      generalize modOf kk q = j at *
      obtain ⟨-, c1, -⟩ := hS.cells (show 1 + j < q + 1 by omega)
      have hGw := hS.lt hn1
      have i1 : (1 + (j : Int)).toNat = 1 + j := by omega
      have i2 : 1 + (j : Int) < (q : Int) + 1 := by omega
      have i3 : (0 : Int) ≤ 1 + (j : Int) := by omega
      have R0 : 1 ≤ (f (j + 1)).r := by
        have := vld_step V.out (show j + 1 < q + 1 by omega)
        have := (WF.out j (by omega)).2.1.1
        omega
      have R1 := (vld_top V.out (show j + 1 < q + 1 by omega)).2.1
      have E0 := Lib.hid (brk_eq f j)
      have E1 := Lib.hid (fun d => brk_lt V.out j (by omega) d)
      have E2 := Lib.hid (fun d => brk_gt V.out j (by omega) d)
      rw [show 1 + j = j + 1 from by omega] at c1
      rw [show 1 + j = j + 1 from by omega] at i1
      generalize hr : (f (j + 1)).r = r at *
      have Hr := Lib.hid hr; clear hr
      have m0 : 0 ≤ d % r := Int.emod_nonneg _ (by omega)
      have m1 : d % r < r := Int.emod_lt_of_pos _ (by omega)
      have m2 : 0 ≤ d % 1000 ∧ d % 1000 < 1000 := by omega
      have D0 : 0 ≤ r ∧ r ≤ 1099511627776 := by omega
      have D1 : 0 ≤ d % r ∧ d % r ≤ 1099511627776 := by omega
      have D2 : 0 ≤ r + 1 + d % 1000 ∧ r + 1 + d % 1000 ≤ 1099511627776 := by omega
      have e0 := E0.out
      have e1 := E1.out (d % r) m1
      have e2 := E2.out (r + 1 + d % 1000) (by omega)
      clear m0 m1 m2
      have E := Lib.hid (And.intro e0 (And.intro e1 e2)); clear e0 e1 e2
      go_wp2_with fail
      refine (eng_int _ _ (j) _ (by omega) hS V.out (by omega) D0.1 D0.2).mono ?_
      rintro e x0 ⟨rfl, hc0⟩
      have S0 := hS.below hc0 (Nat.le_refl _)
      have B0 := bel2 hb1 hc0
      clear hS hb1 hc0
      go_wp2_with fail
      refine (eng_int _ _ (j + 1) _ (by omega) S0 V.out (by omega) D0.1 D0.2).mono ?_
      rintro e x1 ⟨rfl, hc1⟩
      have S1 := S0.below hc1 (Nat.le_refl _)
      have B1 := bel2 B0 hc1
      clear S0 B0 hc1
      go_wp2_with fail
      refine (eng_int _ _ (j) _ (by omega) S1 V.out (by omega) D1.1 D1.2).mono ?_
      rintro e x2 ⟨rfl, hc2⟩
      have S2 := S1.below hc2 (Nat.le_refl _)
      have B2 := bel2 B1 hc2
      clear S1 B1 hc2
      go_wp2_with fail
      refine (eng_int _ _ (j + 1) _ (by omega) S2 V.out (by omega) D1.1 D1.2).mono ?_
      rintro e x3 ⟨rfl, hc3⟩
      have S3 := S2.below hc3 (Nat.le_refl _)
      have B3 := bel2 B2 hc3
      clear S2 B2 hc3
      go_wp2_with fail
      refine (eng_int _ _ (j) _ (by omega) S3 V.out (by omega) D2.1 D2.2).mono ?_
      rintro e x4 ⟨rfl, hc4⟩
      have S4 := S3.below hc4 (Nat.le_refl _)
      have B4 := bel2 B3 hc4
      clear S3 B3 hc4
      go_wp2_with fail
      refine (eng_int _ _ (j + 1) _ (by omega) S4 V.out (by omega) D2.1 D2.2).mono ?_
      rintro e x5 ⟨rfl, hc5⟩
      have S5 := S4.below hc5 (Nat.le_refl _)
      have B5 := bel2 B4 hc5
      clear S4 B4 hc5
      obtain ⟨e0, e1, e2⟩ := E.out
      rw [e0]
      generalize eng f (j + 1) r = y0 at *
      generalize eng f j (d % r) = y1 at *
      generalize eng f (j + 1) (d % r) = y2 at *
      generalize eng f j (r + 1 + d % 1000) = y3 at *
      generalize eng f (j + 1) (r + 1 + d % 1000) = y4 at *
      clear e0
      go_wp2_with fail
      refine (awake_any _).mono ?_
      rintro e z ⟨rfl, hz⟩
      go_wp2
      go_ret
      exact ⟨rfl, bel2 B5 hz⟩
end Go.Proofs.Ytfbgkdjjfjlhhaa
