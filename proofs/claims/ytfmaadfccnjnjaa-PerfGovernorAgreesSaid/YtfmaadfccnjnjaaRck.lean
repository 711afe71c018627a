/- The reference's Check returns 0 exactly at a valid table. -/
import Derived.Test.YtfmaadfccnjnjaaChk
namespace Go.Proofs.Ytfmaadfccnjnjaa
open Go.RowKit

theorem rchk_none (A : Option Addr) (c : Nat) (f : Nat → St) (w : World) :
    Calls Try.prog 18 #[.slice A 0 c] w (ChkPost w 0 f) := by
  go_enter Try.func18, Try.ntmps18
  go_wp2
  go_ret
  exact ⟨rfl, Below.refl _ _⟩
theorem rchk_long (A : Option Addr) (n c : Nat) (f : Nat → St) (w : World) (h : 16 < n) (hn : n ≤ 9223372036854775807) :
    Calls Try.prog 18 #[.slice A n c] w (ChkPost w n f) := by
  have h1 : ¬ ((n : Int) < 1) := by omega
  have h2 : (16 : Int) < n := by omega
  go_enter Try.func18, Try.ntmps18
  go_wp2
  go_ret
  exact post_bad (by simp [vld]; omega) (Below.refl _ _)
theorem ok_zero {f : Nat → St} {x : St} (hx : f 0 = x) (a0 : ¬ x.l < 1) (a1 : ¬ 1099511627776 < x.l) (a2 : ¬ 1099511627776 < x.r) (a3 : ¬ 1099511627776 < x.p) (u : U64 x.l ∧ U64 x.r ∧ U64 x.p) : okAt f 0 = true := by
  rw [okAt_iff, hx]
  unfold U64 at u
  simp only [prevS, if_pos]
  omega
theorem ok_succ {f : Nat → St} {j : Nat} {x y : St} (hx : f (j + 1) = x) (hy : f j = y) (a1 : ¬ 1099511627776 < x.l) (a2 : ¬ 1099511627776 < x.r) (a3 : ¬ 1099511627776 < x.p)
    (b1 : ¬ x.l ≤ y.l) (b2 : ¬ x.r < y.r) (b3 : ¬ x.p < y.p) : okAt f (j + 1) = true := by
  have : prevS f (j + 1) = y := by simp [prevS, hy]
  rw [okAt_iff, hx, this]
  omega
theorem no_top {f : Nat → St} {k : Nat} {x : St} (hx : f k = x) (h : x.l < 1 ∨ 1099511627776 < x.l ∨ 1099511627776 < x.r ∨ 1099511627776 < x.p) (u : U64 (prevS f k).l) : okAt f k = false := by
  refine okAt_not ?_
  rw [hx]
  unfold U64 at u
  omega
theorem no_step {f : Nat → St} {j : Nat} {x y : St} (hx : f (j + 1) = x) (hy : f j = y) (h : x.l ≤ y.l ∨ x.r < y.r ∨ x.p < y.p) : okAt f (j + 1) = false := by
  refine okAt_not ?_
  have : prevS f (j + 1) = y := by simp [prevS, hy]
  rw [hx, this]
  omega
set_option maxRecDepth 100000 in
set_option maxHeartbeats 4000000 in
theorem rchk_mid (b off n c : Nat) (f : Nat → St) (w : World) (h : 1 ≤ n) (hn : n ≤ 16) (hb : b < w.heap.size) (hc : Sts w b off n f) (hu : ∀ i, i < n → U64 (f i).l ∧ U64 (f i).r ∧ U64 (f i).p) :
    Calls Try.prog 18 #[.slice (some ⟨b, off, none⟩) n c] w (ChkPost w n f) := by
  have h1 : ¬ ((n : Int) < 1) := by omega
  have h2 : ¬ (16 : Int) < n := by omega
  have HC := Lib.hid hc; clear hc
  have HU := Lib.hid hu; clear hu
  go_enter Try.func18, Try.ntmps18
  go_wp2
  go_loopw [3] (fun i wr => ∃ k : Nat, k ≤ n ∧ i = .int .i64 k ∧ Below w.heap.size w wr ∧ Hid (okTo f k = true)) (fun i _ => n - (intOf i).toNat)
  case atStart => exact ⟨0, Nat.zero_le _, rfl, Below.refl _ _, rfl⟩
  case round =>
    obtain ⟨k, hk, rfl, hbel, Ho⟩ := hrel
    by_cases hlt : k < n
    · obtain ⟨d0, d1, d2⟩ := HC.out k hlt
      rw [← hbel.cell hb] at d0 d1 d2
      have PU : Hid (U64 (prevS f k).l) := by
        show U64 _
        unfold prevS
        split
        · unfold U64; simp only; omega
        · exact (HU.out (k - 1) (by omega)).1
      have UX := Lib.hid (HU.out k hlt)
      generalize hX : f k = X at *
      have HX := Lib.hid hX; clear hX
      obtain ⟨xl, xr, xp⟩ := X
      simp only at d0 d1 d2
      have hB := Lib.hid (hbel.alloc hbel.size (Obj.cells #[.int .u64 xl, .int .u64 xr, .int .u64 xp] 25))
      have OT : Hid (okTo f (k + 1) = (okTo f k && okAt f k)) := rfl
      by_cases a0 : xl < 1
      · go_wp2
        go_ret
        exact post_bad (vld_bad hlt (no_top HX.out (.inl (by simpa using a0)) PU.out)) hB.out
      by_cases a1 : 1099511627776 < xl
      · go_wp2
        go_ret
        exact post_bad (vld_bad hlt (no_top HX.out (.inr (.inl (by simpa using a1))) PU.out)) hB.out
      by_cases a2 : 1099511627776 < xr
      · go_wp2
        go_ret
        exact post_bad (vld_bad hlt (no_top HX.out (.inr (.inr (.inl (by simpa using a2)))) PU.out)) hB.out
      by_cases a3 : 1099511627776 < xp
      · go_wp2
        go_ret
        exact post_bad (vld_bad hlt (no_top HX.out (.inr (.inr (.inr (by simpa using a3)))) PU.out)) hB.out
      rcases Nat.eq_zero_or_pos k with hk0 | hk0
      · subst hk0
        simp only [Nat.zero_mul, Nat.add_zero] at d0 d1 d2
        go_wp2_with fail
        go_quiet (fail)
        go_wp2
        go_roundw
        case rel => exact ⟨1, by omega, by go_num, below_drewN hB.out _, by show _ = _; rw [OT.out, Ho.out, ok_zero HX.out (by simpa using a0) (by simpa using a1) (by simpa using a2) (by simpa using a3) UX.out]; rfl⟩
        case measure => simp [intOf]; omega
      · obtain ⟨j, rfl⟩ : ∃ j, k = j + 1 := ⟨k - 1, by omega⟩
        obtain ⟨e0, e1, e2⟩ := HC.out j (by omega)
        rw [← hbel.cell hb] at e0 e1 e2
        have hbw : b < wr.heap.size := by have := hbel.size; omega
        generalize hY : f j = Y at *
        have HY := Lib.hid hY; clear hY
        obtain ⟨yl, yr, yp⟩ := Y
        simp only at e0 e1 e2
        have g : (0 : Int) < (j : Int) + 1 := by omega
        have w1 : IntKind.i64.wrap (j : Int) = (j : Int) := IntWalk.i64_in _ (by omega)
        have w2 : (j : Int) < n := by omega
        go_wp2_with fail
        rw [← World.cell?_alloc_lt wr (Obj.cells #[.int .u64 xl, .int .u64 xr, .int .u64 xp] 25) _ hbw] at e0 e1 e2
        obtain ⟨g0, g1, g2⟩ := box3 wr xl xr xp
        generalize hW : wr.alloc (Obj.cells #[.int .u64 xl, .int .u64 xr, .int .u64 xp] 25) = W at *
        generalize hBB : wr.heap.size = B at *
        clear hW hBB hbel d0 d1 d2 hb hbw h1 h2
        by_cases b1 : xl ≤ yl
        · go_quiet (fail)
          go_wp2
          go_ret
          exact post_bad (vld_bad hlt (no_step HX.out HY.out (.inl b1))) (below_drewN hB.out _)
        by_cases b2 : xr < yr
        · go_quiet (fail)
          go_wp2
          go_ret
          exact post_bad (vld_bad hlt (no_step HX.out HY.out (.inr (.inl b2)))) (below_drewN hB.out _)
        by_cases b3 : xp < yp
        · go_quiet (fail)
          go_wp2
          go_ret
          exact post_bad (vld_bad hlt (no_step HX.out HY.out (.inr (.inr b3)))) (below_drewN hB.out _)
        go_quiet (fail)
        go_wp2
        go_roundw
        case rel => exact ⟨j + 1 + 1, by omega, by go_num, below_drewN hB.out _, by show _ = _; rw [OT.out, Ho.out, ok_succ HX.out HY.out (by simpa using a1) (by simpa using a2) (by simpa using a3) (by simpa using b1) (by simpa using b2) (by simpa using b3)]; rfl⟩
        case measure => simp [intOf]; omega
    · have : k = n := by omega
      subst this
      go_wp2
      go_ret
      exact post_good (by simp [vld, Ho.out]; omega) hbel
theorem rchk_any (A : Option Addr) (n c : Nat) (f : Nat → St) (w : World) (h : SlS w A n f) : Calls Try.prog 18 #[.slice A n c] w (ChkPost w n f) := by
  rcases Nat.eq_zero_or_pos n with h0 | h0
  · subst h0; exact rchk_none A c f w
  rcases Nat.lt_or_ge 16 n with h1 | h1
  · exact rchk_long A n c f w h1 h.len
  · rcases h.row with h2 | ⟨b, off, rfl, hlt, hc⟩
    · omega
    · exact rchk_mid b off n c f w h0 h1 hlt hc h.wf
end Go.Proofs.Ytfmaadfccnjnjaa
