/- The walk of PerfCheckAgrees. -/
import Derived.Test.YtfmaadfccnjnjaaTag
namespace Go.Proofs.Ytfmaadfccnjnjaa
open Go.RowKit

def cv (n : Nat) (f : Nat → St) : Int := if vld n f then 0 else 1
def CvPost (w : World) (n : Nat) (f : Nat → St) (e : Ending) (w' : World) : Prop := e = .returned (.int .i64 (cv n f)) ∧ Below w.heap.size w w'
theorem chk_ev (A : Option Addr) (n c : Nat) (f : Nat → St) (w : World) (h : SlS w A n f) : Calls Try.prog 17 #[.slice A n c] w (CvPost w n f) := chk_any A n c f w h
theorem rchk_ev (A : Option Addr) (n c : Nat) (f : Nat → St) (w : World) (h : SlS w A n f) : Calls Try.prog 18 #[.slice A n c] w (CvPost w n f) := rchk_any A n c f w h
set_option maxRecDepth 100000 in
set_option maxHeartbeats 4000000 in
theorem cag_walk (A : Option Addr) (m c : Nat) (g : Nat → St) (x k : Int) (X : St) (w : World) (h : SlS w A m g) (hx : (Lit.int .u64 x).wf = true) (_hk : (Lit.int .i64 k).wf = true)
    (hX : U64 X.l ∧ U64 X.r ∧ U64 X.p) :
    Calls Try.prog 3 #[.slice A m c, .int .u64 x, .int .i64 k, .agg #[.int .u64 X.l, .int .u64 X.r, .int .u64 X.p]] w (LawPost w) := by
  have hm := h.len
  have hx := (u64_of_wf hx).1
  by_cases h20 : 20 < m
  · go_enter Try.func3, Try.ntmps3
    go_wp2_with fail
    refine (awake_any _).mono ?_
    rintro e w1 ⟨rfl, hb1⟩
    go_wp2
    go_ret
    exact ⟨rfl, ((Below.refl _ _).alloc (Nat.le_refl _) _).trans (hb1.mono (by simp))⟩
  · have B0 : Below w.heap.size w (w.alloc (.cells #[.int .u64 X.l, .int .u64 X.r, .int .u64 X.p] 25)) := (Below.refl _ _).alloc (Nat.le_refl _) _
    have h0 := h.below B0 (Nat.le_refl _)
    have ST := tab_any A m c g _ h0
    obtain ⟨hn1, hn7, -, -⟩ := tbN_bd m
    go_enter Try.func3, Try.ntmps3
    go_wp2_with fail
    refine ST.mono ?_
    rintro e w1 ⟨G, c1, rfl, hG, hS, B1'⟩
    clear ST
    have hbox := box3' B1'
    have B1 := bel2 B0 B1'
    have S1 := hS
    have H1 := h0.below B1' (Nat.le_refl _)
    generalize tbF m g = f at *
    generalize tbN m = n at *
    obtain ⟨i0, hi, hzz⟩ := Option.map_eq_some_iff.1 info25
    simp only [Prod.mk.injEq] at hzz
    obtain ⟨hz, hs, hb⟩ := hzz
    have B2 : Below w1.heap.size w1 (w1.alloc (.cells #[] 25)) := (Below.refl _ _).alloc (Nat.le_refl _) _
    have S2 := S1.below B2 (Nat.le_refl _)
    have H2 := H1.below B2 (Nat.le_refl _)
    have Hbox := Lib.hid hbox
    have own : (w1.alloc (.cells #[] 25)).ownsRow w1.heap.size 25 3 (.slice (some ⟨w1.heap.size, 0, none⟩) 0 0) 0 [] :=
      ⟨rfl, .inr ⟨w1.heap.size, 0, #[], rfl, Nat.le_refl _, heap_alloc_new w1 _, Nat.le_refl _, by omega, rfl, rfl⟩⟩
    have B12 := bel2 B1 B2
    go_wp2_with (at_builtin; refine wpList_append_own _ rfl (.tmp 27) (.tmp 28) 22 rfl w1.heap.size 25 i0 _ 3 24 Try.underlying22 hi hz hs hb rfl (by decide) _ 0 [] rfl own ⟨G, 0, none⟩ n c1 (newsL f n) rfl (newsL_len f n) (sls_news S2) (newsL_one f n) ?c3 ?c4 ?c5 ?_)
    case c3 => unfold maxLen; omega
    case c4 => omega
    case c5 => exact B2.size
    intro v' w3 hown hgr _
    have hown : w3.ownsRow w1.heap.size 25 3 v' n (newsL f n) := by simpa using hown
    have WFf := Lib.hid S1.wf
    obtain ⟨G2, cp, rfl, hG2, S4, hfz⟩ := sls_of_own hown hn1 (by omega) S1.wf
    have B3 : Below w1.heap.size w1 w3 := B2.grown hgr B2.size (fun k hk => by simp [Value.ownBlock] at hk; omega)
    have S3 := S1.below B3 (Nat.le_refl _)
    have H3 := H1.below B3 (Nat.le_refl _)
    have B13 := bel2 B1 B3
    have hbw : w.heap.size < w1.heap.size := by have := B1'.size; simp at this; omega
    obtain ⟨x0, x1, x2⟩ := Hbox.out
    rw [← B3.cell hbw] at x0 x1 x2
    have hGw1 := S1.lt hn1
    have hG2w := S4.lt hn1
    clear hown hgr B2 S2 H2 own B12 Hbox B1' h0 B0 h
    have C := (modOf_spec k n hn1 (by omega)).2
    obtain ⟨z0, z1, z2⟩ := S4.cells C
    have f0 := hfz (modOf k n * 3)
    have f1 := hfz (modOf k n * 3 + 1)
    have f2 := hfz (modOf k n * 3 + 2)
    have S5 := Lib.hid ((sls_set X S4 C hX).below (Below.refl _ _).drew (Nat.le_refl _))
    have B5 := Lib.hid (((B3.setCell (p := ⟨G2, modOf k n * 3, none⟩) hG2 (.int .u64 X.l)).setCell (p := ⟨G2, modOf k n * 3 + 1, none⟩) hG2 (.int .u64 X.r)).setCell (p := ⟨G2, modOf k n * 3 + 2, none⟩) hG2 (.int .u64 X.p)).drew
    have M := Lib.hid (fun W => mod_any k n hn1 (by omega) W)
    generalize modOf k n = j at *
    clear hfz
    go_wp2_with fail
    go_still_tail 7, (by kernel_rfl)
    still_call ((M.out _).mono fun e w' ⟨he, hw⟩ => ⟨he, hw.symm⟩)
    repeat still_step
    refine wpStill_nil ?_
    go_wp2_with fail
    have S5 := S5.out
    have B5 := B5.out
    generalize (((w3.setCell ⟨G2, j * 3, none⟩ (.int .u64 X.l)).setCell ⟨G2, j * 3 + 1, none⟩ (.int .u64 X.r)).setCell ⟨G2, j * 3 + 2, none⟩ (.int .u64 X.p)).drew = w5 at *
    have S1 := S1.below B5 (Nat.le_refl _)
    have H1 := H1.below B5 (Nat.le_refl _)
    have B15 := bel2 B1 B5
    generalize upd f j X = fx at *
    clear x0 x1 x2 z0 z1 z2 f0 f1 f2 C hX S3 H3 S4 B13 B3 B1 B5 hG2w hGw1 hG2 hG hbw M
    have I0 := idx0 (.slice A m c) (.slice (some ⟨G, 0, none⟩) n c1) (.slice (some ⟨G2, 0, none⟩) n cp)
    have I1 := idx1 (.slice A m c) (.slice (some ⟨G, 0, none⟩) n c1) (.slice (some ⟨G2, 0, none⟩) n cp)
    have I2 := idx2 (.slice A m c) (.slice (some ⟨G, 0, none⟩) n c1) (.slice (some ⟨G2, 0, none⟩) n cp)
    have HI := Lib.hid (And.intro I0 (And.intro I1 I2)); clear I0 I1 I2
    go_loopw [41] (fun i wr => ∃ q : Nat, q ≤ 3 ∧ i = .int .i64 q ∧ Below w.heap.size w wr ∧ SlS wr A m g ∧ SlS wr (some ⟨G, 0, none⟩) n f ∧ SlS wr (some ⟨G2, 0, none⟩) n fx) (fun i _ => 3 - (intOf i).toNat)
    case atStart => exact ⟨0, by omega, rfl, B15, H1, S1, S5⟩
    case round =>
      clear H1 S1 S5 B15
      obtain ⟨q, hq, rfl, B, T0, T1, T2⟩ := hrel
      by_cases hlt : q < 3
      · obtain ⟨A', n', c', f', HX, T⟩ : ∃ A' n' c' f', Hid (∀ W, (Instr.index 29 (.agg #[.slice A m c, .slice (some ⟨G, 0, none⟩) n c1, .slice (some ⟨G2, 0, none⟩) n cp]) (.int .i64 (q : Int))).run Try.prog W = .ok (.slice A' n' c') W) ∧ SlS wr A' n' f' := by
          obtain ⟨I0, I1, I2⟩ := HI.out
          rcases (show q = 0 ∨ q = 1 ∨ q = 2 by omega) with e | e | e <;> subst e
          · exact ⟨_, _, _, _, I0, T0⟩
          · exact ⟨_, _, _, _, I1, T1⟩
          · exact ⟨_, _, _, _, I2, T2⟩
        have hX := HX.out
        go_wp2_with fail
        clear hX
        have b0 := Below.refl wr.heap.size wr
        refine (find_any _ _ _ _ (x % 1000) _ T).mono ?_
        rintro e y0 ⟨rfl, hc0⟩
        have T3 := T.below hc0 (Nat.le_refl _)
        have b1 := bel2 b0 hc0
        clear T b0 hc0
        go_wp2_with fail
        refine (rfind_any _ _ _ _ (x % 1000) _ T3).mono ?_
        rintro e y1 ⟨rfl, hc1⟩
        have T4 := T3.below hc1 (Nat.le_refl _)
        have b2 := bel2 b1 hc1
        clear T3 b1 hc1
        go_wp2_with fail
        refine (find_any _ _ _ _ x _ T4).mono ?_
        rintro e y2 ⟨rfl, hc2⟩
        have T5 := T4.below hc2 (Nat.le_refl _)
        have b3 := bel2 b2 hc2
        clear T4 b2 hc2
        go_wp2_with fail
        refine (rfind_any _ _ _ _ x _ T5).mono ?_
        rintro e y3 ⟨rfl, hc3⟩
        have T6 := T5.below hc3 (Nat.le_refl _)
        have b4 := bel2 b3 hc3
        clear T5 b3 hc3
        go_wp2_with fail
        refine (chk_ev _ _ _ _ _ T6).mono ?_
        rintro e y4 ⟨rfl, hc4⟩
        have T7 := T6.below hc4 (Nat.le_refl _)
        have b5 := bel2 b4 hc4
        clear T6 b4 hc4
        go_wp2_with fail
        refine (rchk_ev _ _ _ _ _ T7).mono ?_
        rintro e y5 ⟨rfl, hc5⟩
        have T8 := T7.below hc5 (Nat.le_refl _)
        have b6 := bel2 b5 hc5
        clear T7 b5 hc5
        go_wp2_with fail
        go_roundw
        case rel => exact ⟨q + 1, by omega, by go_num, bel2 B b6, T0.below b6 (Nat.le_refl _), T1.below b6 (Nat.le_refl _), T2.below b6 (Nat.le_refl _)⟩
        case measure => simp [intOf]; omega
      · have : q = 3 := by omega
        subst this
        go_wp2_with fail
        refine (awake_any _).mono ?_
        rintro e w8 ⟨rfl, hb8⟩
        go_wp2
        go_ret
        exact ⟨rfl, bel2 B hb8⟩
end Go.Proofs.Ytfmaadfccnjnjaa
