/- The reference's New at a valid table and valid parameters. -/
import Derived.Test.YtfmaadfccnjnjaaNwa
namespace Go.Proofs.Ytfmaadfccnjnjaa
open Go.ChangeShapes Go.WideShapes Go.ChangeAt Go.RowKit Go.Deep Go.Joins
attribute [local go_sem ↓] Go.wp_at_zero Go.wp_at_succ

/-- What the reference's New leaves. -/
def RnPost (w : World) (n : Nat) (f : Nat → St) (s : GV) (e : Ending) (w' : World) : Prop :=
  ∃ L T' k, e = .returned (.tuple #[.pointer (some ⟨L, 0, none⟩), .int .i64 0]) ∧ w.heap.size ≤ L ∧ w.heap.size ≤ T' ∧ T' ≠ L ∧ SlS w' (some ⟨T', 0, none⟩) n f ∧
        w'.rowIs L 67 8 (gcell T' n k ⟨s.up, s.dn, s.sp, 0, n - 1, 0, 0⟩) ∧ Below w.heap.size w w'
set_option maxRecDepth 100000 in
set_option maxHeartbeats 4000000 in
theorem rnew_o (T o n c : Nat) (f : Nat → St) (s : GV) (w : World) (h : SlS w (some ⟨T, o, none⟩) n f) (hv : vld n f = true) (hk : GOk n s) :
    Calls Try.prog 25 #[.slice (some ⟨T, o, none⟩) n c, .agg #[.int .i64 (s.up : Nat), .int .i64 (s.dn : Nat), .int .i64 (s.sp : Nat)]] w (RnPost w n f s) := by
  have C := rchk_any _ n c f _ (h.below (bal (Below.refl w.heap.size w) (Obj.cells #[.int .i64 (s.up : Nat), .int .i64 (s.dn : Nat), .int .i64 (s.sp : Nat)] 44)) (Nat.le_refl _))
  have HV := Lib.hid hv
  have HWF := Lib.hid h.wf
  obtain ⟨hn1, hn⟩ := vld_len hv
  obtain ⟨⟨k1, k2⟩, k3, ⟨k4, k5⟩, k6, -, -, -⟩ := hk
  have x0 : (w.alloc (Obj.cells #[.int .i64 (s.up : Nat), .int .i64 (s.dn : Nat), .int .i64 (s.sp : Nat)] 44)).cell? ⟨w.heap.size, 0, none⟩ = some (.int .i64 (s.up : Nat)) := by simp [go_sem]
  have x1 : (w.alloc (Obj.cells #[.int .i64 (s.up : Nat), .int .i64 (s.dn : Nat), .int .i64 (s.sp : Nat)] 44)).cell? ⟨w.heap.size, 1, none⟩ = some (.int .i64 (s.dn : Nat)) := by simp [go_sem]
  have x2 : (w.alloc (Obj.cells #[.int .i64 (s.up : Nat), .int .i64 (s.dn : Nat), .int .i64 (s.sp : Nat)] 44)).cell? ⟨w.heap.size, 2, none⟩ = some (.int .i64 (s.sp : Nat)) := by simp [go_sem]
  have S1 := h.below (bal (Below.refl w.heap.size w) (Obj.cells #[.int .i64 (s.up : Nat), .int .i64 (s.dn : Nat), .int .i64 (s.sp : Nat)] 44)) (Nat.le_refl _)
  have B1 := bal (Below.refl w.heap.size w) (Obj.cells #[.int .i64 (s.up : Nat), .int .i64 (s.dn : Nat), .int .i64 (s.sp : Nat)] 44)
  have hsz : w.heap.size < (w.alloc (Obj.cells #[.int .i64 (s.up : Nat), .int .i64 (s.dn : Nat), .int .i64 (s.sp : Nat)] 44)).heap.size := by simp
  obtain ⟨i0, hi, hzz⟩ := Option.map_eq_some_iff.1 info25
  simp only [Prod.mk.injEq] at hzz
  obtain ⟨hz, hs, hb⟩ := hzz
  have HI := Lib.hid (And.intro hi (And.intro hz (And.intro hs hb)))
  clear hi hz hs hb
  obtain ⟨up, dn, sp, lo, hi, cu, lz⟩ := s
  simp only at *
  clear hv h
  go_enter Try.func25, Try.ntmps25
  go_wp2_with fail
  generalize w.alloc (Obj.cells #[.int .i64 (up : Nat), .int .i64 (dn : Nat), .int .i64 (sp : Nat)] 44) = w1 at *
  refine C.mono ?_
  rintro e w2 ⟨rfl, b1⟩
  clear C
  rw [HV.out]
  rw [← b1.cell (by exact hsz)] at x0 x1 x2
  have S2 := Lib.hid (S1.below b1 (Nat.le_refl _))
  have B2 := Lib.hid (bel2 B1 b1)
  have hsz2 : w.heap.size < w2.heap.size := by have := b1.size; omega
  have SN : Hid (∀ j u, (newsL f n)[j]? = some u → ((w2.alloc (.cells #[] 25)).drew).cell? (Addr.add ⟨T, o, none⟩ j) = some u) :=
    sls_news_o (S2.out.below (bal (Below.refl _ _) _).drew (Nat.le_refl _))
  have OW : Hid (((w2.alloc (.cells #[] 25)).drew).ownsRow w2.heap.size 25 3 (.slice (some ⟨w2.heap.size, 0, none⟩) 0 0) 0 []) :=
    ⟨rfl, .inr ⟨w2.heap.size, 0, #[], rfl, Nat.le_refl _, heap_alloc_new w2 _, Nat.le_refl _, by omega, rfl, rfl⟩⟩
  have hc3 : 0 + n ≤ maxLen := by unfold maxLen; omega
  have hc4 : (0 + n) * 24 ≤ 140737488355328 := by omega
  clear S1 B1 b1 hsz
  have hwr : IntKind.i64.wrap ((n : Int) - 1) = ((n - 1 : Nat) : Int) := by rw [IntWalk.i64_in _ (by omega)]; omega
  have HWR := Lib.hid hwr
  clear hwr
  go_wp2_with fail
  go_region_held3 (fun w' => w'.cell? ⟨w.heap.size, 0, none⟩ = some (.int .i64 (up : Nat)) ∧ w'.cell? ⟨w.heap.size, 1, none⟩ = some (.int .i64 (dn : Nat)) ∧ w'.cell? ⟨w.heap.size, 2, none⟩ = some (.int .i64 (sp : Nat)))
    (first | go_keep | (go_split_ands; refine ⟨?_, ?_, ?_⟩ <;> (rw [hgrow.cell_far _ (by simp; omega) (by simp [Value.ownBlock]; omega)]; assumption)))
    ((refine step_append_lies _ (by rfl) _ _ _ (by rfl) w2.heap.size 25 i0 _ 3 24 Try.underlying22 HI.out.1 HI.out.2.1 HI.out.2.2.1 HI.out.2.2.2 rfl (by decide) (.slice (some ⟨w2.heap.size, 0, none⟩) 0 0) 0 [] (by rfl) OW.out ⟨T, o, none⟩ n c (newsL f n) (by rfl) (newsL_len f n) SN.out (newsL_one f n) (by omega) hc3 hc4 (by simp) (w2.heap.size + 1) (by simp) ?_; intro gg cap w9 hown hgrow hat hlt))
  rw [HWR.out]
  have b9 : Below w2.heap.size w2 w9 := ((bal (Below.refl _ _) _).drew).grown hgrow (by simp) (fun j hj => by simp [Value.ownBlock] at hj; omega)
  have hown : w9.ownsRow w2.heap.size 25 3 (.slice (some ⟨gg, 0, none⟩) n cap) n (newsL f n) := by simpa using hown
  obtain ⟨G, k, e9, hG9, S9, -⟩ := sls_of_own hown hn1 (by omega) HWF.out
  injection e9 with e1 _ e3
  injection e1 with e1
  injection e1 with e1
  subst e1 e3
  have R9 : (w9.alloc (Obj.cells #[.slice (some ⟨gg, 0, none⟩) n cap, .int .i64 (up : Nat), .int .i64 (dn : Nat), .int .i64 (sp : Nat), .int .i64 0, .int .i64 ((n - 1 : Nat) : Int), .int .i64 0, .int .i64 0] 67)).rowIs w9.heap.size 67 8 (gcell gg n cap ⟨up, dn, sp, 0, n - 1, 0, 0⟩) := by
    refine World.rowIs_alloc w9 #[.slice (some ⟨gg, 0, none⟩) n cap, .int .i64 (up : Nat), .int .i64 (dn : Nat), .int .i64 (sp : Nat), .int .i64 0, .int .i64 ((n - 1 : Nat) : Int), .int .i64 0, .int .i64 0] 67 (gcell gg n cap ⟨up, dn, sp, 0, n - 1, 0, 0⟩) fun j hj => ?_
    match j, hj with
    | 0, _ | 1, _ | 2, _ | 3, _ | 4, _ | 5, _ | 6, _ | 7, _ => rfl
  have hGl := S9.lt hn1
  have S10 := S9.below (bal (Below.refl w9.heap.size w9) (Obj.cells #[.slice (some ⟨gg, 0, none⟩) n cap, .int .i64 (up : Nat), .int .i64 (dn : Nat), .int .i64 (sp : Nat), .int .i64 0, .int .i64 ((n - 1 : Nat) : Int), .int .i64 0, .int .i64 0] 67)) (Nat.le_refl _)
  have B10 := bal (bel2 B2.out b9) (Obj.cells #[.slice (some ⟨gg, 0, none⟩) n cap, .int .i64 (up : Nat), .int .i64 (dn : Nat), .int .i64 (sp : Nat), .int .i64 0, .int .i64 ((n - 1 : Nat) : Int), .int .i64 0, .int .i64 0] 67)
  have hs9 := b9.size
  have R9 := Lib.hid R9
  have S10 := Lib.hid S10
  have B10 := Lib.hid B10
  have hG9' : w.heap.size ≤ gg := by omega
  have hs9' : w.heap.size ≤ w9.heap.size := by omega
  have hne : gg ≠ w9.heap.size := by omega
  clear hown hgrow hat hlt S9 b9 hG9 hs9
  go_wp2
  go_ret2
  exact ⟨w9.heap.size, gg, cap, rfl, hs9', hG9', hne, S10.out, R9.out, B10.out⟩
/-- The error of New. -/
def pOk (up dn sp : Int) : Bool := decide (1 ≤ up) && decide (up ≤ 100) && decide (0 ≤ dn) && decide (dn < up) && decide (1 ≤ sp) && decide (sp ≤ 1000)
def nE (n : Nat) (f : Nat → St) (up dn sp : Int) : Int := if vld n f && pOk up dn sp then 0 else 1
def NePost (w : World) (x : Int) (e : Ending) (w' : World) : Prop := ∃ v : Option Addr, e = .returned (.tuple #[.pointer v, .int .i64 x]) ∧ Below w.heap.size w w'
theorem pOk_nat {n : Nat} {up dn sp : Int} (h : pOk up dn sp = true) (hn : 1 ≤ n) : ∃ a b c : Nat, up = a ∧ dn = b ∧ sp = c ∧ GOk n ⟨a, b, c, 0, n - 1, 0, 0⟩ := by
  simp only [pOk, Bool.and_eq_true, decide_eq_true_eq] at h
  exact ⟨up.toNat, dn.toNat, sp.toNat, by omega, by omega, by omega, ⟨by simp only; omega, by simp only; omega, by simp only; omega, by simp only; omega, by simp only; omega, by simp only; omega, by simp only; omega⟩⟩
theorem pOk_bad {up dn sp : Int} (h : pOk up dn sp = false) : up < 1 ∨ 100 < up ∨ dn < 0 ∨ up ≤ dn ∨ sp < 1 ∨ 1000 < sp := by
  simp only [pOk, Bool.and_eq_false_iff, decide_eq_false_iff_not] at h
  omega
theorem ne_a (A : Option Addr) (n c : Nat) (f : Nat → St) (up dn sp : Int) (w : World) (h : SlS w A n f) :
    Calls Try.prog 24 #[.slice A n c, .agg #[.int .i64 up, .int .i64 dn, .int .i64 sp]] w (NePost w (nE n f up dn sp)) := by
  cases hv : vld n f
  · have e : nE n f up dn sp = 1 := by unfold nE; rw [hv]; rfl
    rw [e]
    exact (newv_a A n c f up dn sp w h hv).mono fun e w' ⟨h1, h2⟩ => ⟨none, h1, h2⟩
  · cases hp : pOk up dn sp
    · have e : nE n f up dn sp = 1 := by unfold nE; rw [hv, hp]; rfl
      rw [e]
      exact (newp_a A n c f up dn sp w h hv (pOk_bad hp)).mono fun e w' ⟨h1, h2⟩ => ⟨none, h1, h2⟩
    · have e : nE n f up dn sp = 0 := by unfold nE; rw [hv, hp]; rfl
      rw [e]
      have hn := (vld_len hv).1
      obtain ⟨a, b, cc, rfl, rfl, rfl, hk⟩ := pOk_nat (n := n) hp hn
      rcases h.row with h0 | ⟨bb, off, rfl, _, _⟩
      · omega
      · exact (new_o bb off n c f ⟨a, b, cc, 0, n - 1, 0, 0⟩ w h hv hk).mono fun e w' ⟨L, T', k, h1, _, _, _, _, _, h2⟩ => ⟨_, h1, h2⟩
theorem ne_b (A : Option Addr) (n c : Nat) (f : Nat → St) (up dn sp : Int) (w : World) (h : SlS w A n f) :
    Calls Try.prog 25 #[.slice A n c, .agg #[.int .i64 up, .int .i64 dn, .int .i64 sp]] w (NePost w (nE n f up dn sp)) := by
  cases hv : vld n f
  · have e : nE n f up dn sp = 1 := by unfold nE; rw [hv]; rfl
    rw [e]
    exact (newv_b A n c f up dn sp w h hv).mono fun e w' ⟨h1, h2⟩ => ⟨none, h1, h2⟩
  · cases hp : pOk up dn sp
    · have e : nE n f up dn sp = 1 := by unfold nE; rw [hv, hp]; rfl
      rw [e]
      exact (newp_b A n c f up dn sp w h hv (pOk_bad hp)).mono fun e w' ⟨h1, h2⟩ => ⟨none, h1, h2⟩
    · have e : nE n f up dn sp = 0 := by unfold nE; rw [hv, hp]; rfl
      rw [e]
      have hn := (vld_len hv).1
      obtain ⟨a, b, cc, rfl, rfl, rfl, hk⟩ := pOk_nat (n := n) hp hn
      rcases h.row with h0 | ⟨bb, off, rfl, _, _⟩
      · omega
      · exact (rnew_o bb off n c f ⟨a, b, cc, 0, n - 1, 0, 0⟩ w h hv hk).mono fun e w' ⟨L, T', k, h1, _, _, _, _, _, h2⟩ => ⟨_, h1, h2⟩
end Go.Proofs.Ytfmaadfccnjnjaa
