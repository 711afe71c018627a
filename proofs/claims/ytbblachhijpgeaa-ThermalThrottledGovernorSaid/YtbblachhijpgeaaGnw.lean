/- Clone, params and New of the governor. -/
import Derived.Test.YtbblachhijpgeaaGlm
namespace Go.Proofs.Ytbblachhijpgeaa
open Go.RowKit

theorem gsl_ne (T n c : Nat) (w : World) : (Go.binOp BinOp.eql 60 (.slice (some ⟨T, 0, none⟩) n c) (.slice none 0 0)).run Try.prog w = .ok (.bool false) w := by kernel_rfl
set_option maxRecDepth 100000 in
set_option maxHeartbeats 2000000 in
theorem clone_pos (T n c : Nat) (f : Nat → St) (w : World) (h : SlS .u64 w (some ⟨T, 0, none⟩) n f) (hn1 : 1 ≤ n) (hn : n ≤ 16) :
    Calls Try.prog 38 #[.slice (some ⟨T, 0, none⟩) n c] w fun e w' => ∃ G k, e = .returned (.slice (some ⟨G, 0, none⟩) n k) ∧ w.heap.size ≤ G ∧ SlS .u64 w' (some ⟨G, 0, none⟩) n f ∧ Below w.heap.size w w' := by
  obtain ⟨i0, hi, hzz⟩ := Option.map_eq_some_iff.1 info30
  simp only [Prod.mk.injEq] at hzz
  obtain ⟨hz, hs, hb⟩ := hzz
  have B2 : Below w.heap.size w (w.alloc (.cells #[] 73)) := (Below.refl _ _).alloc (Nat.le_refl _) _
  have S2 := h.below B2 (Nat.le_refl _)
  have own : (w.alloc (.cells #[] 73)).ownsRow w.heap.size 73 3 (.slice (some ⟨w.heap.size, 0, none⟩) 0 0) 0 [] :=
    ⟨rfl, .inr ⟨w.heap.size, 0, #[], rfl, Nat.le_refl _, heap_alloc_new w _, Nat.le_refl _, by omega, rfl, rfl⟩⟩
  have HW := Lib.hid h.wf
  have SN := gsl_ne T n c w
  have NW : Hid (∀ j u, (newsL .u64 f n)[j]? = some u → (w.alloc (.cells #[] 73)).cell? ((⟨T, 0, none⟩ : Addr).add j) = some u) := fun j u hu => by
    rcases S2.row with h0 | ⟨b, off, hT, _, hc⟩
    · omega
    · injection hT with hT
      rw [hT]
      exact sls_news hc j u hu
  clear h
  go_enter Try.func38, Try.ntmps38
  go_wp2_with (at_builtin; refine wpList_append_own _ rfl (.tmp 5) (.tmp 6) 60 rfl w.heap.size 73 i0 _ 3 24 Try.underlying60 hi hz hs hb rfl (by decide) _ 0 [] rfl own ⟨T, 0, none⟩ n c (newsL .u64 f n) rfl (newsL_len .u64 f n) NW.out (newsL_one .u64 f n) ?c3 ?c4 ?c5 ?_)
  case c3 => unfold maxLen; omega
  case c4 => omega
  case c5 => exact B2.size
  intro v' w3 hown hgr hiff
  have hown : w3.ownsRow w.heap.size 73 3 v' n (newsL .u64 f n) := by simpa using hown
  obtain ⟨A2, cp, rfl, S4, hcp, hg⟩ := sls_of_own hown (by omega) HW.out
  have B3 : Below w.heap.size w w3 := B2.grown hgr B2.size (fun k hk => by simp [Value.ownBlock] at hk; omega)
  have FIN : Hid (∃ G k, (Ending.returned (.slice A2 n cp)) = .returned (.slice (some ⟨G, 0, none⟩) n k) ∧ w.heap.size ≤ G ∧ SlS .u64 w3 (some ⟨G, 0, none⟩) n f ∧ Below w.heap.size w w3) := by
    cases A2 with
    | none =>
      rcases S4.row with h0 | ⟨b, off, hT, _, _⟩
      · omega
      · cases hT
    | some a =>
      obtain ⟨e, hb, _⟩ := hg a.block rfl
      rw [e] at S4 ⊢
      exact ⟨a.block, cp, rfl, hb, S4, B3⟩
  clear hown hgr hiff S4 hg B3
  go_wp2
  go_ret
  exact FIN.out
def pup (a : Int) : Nat := 1 + modOf a 100
def pdn (a b : Int) : Nat := modOf b (pup a)
def psp (d : Int) : Nat := 1 + modOf d 4
theorem p_ok (n : Nat) (a b d : Int) (hn : 1 ≤ n) : GOk n ⟨pup a, pdn a b, psp d, 0, n - 1, 0, 0⟩ := by
  have h1 := (modOf_spec a 100 (by omega) (by omega)).2
  have h2 := (modOf_spec d 4 (by omega) (by omega)).2
  have h3 := (modOf_spec b (pup a) (by unfold pup; omega) (by unfold pup; omega)).2
  refine ⟨?_, h3, ?_, ?_, ?_⟩
  · show 1 ≤ pup a ∧ pup a ≤ 100
    unfold pup; omega
  · show 1 ≤ psp d ∧ psp d ≤ 1000
    unfold psp; omega
  · show 0 < psp d
    unfold psp; omega
  · show 0 ≤ 0 ∧ 0 ≤ n - 1 ∧ n - 1 < n
    omega
set_option maxRecDepth 100000 in
set_option maxHeartbeats 2000000 in
theorem new_good (T n c : Nat) (f : Nat → St) (s : GV) (w : World) (h : SlS .u64 w (some ⟨T, 0, none⟩) n f) (hv : vld n f = true) (hk : GOk n s) :
    Calls Try.prog 20 #[.slice (some ⟨T, 0, none⟩) n c, .agg #[.int .i64 (s.up : Nat), .int .i64 (s.dn : Nat), .int .i64 (s.sp : Nat)]] w fun e w' =>
      ∃ L T' k, e = .returned (.tuple #[.pointer (some ⟨L, 0, none⟩), .int .i64 0]) ∧ w.heap.size ≤ L ∧ w.heap.size ≤ T' ∧ T' ≠ L ∧ SlS .u64 w' (some ⟨T', 0, none⟩) n f ∧
        w'.rowIs L 102 8 (gcell T' n k ⟨s.up, s.dn, s.sp, 0, n - 1, 0, 0⟩) ∧ Below w.heap.size w w' := by
  have C := pchk_any _ n c f _ (h.below (bal (Below.refl w.heap.size w) (Obj.cells #[.int .i64 (s.up : Nat), .int .i64 (s.dn : Nat), .int .i64 (s.sp : Nat)] 67)) (Nat.le_refl _))
  have HV := Lib.hid hv
  obtain ⟨hn1, hn⟩ := vld_len hv
  obtain ⟨⟨k1, k2⟩, k3, ⟨k4, k5⟩, k6, -, -, -⟩ := hk
  have x0 : (w.alloc (Obj.cells #[.int .i64 (s.up : Nat), .int .i64 (s.dn : Nat), .int .i64 (s.sp : Nat)] 67)).cell? ⟨w.heap.size, 0, none⟩ = some (.int .i64 (s.up : Nat)) := by simp [go_sem]
  have x1 : (w.alloc (Obj.cells #[.int .i64 (s.up : Nat), .int .i64 (s.dn : Nat), .int .i64 (s.sp : Nat)] 67)).cell? ⟨w.heap.size, 1, none⟩ = some (.int .i64 (s.dn : Nat)) := by simp [go_sem]
  have x2 : (w.alloc (Obj.cells #[.int .i64 (s.up : Nat), .int .i64 (s.dn : Nat), .int .i64 (s.sp : Nat)] 67)).cell? ⟨w.heap.size, 2, none⟩ = some (.int .i64 (s.sp : Nat)) := by simp [go_sem]
  have S1 := h.below (bal (Below.refl w.heap.size w) (Obj.cells #[.int .i64 (s.up : Nat), .int .i64 (s.dn : Nat), .int .i64 (s.sp : Nat)] 67)) (Nat.le_refl _)
  have B1 := bal (Below.refl w.heap.size w) (Obj.cells #[.int .i64 (s.up : Nat), .int .i64 (s.dn : Nat), .int .i64 (s.sp : Nat)] 67)
  have hsz : w.heap.size < (w.alloc (Obj.cells #[.int .i64 (s.up : Nat), .int .i64 (s.dn : Nat), .int .i64 (s.sp : Nat)] 67)).heap.size := by simp
  obtain ⟨up, dn, sp, lo, hi, cu, lz⟩ := s
  simp only at *
  clear hv h
  go_enter Try.func20, Try.ntmps20
  go_wp2_with fail
  generalize w.alloc (Obj.cells #[.int .i64 (up : Nat), .int .i64 (dn : Nat), .int .i64 (sp : Nat)] 67) = w1 at *
  refine C.mono ?_
  rintro e w2 ⟨rfl, b1⟩
  clear C
  rw [HV.out]
  rw [← b1.cell (by exact hsz)] at x0 x1 x2
  have S2 := Lib.hid (S1.below b1 (Nat.le_refl _))
  have B2 := Lib.hid (bel2 B1 b1)
  have hsz2 : w.heap.size < w2.heap.size := by have := b1.size; omega
  clear S1 B1 b1 hsz
  have CL := Lib.hid (clone_pos T n c f w2.drew (S2.out.below (Below.refl _ _).drew (Nat.le_refl _)) hn1 hn)
  go_wp2_with fail
  go_region_held3 (fun w' => w'.cell? ⟨w.heap.size, 0, none⟩ = some (.int .i64 (up : Nat)) ∧ w'.cell? ⟨w.heap.size, 1, none⟩ = some (.int .i64 (dn : Nat)) ∧ w'.cell? ⟨w.heap.size, 2, none⟩ = some (.int .i64 (sp : Nat)))
    (first | go_keep | exact ⟨(hb9.cell (by exact hsz2)).trans x0, (hb9.cell (by exact hsz2)).trans x1, (hb9.cell (by exact hsz2)).trans x2⟩)
    ((go_at_call 38; refine CL.out.mono ?_; rintro e w9 ⟨G, k, rfl, hG9, S9, hb9⟩))
  have hwr : IntKind.i64.wrap ((n : Int) - 1) = ((n - 1 : Nat) : Int) := by rw [IntWalk.i64_in _ (by omega)]; omega
  rw [hwr]
  have hs9 := hb9.size
  have R9 : (w9.alloc (Obj.cells #[.slice (some ⟨G, 0, none⟩) n k, .int .i64 (up : Nat), .int .i64 (dn : Nat), .int .i64 (sp : Nat), .int .i64 0, .int .i64 ((n - 1 : Nat) : Int), .int .i64 0, .int .i64 0] 102)).rowIs w9.heap.size 102 8 (gcell G n k ⟨up, dn, sp, 0, n - 1, 0, 0⟩) := by
    refine World.rowIs_alloc w9 #[.slice (some ⟨G, 0, none⟩) n k, .int .i64 (up : Nat), .int .i64 (dn : Nat), .int .i64 (sp : Nat), .int .i64 0, .int .i64 ((n - 1 : Nat) : Int), .int .i64 0, .int .i64 0] 102 (gcell G n k ⟨up, dn, sp, 0, n - 1, 0, 0⟩) fun j hj => ?_
    match j, hj with
    | 0, _ | 1, _ | 2, _ | 3, _ | 4, _ | 5, _ | 6, _ | 7, _ => rfl
  have hGl := S9.lt hn1
  have S10 := S9.below (bal (Below.refl w9.heap.size w9) (Obj.cells #[.slice (some ⟨G, 0, none⟩) n k, .int .i64 (up : Nat), .int .i64 (dn : Nat), .int .i64 (sp : Nat), .int .i64 0, .int .i64 ((n - 1 : Nat) : Int), .int .i64 0, .int .i64 0] 102)) (Nat.le_refl _)
  have B10 := bal (bel2 B2.out.drew hb9) (Obj.cells #[.slice (some ⟨G, 0, none⟩) n k, .int .i64 (up : Nat), .int .i64 (dn : Nat), .int .i64 (sp : Nat), .int .i64 0, .int .i64 ((n - 1 : Nat) : Int), .int .i64 0, .int .i64 0] 102)
  have R9 := Lib.hid R9
  have S10 := Lib.hid S10
  have B10 := Lib.hid B10
  have hG9' : w.heap.size ≤ G := by have h1 : w2.heap.size ≤ G := hG9; omega
  have hs9' : w.heap.size ≤ w9.heap.size := by have h1 : w2.heap.size ≤ w9.heap.size := hs9; omega
  have hne : G ≠ w9.heap.size := by omega
  clear hb9 S9 hG9 hs9
  go_wp2
  go_ret2
  exact ⟨w9.heap.size, G, k, rfl, hs9', hG9', hne, S10.out, R9.out, B10.out⟩
end Go.Proofs.Ytbblachhijpgeaa
