/- Clone, params and New of the governor. -/
import Derived.Test.YtfmaadfccnjnjaaGlm
namespace Go.Proofs.Ytfmaadfccnjnjaa
open Go.RowKit

theorem sl_ne (T n c : Nat) (w : World) : (Go.binOp BinOp.eql 22 (.slice (some ⟨T, 0, none⟩) n c) (.slice none 0 0)).run Try.prog w = .ok (.bool false) w := by kernel_rfl
theorem clone_pos (T n c : Nat) (f : Nat → St) (w : World) (h : SlS w (some ⟨T, 0, none⟩) n f) (hn1 : 1 ≤ n) (hn : n ≤ 16) :
    Calls Try.prog 36 #[.slice (some ⟨T, 0, none⟩) n c] w fun e w' => ∃ G k, e = .returned (.slice (some ⟨G, 0, none⟩) n k) ∧ w.heap.size ≤ G ∧ SlS w' (some ⟨G, 0, none⟩) n f ∧ Below w.heap.size w w' := by
  obtain ⟨i0, hi, hzz⟩ := Option.map_eq_some_iff.1 info25
  simp only [Prod.mk.injEq] at hzz
  obtain ⟨hz, hs, hb⟩ := hzz
  have B2 : Below w.heap.size w (w.alloc (.cells #[] 25)) := (Below.refl _ _).alloc (Nat.le_refl _) _
  have S2 := h.below B2 (Nat.le_refl _)
  have own : (w.alloc (.cells #[] 25)).ownsRow w.heap.size 25 3 (.slice (some ⟨w.heap.size, 0, none⟩) 0 0) 0 [] :=
    ⟨rfl, .inr ⟨w.heap.size, 0, #[], rfl, Nat.le_refl _, heap_alloc_new w _, Nat.le_refl _, by omega, rfl, rfl⟩⟩
  have HW := Lib.hid h.wf
  have SN := sl_ne T n c w
  clear h
  go_enter Try.func36, Try.ntmps36
  go_wp2_with (at_builtin; refine wpList_append_own _ rfl (.tmp 5) (.tmp 6) 22 rfl w.heap.size 25 i0 _ 3 24 Try.underlying22 hi hz hs hb rfl (by decide) _ 0 [] rfl own ⟨T, 0, none⟩ n c (newsL f n) rfl (newsL_len f n) (sls_news S2) (newsL_one f n) ?c3 ?c4 ?c5 ?_)
  case c3 => unfold maxLen; omega
  case c4 => omega
  case c5 => exact B2.size
  intro v' w3 hown hgr _
  have hown : w3.ownsRow w.heap.size 25 3 v' n (newsL f n) := by simpa using hown
  obtain ⟨G2, cp, rfl, hG2, S4, -⟩ := sls_of_own hown hn1 (by omega) HW.out
  have B3 : Below w.heap.size w w3 := B2.grown hgr B2.size (fun k hk => by simp [Value.ownBlock] at hk; omega)
  clear hown hgr
  have S4 := Lib.hid S4
  go_wp2
  go_ret
  exact ⟨G2, cp, rfl, hG2, S4.out, B3⟩
def pup (a : Int) : Nat := 1 + modOf a 100
def pdn (a b : Int) : Nat := modOf b (pup a)
def psp (d : Int) : Nat := 1 + modOf d 4
theorem p_ok (n : Nat) (a b d : Int) (hn : 1 ≤ n) : GOk n ⟨pup a, pdn a b, psp d, 0, n - 1, 0, 0⟩ := by
  have h1 := (modOf_spec a 100 (by omega) (by omega)).2
  have h2 := (modOf_spec d 4 (by omega) (by omega)).2
  have h3 := (modOf_spec b (pup a) (by unfold pup; omega) (by unfold pup; omega)).2
  refine ⟨?_, h3, ?_, ?_, ?_⟩
  · show 1 ≤ pup a ∧ pup a ≤ 100
    unfold pup; omega
  · show 1 ≤ psp d ∧ psp d ≤ 1000
    unfold psp; omega
  · show 0 < psp d
    unfold psp; omega
  · show 0 ≤ 0 ∧ 0 ≤ n - 1 ∧ n - 1 < n
    omega
set_option maxRecDepth 100000 in
set_option maxHeartbeats 2000000 in
theorem par_any (a b d : Int) (w : World) :
    Calls Try.prog 26 #[.agg #[.int .i64 a, .int .i64 b, .int .i64 d]] w fun e w' => e = .returned (.agg #[.int .i64 (pup a : Nat), .int .i64 (pdn a b : Nat), .int .i64 (psp d : Nat)]) ∧ Below w.heap.size w w' := by
  have M1 := mod_any a 100 (by omega) (by omega)
  have M2 := mod_any b (pup a) (by unfold pup; omega) (by have := (modOf_spec a 100 (by omega) (by omega)).2; unfold pup; omega)
  have M3 := mod_any d 4 (by omega) (by omega)
  have hp : 1 + modOf a 100 = pup a := rfl
  have hq : modOf b (pup a) = pdn a b := rfl
  have hr : 1 + modOf d 4 = psp d := rfl
  have ha := (modOf_spec a 100 (by omega) (by omega)).2
  have hd := (modOf_spec d 4 (by omega) (by omega)).2
  rw [hq] at M2
  have M1 := Lib.hid M1
  have M2 := Lib.hid M2
  have M3 := Lib.hid M3
  have hp := Lib.hid hp
  have hr := Lib.hid hr
  clear hq
  generalize pdn a b = y at *
  generalize modOf a 100 = x at *
  generalize modOf d 4 = z at *
  have hpc : ((pup a : Nat) : Int) = 1 + (x : Int) := by have := hp.out; omega
  have hrc : ((psp d : Nat) : Int) = 1 + (z : Int) := by have := hr.out; omega
  rw [hpc] at M2 ⊢
  rw [hrc]
  clear hpc hrc hp hr
  have x0 : ((w.alloc (Obj.cells #[.int .i64 a, .int .i64 b, .int .i64 d] 44)).alloc (Obj.cells #[.int .i64 0, .int .i64 0, .int .i64 0] 44)).cell? ⟨w.heap.size, 0, none⟩ = some (.int .i64 a) := by simp [go_sem]
  have x1 : ((w.alloc (Obj.cells #[.int .i64 a, .int .i64 b, .int .i64 d] 44)).alloc (Obj.cells #[.int .i64 0, .int .i64 0, .int .i64 0] 44)).cell? ⟨w.heap.size, 1, none⟩ = some (.int .i64 b) := by simp [go_sem]
  have x2 : ((w.alloc (Obj.cells #[.int .i64 a, .int .i64 b, .int .i64 d] 44)).alloc (Obj.cells #[.int .i64 0, .int .i64 0, .int .i64 0] 44)).cell? ⟨w.heap.size, 2, none⟩ = some (.int .i64 d) := by simp [go_sem]
  have y0 : ((w.alloc (Obj.cells #[.int .i64 a, .int .i64 b, .int .i64 d] 44)).alloc (Obj.cells #[.int .i64 0, .int .i64 0, .int .i64 0] 44)).cell? ⟨w.heap.size + 1, 0, none⟩ = some (.int .i64 0) := by simp [go_sem]
  have y1 : ((w.alloc (Obj.cells #[.int .i64 a, .int .i64 b, .int .i64 d] 44)).alloc (Obj.cells #[.int .i64 0, .int .i64 0, .int .i64 0] 44)).cell? ⟨w.heap.size + 1, 1, none⟩ = some (.int .i64 0) := by simp [go_sem]
  have y2 : ((w.alloc (Obj.cells #[.int .i64 a, .int .i64 b, .int .i64 d] 44)).alloc (Obj.cells #[.int .i64 0, .int .i64 0, .int .i64 0] 44)).cell? ⟨w.heap.size + 1, 2, none⟩ = some (.int .i64 0) := by simp [go_sem]
  have z0 : ((w.alloc (Obj.cells #[.int .i64 a, .int .i64 b, .int .i64 d] 44)).alloc (Obj.cells #[.int .i64 0, .int .i64 0, .int .i64 0] 44)).frozen? ⟨w.heap.size + 1, 0, none⟩ = false := by simp [go_sem]
  have z1 : ((w.alloc (Obj.cells #[.int .i64 a, .int .i64 b, .int .i64 d] 44)).alloc (Obj.cells #[.int .i64 0, .int .i64 0, .int .i64 0] 44)).frozen? ⟨w.heap.size + 1, 1, none⟩ = false := by simp [go_sem]
  have z2 : ((w.alloc (Obj.cells #[.int .i64 a, .int .i64 b, .int .i64 d] 44)).alloc (Obj.cells #[.int .i64 0, .int .i64 0, .int .i64 0] 44)).frozen? ⟨w.heap.size + 1, 2, none⟩ = false := by simp [go_sem]
  have B1 := bal (bal (Below.refl w.heap.size w) (Obj.cells #[.int .i64 a, .int .i64 b, .int .i64 d] 44)) (Obj.cells #[.int .i64 0, .int .i64 0, .int .i64 0] 44)
  have hsz : w.heap.size + 1 < ((w.alloc (Obj.cells #[.int .i64 a, .int .i64 b, .int .i64 d] 44)).alloc (Obj.cells #[.int .i64 0, .int .i64 0, .int .i64 0] 44)).heap.size := by simp
  have hp0 : ((w.alloc (Obj.cells #[.int .i64 a, .int .i64 b, .int .i64 d] 44)).alloc (Obj.cells #[.int .i64 0, .int .i64 0, .int .i64 0] 44)).heap[w.heap.size + 1]? = some (Obj.cells #[.int .i64 0, .int .i64 0, .int .i64 0] 44) := heap_alloc2_new _ _ _
  have hp1 := heap_setCell_same _ (w.heap.size + 1) 0 _ _ (.int .i64 (1 + (x : Int))) hp0
  have hp2 := heap_setCell_same _ (w.heap.size + 1) 1 _ _ (.int .i64 (y : Int)) hp1
  have hp3 := heap_setCell_same _ (w.heap.size + 1) 2 _ _ (.int .i64 (1 + (z : Int))) hp2
  have HP := Lib.hid hp3
  have B1 := Lib.hid ((((B1.setCell (p := ⟨w.heap.size + 1, 0, none⟩) (by simp) (.int .i64 (1 + (x : Int)))).setCell (p := ⟨w.heap.size + 1, 1, none⟩) (by simp) (.int .i64 (y : Int))).setCell (p := ⟨w.heap.size + 1, 2, none⟩) (by simp) (.int .i64 (1 + (z : Int)))).drew)
  clear hp0 hp1 hp2 hp3
  go_enter Try.func26, Try.ntmps26
  go_wp2_with fail
  refine (M1.out _).mono ?_
  rintro e w' ⟨rfl, rfl⟩
  generalize ((w.alloc (Obj.cells #[.int .i64 a, .int .i64 b, .int .i64 d] 44)).alloc (Obj.cells #[.int .i64 0, .int .i64 0, .int .i64 0] 44)) = W at *
  go_wp2_with fail
  go_still_tail 10, (by kernel_rfl)
  still_call ((M2.out _).mono fun e w' ⟨he, hw⟩ => ⟨he, hw.symm⟩)
  repeat still_step
  still_call ((M3.out _).mono fun e w' ⟨he, hw⟩ => ⟨he, hw.symm⟩)
  repeat still_step
  refine wpStill_nil ?_
  go_wp2
  (try simp only [Exit.inBlock, Exit.then])
  refine bodyPost_ret (results_cell_row rfl _ _ (w.heap.size + 1) 44 _ _ _ rfl HP.out Try.underlying44 rfl ?_) rfl ?_
  · kernel_rfl
  · exact ⟨rfl, B1.out⟩
set_option maxRecDepth 100000 in
set_option maxHeartbeats 2000000 in
theorem new_good (T n c : Nat) (f : Nat → St) (s : GV) (w : World) (h : SlS w (some ⟨T, 0, none⟩) n f) (hv : vld n f = true) (hk : GOk n s) :
    Calls Try.prog 24 #[.slice (some ⟨T, 0, none⟩) n c, .agg #[.int .i64 (s.up : Nat), .int .i64 (s.dn : Nat), .int .i64 (s.sp : Nat)]] w fun e w' =>
      ∃ L T' k, e = .returned (.tuple #[.pointer (some ⟨L, 0, none⟩), .int .i64 0]) ∧ w.heap.size ≤ L ∧ w.heap.size ≤ T' ∧ T' ≠ L ∧ SlS w' (some ⟨T', 0, none⟩) n f ∧
        w'.rowIs L 65 8 (gcell T' n k ⟨s.up, s.dn, s.sp, 0, n - 1, 0, 0⟩) ∧ Below w.heap.size w w' := by
  have C := chk_any _ n c f _ (h.below (bal (Below.refl w.heap.size w) (Obj.cells #[.int .i64 (s.up : Nat), .int .i64 (s.dn : Nat), .int .i64 (s.sp : Nat)] 44)) (Nat.le_refl _))
  have HV := Lib.hid hv
  obtain ⟨hn1, hn⟩ := vld_len hv
  obtain ⟨⟨k1, k2⟩, k3, ⟨k4, k5⟩, k6, -, -, -⟩ := hk
  have x0 : (w.alloc (Obj.cells #[.int .i64 (s.up : Nat), .int .i64 (s.dn : Nat), .int .i64 (s.sp : Nat)] 44)).cell? ⟨w.heap.size, 0, none⟩ = some (.int .i64 (s.up : Nat)) := by simp [go_sem]
  have x1 : (w.alloc (Obj.cells #[.int .i64 (s.up : Nat), .int .i64 (s.dn : Nat), .int .i64 (s.sp : Nat)] 44)).cell? ⟨w.heap.size, 1, none⟩ = some (.int .i64 (s.dn : Nat)) := by simp [go_sem]
  have x2 : (w.alloc (Obj.cells #[.int .i64 (s.up : Nat), .int .i64 (s.dn : Nat), .int .i64 (s.sp : Nat)] 44)).cell? ⟨w.heap.size, 2, none⟩ = some (.int .i64 (s.sp : Nat)) := by simp [go_sem]
  have S1 := h.below (bal (Below.refl w.heap.size w) (Obj.cells #[.int .i64 (s.up : Nat), .int .i64 (s.dn : Nat), .int .i64 (s.sp : Nat)] 44)) (Nat.le_refl _)
  have B1 := bal (Below.refl w.heap.size w) (Obj.cells #[.int .i64 (s.up : Nat), .int .i64 (s.dn : Nat), .int .i64 (s.sp : Nat)] 44)
  have hsz : w.heap.size < (w.alloc (Obj.cells #[.int .i64 (s.up : Nat), .int .i64 (s.dn : Nat), .int .i64 (s.sp : Nat)] 44)).heap.size := by simp
  obtain ⟨up, dn, sp, lo, hi, cu, lz⟩ := s
  simp only at *
  clear hv h
  go_enter Try.func24, Try.ntmps24
  go_wp2_with fail
  generalize w.alloc (Obj.cells #[.int .i64 (up : Nat), .int .i64 (dn : Nat), .int .i64 (sp : Nat)] 44) = w1 at *
  refine C.mono ?_
  rintro e w2 ⟨rfl, b1⟩
  clear C
  rw [HV.out]
  rw [← b1.cell (by exact hsz)] at x0 x1 x2
  have S2 := Lib.hid (S1.below b1 (Nat.le_refl _))
  have B2 := Lib.hid (bel2 B1 b1)
  have hsz2 : w.heap.size < w2.heap.size := by have := b1.size; omega
  clear S1 B1 b1 hsz
  have CL := Lib.hid (clone_pos T n c f w2.drew (S2.out.below (Below.refl _ _).drew (Nat.le_refl _)) hn1 hn)
  go_wp2_with fail
  go_region_held3 (fun w' => w'.cell? ⟨w.heap.size, 0, none⟩ = some (.int .i64 (up : Nat)) ∧ w'.cell? ⟨w.heap.size, 1, none⟩ = some (.int .i64 (dn : Nat)) ∧ w'.cell? ⟨w.heap.size, 2, none⟩ = some (.int .i64 (sp : Nat)))
    (first | go_keep | exact ⟨(hb9.cell (by exact hsz2)).trans x0, (hb9.cell (by exact hsz2)).trans x1, (hb9.cell (by exact hsz2)).trans x2⟩)
    ((go_at_call 36; refine CL.out.mono ?_; rintro e w9 ⟨G, k, rfl, hG9, S9, hb9⟩))
  have hwr : IntKind.i64.wrap ((n : Int) - 1) = ((n - 1 : Nat) : Int) := by rw [IntWalk.i64_in _ (by omega)]; omega
  rw [hwr]
  have hs9 := hb9.size
  have R9 : (w9.alloc (Obj.cells #[.slice (some ⟨G, 0, none⟩) n k, .int .i64 (up : Nat), .int .i64 (dn : Nat), .int .i64 (sp : Nat), .int .i64 0, .int .i64 ((n - 1 : Nat) : Int), .int .i64 0, .int .i64 0] 65)).rowIs w9.heap.size 65 8 (gcell G n k ⟨up, dn, sp, 0, n - 1, 0, 0⟩) := by
    refine World.rowIs_alloc w9 #[.slice (some ⟨G, 0, none⟩) n k, .int .i64 (up : Nat), .int .i64 (dn : Nat), .int .i64 (sp : Nat), .int .i64 0, .int .i64 ((n - 1 : Nat) : Int), .int .i64 0, .int .i64 0] 65 (gcell G n k ⟨up, dn, sp, 0, n - 1, 0, 0⟩) fun j hj => ?_
    match j, hj with
    | 0, _ | 1, _ | 2, _ | 3, _ | 4, _ | 5, _ | 6, _ | 7, _ => rfl
  have hGl := S9.lt hn1
  have S10 := S9.below (bal (Below.refl w9.heap.size w9) (Obj.cells #[.slice (some ⟨G, 0, none⟩) n k, .int .i64 (up : Nat), .int .i64 (dn : Nat), .int .i64 (sp : Nat), .int .i64 0, .int .i64 ((n - 1 : Nat) : Int), .int .i64 0, .int .i64 0] 65)) (Nat.le_refl _)
  have B10 := bal (bel2 B2.out.drew hb9) (Obj.cells #[.slice (some ⟨G, 0, none⟩) n k, .int .i64 (up : Nat), .int .i64 (dn : Nat), .int .i64 (sp : Nat), .int .i64 0, .int .i64 ((n - 1 : Nat) : Int), .int .i64 0, .int .i64 0] 65)
  have R9 := Lib.hid R9
  have S10 := Lib.hid S10
  have B10 := Lib.hid B10
  have hG9' : w.heap.size ≤ G := by have h1 : w2.heap.size ≤ G := hG9; omega
  have hs9' : w.heap.size ≤ w9.heap.size := by have h1 : w2.heap.size ≤ w9.heap.size := hs9; omega
  have hne : G ≠ w9.heap.size := by omega
  clear hb9 S9 hG9 hs9
  go_wp2
  go_ret2
  exact ⟨w9.heap.size, G, k, rfl, hs9', hG9', hne, S10.out, R9.out, B10.out⟩
end Go.Proofs.Ytfmaadfccnjnjaa
