/- New of both governors, wherever the table lies and whatever the parameters are. -/
import Derived.Test.YtfmaadfccnjnjaaRsm
import Derived.Deep.AppendLies
import Derived.Deep.RegionHeld3
namespace Go.Proofs.Ytfmaadfccnjnjaa
open Go.ChangeShapes Go.WideShapes Go.ChangeAt Go.RowKit Go.Deep Go.Joins
attribute [local go_sem ↓] Go.wp_at_zero Go.wp_at_succ

theorem sls_news_o {w : World} {b off n : Nat} {f : Nat → St} (h : SlS w (some ⟨b, off, none⟩) n f) (j : Nat) (u : Value) (hu : (newsL f n)[j]? = some u) : w.cell? (Addr.add ⟨b, off, none⟩ j) = some u := by
  obtain ⟨hj, rfl⟩ := (newsL_get f n j u).1 hu
  rw [add_plain]
  rcases h.row with h0 | ⟨b', off', hA, -, hc⟩
  · omega
  · injection hA with hA
    injection hA with e1 e2
    subst e1 e2
    obtain ⟨c0, c1, c2⟩ := hc (j / 3) (by omega)
    rcases (show j = j / 3 * 3 ∨ j = j / 3 * 3 + 1 ∨ j = j / 3 * 3 + 2 by omega) with e | e | e
    · rw [show off + j = off + j / 3 * 3 by omega, c0, e, cellOf_0, show j / 3 * 3 / 3 = j / 3 by omega]
    · rw [show off + j = off + j / 3 * 3 + 1 by omega, c1, e, cellOf_1, show (j / 3 * 3 + 1) / 3 = j / 3 by omega]
    · rw [show off + j = off + j / 3 * 3 + 2 by omega, c2, e, cellOf_2, show (j / 3 * 3 + 2) / 3 = j / 3 by omega]
theorem sl_ne_o (T o n c : Nat) (w : World) : (Go.binOp BinOp.eql 22 (.slice (some ⟨T, o, none⟩) n c) (.slice none 0 0)).run Try.prog w = .ok (.bool false) w := by kernel_rfl
theorem clone_o (T o n c : Nat) (f : Nat → St) (w : World) (h : SlS w (some ⟨T, o, none⟩) n f) (hn1 : 1 ≤ n) (hn : n ≤ 16) :
    Calls Try.prog 36 #[.slice (some ⟨T, o, none⟩) n c] w fun e w' => ∃ G k, e = .returned (.slice (some ⟨G, 0, none⟩) n k) ∧ w.heap.size ≤ G ∧ SlS w' (some ⟨G, 0, none⟩) n f ∧ Below w.heap.size w w' := by
  obtain ⟨i0, hi, hzz⟩ := Option.map_eq_some_iff.1 info25
  simp only [Prod.mk.injEq] at hzz
  obtain ⟨hz, hs, hb⟩ := hzz
  have B2 : Below w.heap.size w (w.alloc (.cells #[] 25)) := (Below.refl _ _).alloc (Nat.le_refl _) _
  have S2 := h.below B2 (Nat.le_refl _)
  have own : (w.alloc (.cells #[] 25)).ownsRow w.heap.size 25 3 (.slice (some ⟨w.heap.size, 0, none⟩) 0 0) 0 [] :=
    ⟨rfl, .inr ⟨w.heap.size, 0, #[], rfl, Nat.le_refl _, heap_alloc_new w _, Nat.le_refl _, by omega, rfl, rfl⟩⟩
  have HW := Lib.hid h.wf
  have SN := sl_ne_o T o n c w
  clear h
  go_enter Try.func36, Try.ntmps36
  go_wp2_with (at_builtin; refine wpList_append_own _ rfl (.tmp 5) (.tmp 6) 22 rfl w.heap.size 25 i0 _ 3 24 Try.underlying22 hi hz hs hb rfl (by decide) _ 0 [] rfl own ⟨T, o, none⟩ n c (newsL f n) rfl (newsL_len f n) (sls_news_o S2) (newsL_one f n) ?c3 ?c4 ?c5 ?_)
  case c3 => unfold maxLen; omega
  case c4 => omega
  case c5 => exact B2.size
  intro v' w3 hown hgr _
  have hown : w3.ownsRow w.heap.size 25 3 v' n (newsL f n) := by simpa using hown
  obtain ⟨G2, cp, rfl, hG2, S4, -⟩ := sls_of_own hown hn1 (by omega) HW.out
  have B3 : Below w.heap.size w w3 := B2.grown hgr B2.size (fun k hk => by simp [Value.ownBlock] at hk; omega)
  clear hown hgr
  have S4 := Lib.hid S4
  go_wp2
  go_ret
  exact ⟨G2, cp, rfl, hG2, S4.out, B3⟩
set_option maxRecDepth 100000 in
set_option maxHeartbeats 2000000 in
theorem new_o (T o n c : Nat) (f : Nat → St) (s : GV) (w : World) (h : SlS w (some ⟨T, o, none⟩) n f) (hv : vld n f = true) (hk : GOk n s) :
    Calls Try.prog 24 #[.slice (some ⟨T, o, none⟩) n c, .agg #[.int .i64 (s.up : Nat), .int .i64 (s.dn : Nat), .int .i64 (s.sp : Nat)]] w fun e w' =>
      ∃ L T' k, e = .returned (.tuple #[.pointer (some ⟨L, 0, none⟩), .int .i64 0]) ∧ w.heap.size ≤ L ∧ w.heap.size ≤ T' ∧ T' ≠ L ∧ SlS w' (some ⟨T', 0, none⟩) n f ∧
        w'.rowIs L 65 8 (gcell T' n k ⟨s.up, s.dn, s.sp, 0, n - 1, 0, 0⟩) ∧ Below w.heap.size w w' := by
  have C := chk_any _ n c f _ (h.below (bal (Below.refl w.heap.size w) (Obj.cells #[.int .i64 (s.up : Nat), .int .i64 (s.dn : Nat), .int .i64 (s.sp : Nat)] 44)) (Nat.le_refl _))
  have HV := Lib.hid hv
  obtain ⟨hn1, hn⟩ := vld_len hv
  obtain ⟨⟨k1, k2⟩, k3, ⟨k4, k5⟩, k6, -, -, -⟩ := hk
  have x0 : (w.alloc (Obj.cells #[.int .i64 (s.up : Nat), .int .i64 (s.dn : Nat), .int .i64 (s.sp : Nat)] 44)).cell? ⟨w.heap.size, 0, none⟩ = some (.int .i64 (s.up : Nat)) := by simp [go_sem]
  have x1 : (w.alloc (Obj.cells #[.int .i64 (s.up : Nat), .int .i64 (s.dn : Nat), .int .i64 (s.sp : Nat)] 44)).cell? ⟨w.heap.size, 1, none⟩ = some (.int .i64 (s.dn : Nat)) := by simp [go_sem]
  have x2 : (w.alloc (Obj.cells #[.int .i64 (s.up : Nat), .int .i64 (s.dn : Nat), .int .i64 (s.sp : Nat)] 44)).cell? ⟨w.heap.size, 2, none⟩ = some (.int .i64 (s.sp : Nat)) := by simp [go_sem]
  have S1 := h.below (bal (Below.refl w.heap.size w) (Obj.cells #[.int .i64 (s.up : Nat), .int .i64 (s.dn : Nat), .int .i64 (s.sp : Nat)] 44)) (Nat.le_refl _)
  have B1 := bal (Below.refl w.heap.size w) (Obj.cells #[.int .i64 (s.up : Nat), .int .i64 (s.dn : Nat), .int .i64 (s.sp : Nat)] 44)
  have hsz : w.heap.size < (w.alloc (Obj.cells #[.int .i64 (s.up : Nat), .int .i64 (s.dn : Nat), .int .i64 (s.sp : Nat)] 44)).heap.size := by simp
  obtain ⟨up, dn, sp, lo, hi, cu, lz⟩ := s
  simp only at *
  clear hv h
  go_enter Try.func24, Try.ntmps24
  go_wp2_with fail
  generalize w.alloc (Obj.cells #[.int .i64 (up : Nat), .int .i64 (dn : Nat), .int .i64 (sp : Nat)] 44) = w1 at *
  refine C.mono ?_
  rintro e w2 ⟨rfl, b1⟩
  clear C
  rw [HV.out]
  rw [← b1.cell (by exact hsz)] at x0 x1 x2
  have S2 := Lib.hid (S1.below b1 (Nat.le_refl _))
  have B2 := Lib.hid (bel2 B1 b1)
  have hsz2 : w.heap.size < w2.heap.size := by have := b1.size; omega
  clear S1 B1 b1 hsz
  have CL := Lib.hid (clone_o T o n c f w2.drew (S2.out.below (Below.refl _ _).drew (Nat.le_refl _)) hn1 hn)
  go_wp2_with fail
  go_region_held3 (fun w' => w'.cell? ⟨w.heap.size, 0, none⟩ = some (.int .i64 (up : Nat)) ∧ w'.cell? ⟨w.heap.size, 1, none⟩ = some (.int .i64 (dn : Nat)) ∧ w'.cell? ⟨w.heap.size, 2, none⟩ = some (.int .i64 (sp : Nat)))
    (first | go_keep | exact ⟨(hb9.cell (by exact hsz2)).trans x0, (hb9.cell (by exact hsz2)).trans x1, (hb9.cell (by exact hsz2)).trans x2⟩)
    ((go_at_call 36; refine CL.out.mono ?_; rintro e w9 ⟨G, k, rfl, hG9, S9, hb9⟩))
  have hwr : IntKind.i64.wrap ((n : Int) - 1) = ((n - 1 : Nat) : Int) := by rw [IntWalk.i64_in _ (by omega)]; omega
  rw [hwr]
  have hs9 := hb9.size
  have R9 : (w9.alloc (Obj.cells #[.slice (some ⟨G, 0, none⟩) n k, .int .i64 (up : Nat), .int .i64 (dn : Nat), .int .i64 (sp : Nat), .int .i64 0, .int .i64 ((n - 1 : Nat) : Int), .int .i64 0, .int .i64 0] 65)).rowIs w9.heap.size 65 8 (gcell G n k ⟨up, dn, sp, 0, n - 1, 0, 0⟩) := by
    refine World.rowIs_alloc w9 #[.slice (some ⟨G, 0, none⟩) n k, .int .i64 (up : Nat), .int .i64 (dn : Nat), .int .i64 (sp : Nat), .int .i64 0, .int .i64 ((n - 1 : Nat) : Int), .int .i64 0, .int .i64 0] 65 (gcell G n k ⟨up, dn, sp, 0, n - 1, 0, 0⟩) fun j hj => ?_
    match j, hj with
    | 0, _ | 1, _ | 2, _ | 3, _ | 4, _ | 5, _ | 6, _ | 7, _ => rfl
  have hGl := S9.lt hn1
  have S10 := S9.below (bal (Below.refl w9.heap.size w9) (Obj.cells #[.slice (some ⟨G, 0, none⟩) n k, .int .i64 (up : Nat), .int .i64 (dn : Nat), .int .i64 (sp : Nat), .int .i64 0, .int .i64 ((n - 1 : Nat) : Int), .int .i64 0, .int .i64 0] 65)) (Nat.le_refl _)
  have B10 := bal (bel2 B2.out.drew hb9) (Obj.cells #[.slice (some ⟨G, 0, none⟩) n k, .int .i64 (up : Nat), .int .i64 (dn : Nat), .int .i64 (sp : Nat), .int .i64 0, .int .i64 ((n - 1 : Nat) : Int), .int .i64 0, .int .i64 0] 65)
  have R9 := Lib.hid R9
  have S10 := Lib.hid S10
  have B10 := Lib.hid B10
  have hG9' : w.heap.size ≤ G := by have h1 : w2.heap.size ≤ G := hG9; omega
  have hs9' : w.heap.size ≤ w9.heap.size := by have h1 : w2.heap.size ≤ w9.heap.size := hs9; omega
  have hne : G ≠ w9.heap.size := by omega
  clear hb9 S9 hG9 hs9
  go_wp2
  go_ret2
  exact ⟨w9.heap.size, G, k, rfl, hs9', hG9', hne, S10.out, R9.out, B10.out⟩
set_option maxRecDepth 100000 in
set_option maxHeartbeats 2000000 in
theorem newp_a (A : Option Addr) (n c : Nat) (f : Nat → St) (up dn sp : Int) (w : World) (h : SlS w A n f) (hv : vld n f = true) (hp : up < 1 ∨ 100 < up ∨ dn < 0 ∨ up ≤ dn ∨ sp < 1 ∨ 1000 < sp) :
    Calls Try.prog 24 #[.slice A n c, .agg #[.int .i64 up, .int .i64 dn, .int .i64 sp]] w fun e w' => e = .returned (.tuple #[.pointer none, .int .i64 1]) ∧ Below w.heap.size w w' := by
  have C := chk_any A n c f _ (h.below (bal (Below.refl w.heap.size w) (Obj.cells #[.int .i64 up, .int .i64 dn, .int .i64 sp] 44)) (Nat.le_refl _))
  have HV := Lib.hid hv
  have x0 : (w.alloc (Obj.cells #[.int .i64 up, .int .i64 dn, .int .i64 sp] 44)).cell? ⟨w.heap.size, 0, none⟩ = some (.int .i64 up) := by simp [go_sem]
  have x1 : (w.alloc (Obj.cells #[.int .i64 up, .int .i64 dn, .int .i64 sp] 44)).cell? ⟨w.heap.size, 1, none⟩ = some (.int .i64 dn) := by simp [go_sem]
  have x2 : (w.alloc (Obj.cells #[.int .i64 up, .int .i64 dn, .int .i64 sp] 44)).cell? ⟨w.heap.size, 2, none⟩ = some (.int .i64 sp) := by simp [go_sem]
  have B1 := bal (Below.refl w.heap.size w) (Obj.cells #[.int .i64 up, .int .i64 dn, .int .i64 sp] 44)
  have hsz : w.heap.size < (w.alloc (Obj.cells #[.int .i64 up, .int .i64 dn, .int .i64 sp] 44)).heap.size := by simp
  clear hv h
  by_cases h0 : up < 1
  · clear hp
    go_enter Try.func24, Try.ntmps24
    go_wp2_with fail
    generalize w.alloc (Obj.cells #[.int .i64 up, .int .i64 dn, .int .i64 sp] 44) = w1 at *
    refine C.mono ?_
    rintro e w2 ⟨rfl, b1⟩
    clear C
    rw [HV.out]
    rw [← b1.cell (by exact hsz)] at x0 x1 x2
    have B2 := Lib.hid (bel2 B1 b1)
    clear b1 B1 hsz
    go_wp2
    go_ret2
    exact ⟨rfl, B2.out⟩
  by_cases h1 : 100 < up
  · clear hp
    go_enter Try.func24, Try.ntmps24
    go_wp2_with fail
    generalize w.alloc (Obj.cells #[.int .i64 up, .int .i64 dn, .int .i64 sp] 44) = w1 at *
    refine C.mono ?_
    rintro e w2 ⟨rfl, b1⟩
    clear C
    rw [HV.out]
    rw [← b1.cell (by exact hsz)] at x0 x1 x2
    have B2 := Lib.hid (bel2 B1 b1)
    clear b1 B1 hsz
    go_wp2
    go_ret2
    exact ⟨rfl, B2.out⟩
  by_cases h2 : dn < 0
  · clear hp
    go_enter Try.func24, Try.ntmps24
    go_wp2_with fail
    generalize w.alloc (Obj.cells #[.int .i64 up, .int .i64 dn, .int .i64 sp] 44) = w1 at *
    refine C.mono ?_
    rintro e w2 ⟨rfl, b1⟩
    clear C
    rw [HV.out]
    rw [← b1.cell (by exact hsz)] at x0 x1 x2
    have B2 := Lib.hid (bel2 B1 b1)
    clear b1 B1 hsz
    go_wp2
    go_ret2
    exact ⟨rfl, B2.out⟩
  by_cases h3 : up ≤ dn
  · clear hp
    go_enter Try.func24, Try.ntmps24
    go_wp2_with fail
    generalize w.alloc (Obj.cells #[.int .i64 up, .int .i64 dn, .int .i64 sp] 44) = w1 at *
    refine C.mono ?_
    rintro e w2 ⟨rfl, b1⟩
    clear C
    rw [HV.out]
    rw [← b1.cell (by exact hsz)] at x0 x1 x2
    have B2 := Lib.hid (bel2 B1 b1)
    clear b1 B1 hsz
    go_wp2
    go_ret2
    exact ⟨rfl, B2.out⟩
  by_cases h4 : sp < 1
  · clear hp
    go_enter Try.func24, Try.ntmps24
    go_wp2_with fail
    generalize w.alloc (Obj.cells #[.int .i64 up, .int .i64 dn, .int .i64 sp] 44) = w1 at *
    refine C.mono ?_
    rintro e w2 ⟨rfl, b1⟩
    clear C
    rw [HV.out]
    rw [← b1.cell (by exact hsz)] at x0 x1 x2
    have B2 := Lib.hid (bel2 B1 b1)
    clear b1 B1 hsz
    go_wp2
    go_ret2
    exact ⟨rfl, B2.out⟩
  have h5 : 1000 < sp := by omega
  · clear hp
    go_enter Try.func24, Try.ntmps24
    go_wp2_with fail
    generalize w.alloc (Obj.cells #[.int .i64 up, .int .i64 dn, .int .i64 sp] 44) = w1 at *
    refine C.mono ?_
    rintro e w2 ⟨rfl, b1⟩
    clear C
    rw [HV.out]
    rw [← b1.cell (by exact hsz)] at x0 x1 x2
    have B2 := Lib.hid (bel2 B1 b1)
    clear b1 B1 hsz
    go_wp2
    go_ret2
    exact ⟨rfl, B2.out⟩
set_option maxRecDepth 100000 in
theorem newv_a (A : Option Addr) (n c : Nat) (f : Nat → St) (up dn sp : Int) (w : World) (h : SlS w A n f) (hv : vld n f = false) :
    Calls Try.prog 24 #[.slice A n c, .agg #[.int .i64 up, .int .i64 dn, .int .i64 sp]] w fun e w' => e = .returned (.tuple #[.pointer none, .int .i64 1]) ∧ Below w.heap.size w w' := by
  have C := chk_any A n c f _ (h.below (bal (Below.refl w.heap.size w) (Obj.cells #[.int .i64 up, .int .i64 dn, .int .i64 sp] 44)) (Nat.le_refl _))
  have HV := Lib.hid hv
  have B1 := bal (Below.refl w.heap.size w) (Obj.cells #[.int .i64 up, .int .i64 dn, .int .i64 sp] 44)
  clear hv h
  go_enter Try.func24, Try.ntmps24
  go_wp2_with fail
  generalize w.alloc (Obj.cells #[.int .i64 up, .int .i64 dn, .int .i64 sp] 44) = w1 at *
  refine C.mono ?_
  rintro e w2 ⟨rfl, b1⟩
  clear C
  rw [HV.out]
  have B2 := Lib.hid (bel2 B1 b1)
  clear b1 B1
  go_wp2
  go_ret2
  exact ⟨rfl, B2.out⟩
set_option maxRecDepth 100000 in
set_option maxHeartbeats 2000000 in
theorem newp_b (A : Option Addr) (n c : Nat) (f : Nat → St) (up dn sp : Int) (w : World) (h : SlS w A n f) (hv : vld n f = true) (hp : up < 1 ∨ 100 < up ∨ dn < 0 ∨ up ≤ dn ∨ sp < 1 ∨ 1000 < sp) :
    Calls Try.prog 25 #[.slice A n c, .agg #[.int .i64 up, .int .i64 dn, .int .i64 sp]] w fun e w' => e = .returned (.tuple #[.pointer none, .int .i64 1]) ∧ Below w.heap.size w w' := by
  have C := rchk_any A n c f _ (h.below (bal (Below.refl w.heap.size w) (Obj.cells #[.int .i64 up, .int .i64 dn, .int .i64 sp] 44)) (Nat.le_refl _))
  have HV := Lib.hid hv
  have x0 : (w.alloc (Obj.cells #[.int .i64 up, .int .i64 dn, .int .i64 sp] 44)).cell? ⟨w.heap.size, 0, none⟩ = some (.int .i64 up) := by simp [go_sem]
  have x1 : (w.alloc (Obj.cells #[.int .i64 up, .int .i64 dn, .int .i64 sp] 44)).cell? ⟨w.heap.size, 1, none⟩ = some (.int .i64 dn) := by simp [go_sem]
  have x2 : (w.alloc (Obj.cells #[.int .i64 up, .int .i64 dn, .int .i64 sp] 44)).cell? ⟨w.heap.size, 2, none⟩ = some (.int .i64 sp) := by simp [go_sem]
  have B1 := bal (Below.refl w.heap.size w) (Obj.cells #[.int .i64 up, .int .i64 dn, .int .i64 sp] 44)
  have hsz : w.heap.size < (w.alloc (Obj.cells #[.int .i64 up, .int .i64 dn, .int .i64 sp] 44)).heap.size := by simp
  clear hv h
  by_cases h0 : up < 1
  · clear hp
    go_enter Try.func25, Try.ntmps25
    go_wp2_with fail
    generalize w.alloc (Obj.cells #[.int .i64 up, .int .i64 dn, .int .i64 sp] 44) = w1 at *
    refine C.mono ?_
    rintro e w2 ⟨rfl, b1⟩
    clear C
    rw [HV.out]
    rw [← b1.cell (by exact hsz)] at x0 x1 x2
    have B2 := Lib.hid (bel2 B1 b1)
    clear b1 B1 hsz
    go_wp2
    go_ret2
    exact ⟨rfl, B2.out⟩
  by_cases h1 : 100 < up
  · clear hp
    go_enter Try.func25, Try.ntmps25
    go_wp2_with fail
    generalize w.alloc (Obj.cells #[.int .i64 up, .int .i64 dn, .int .i64 sp] 44) = w1 at *
    refine C.mono ?_
    rintro e w2 ⟨rfl, b1⟩
    clear C
    rw [HV.out]
    rw [← b1.cell (by exact hsz)] at x0 x1 x2
    have B2 := Lib.hid (bel2 B1 b1)
    clear b1 B1 hsz
    go_wp2
    go_ret2
    exact ⟨rfl, B2.out⟩
  by_cases h2 : dn < 0
  · clear hp
    go_enter Try.func25, Try.ntmps25
    go_wp2_with fail
    generalize w.alloc (Obj.cells #[.int .i64 up, .int .i64 dn, .int .i64 sp] 44) = w1 at *
    refine C.mono ?_
    rintro e w2 ⟨rfl, b1⟩
    clear C
    rw [HV.out]
    rw [← b1.cell (by exact hsz)] at x0 x1 x2
    have B2 := Lib.hid (bel2 B1 b1)
    clear b1 B1 hsz
    go_wp2
    go_ret2
    exact ⟨rfl, B2.out⟩
  by_cases h3 : up ≤ dn
  · clear hp
    go_enter Try.func25, Try.ntmps25
    go_wp2_with fail
    generalize w.alloc (Obj.cells #[.int .i64 up, .int .i64 dn, .int .i64 sp] 44) = w1 at *
    refine C.mono ?_
    rintro e w2 ⟨rfl, b1⟩
    clear C
    rw [HV.out]
    rw [← b1.cell (by exact hsz)] at x0 x1 x2
    have B2 := Lib.hid (bel2 B1 b1)
    clear b1 B1 hsz
    go_wp2
    go_ret2
    exact ⟨rfl, B2.out⟩
  by_cases h4 : sp < 1
  · clear hp
    go_enter Try.func25, Try.ntmps25
    go_wp2_with fail
    generalize w.alloc (Obj.cells #[.int .i64 up, .int .i64 dn, .int .i64 sp] 44) = w1 at *
    refine C.mono ?_
    rintro e w2 ⟨rfl, b1⟩
    clear C
    rw [HV.out]
    rw [← b1.cell (by exact hsz)] at x0 x1 x2
    have B2 := Lib.hid (bel2 B1 b1)
    clear b1 B1 hsz
    go_wp2
    go_ret2
    exact ⟨rfl, B2.out⟩
  have h5 : 1000 < sp := by omega
  · clear hp
    go_enter Try.func25, Try.ntmps25
    go_wp2_with fail
    generalize w.alloc (Obj.cells #[.int .i64 up, .int .i64 dn, .int .i64 sp] 44) = w1 at *
    refine C.mono ?_
    rintro e w2 ⟨rfl, b1⟩
    clear C
    rw [HV.out]
    rw [← b1.cell (by exact hsz)] at x0 x1 x2
    have B2 := Lib.hid (bel2 B1 b1)
    clear b1 B1 hsz
    go_wp2
    go_ret2
    exact ⟨rfl, B2.out⟩
set_option maxRecDepth 100000 in
theorem newv_b (A : Option Addr) (n c : Nat) (f : Nat → St) (up dn sp : Int) (w : World) (h : SlS w A n f) (hv : vld n f = false) :
    Calls Try.prog 25 #[.slice A n c, .agg #[.int .i64 up, .int .i64 dn, .int .i64 sp]] w fun e w' => e = .returned (.tuple #[.pointer none, .int .i64 1]) ∧ Below w.heap.size w w' := by
  have C := rchk_any A n c f _ (h.below (bal (Below.refl w.heap.size w) (Obj.cells #[.int .i64 up, .int .i64 dn, .int .i64 sp] 44)) (Nat.le_refl _))
  have HV := Lib.hid hv
  have B1 := bal (Below.refl w.heap.size w) (Obj.cells #[.int .i64 up, .int .i64 dn, .int .i64 sp] 44)
  clear hv h
  go_enter Try.func25, Try.ntmps25
  go_wp2_with fail
  generalize w.alloc (Obj.cells #[.int .i64 up, .int .i64 dn, .int .i64 sp] 44) = w1 at *
  refine C.mono ?_
  rintro e w2 ⟨rfl, b1⟩
  clear C
  rw [HV.out]
  have B2 := Lib.hid (bel2 B1 b1)
  clear b1 B1
  go_wp2
  go_ret2
  exact ⟨rfl, B2.out⟩
end Go.Proofs.Ytfmaadfccnjnjaa
