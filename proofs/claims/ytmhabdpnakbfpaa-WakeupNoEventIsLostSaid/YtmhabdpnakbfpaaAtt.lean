/- The arguments of a call. -/
import Derived.Test.YtmhabdpnakbfpaaArw
namespace Go.Proofs.Ytmhabdpnakbfpaa
open Go.ChangeShapes Go.WideShapes Go.ChangeAt Go.RowKit Go.Deep Go.Joins

structure Cl where
  k : Int
  s : Int
  t : Int
  h : Int
  e : Int
  raw : Bool
def Cl.cells (c : Cl) : Array Value := #[.int .i64 c.k, .int .i64 c.s, .int .u64 c.t, .int .u64 c.h, .int .i64 c.e, .bool c.raw]
/-- Arguments. -/
structure Ar where
  s : Int
  t : Int
  o : Int
  e : Int
def Ar.cells (a : Ar) : Array Value := #[.int .i64 a.s, .int .u64 a.t, .int .u64 a.o, .int .i64 a.e]
def atR (c : Cl) (n : Nat) (now ev : Int) : Ar :=
  if c.raw then ⟨c.s, c.t, c.h, c.e⟩ else
  ⟨if 0 < n then (modOf c.s n : Nat) else 0, wU (now + c.t.tmod 10), if modOf c.k 9 = 5 then wU (wU (now + c.t.tmod 10) + c.h.tmod 12) else c.h.tmod 12, if c.e.tmod 5 = 0 then c.e else ev⟩
theorem cells_at {w : World} {b t : Nat} {cs : Array Value} {fr : Nat × Nat} (h : w.heap[b]? = some (.cells cs t fr)) (j : Nat) : w.cell? ⟨b, j, none⟩ = cs[j]? := by
  unfold World.cell?
  rw [h]
  rfl
structure VS (w : World) (Z R V : Nat) (c : Cl) (a b d e : Int) (wx : World) : Prop where
  z : wx.heap[Z]? = some (.cells #[.int .i64 c.k, .int .i64 c.s, .int .u64 c.t, .int .u64 c.h, .int .i64 c.e, .bool c.raw] 36 (0, 0))
  r : wx.heap[R]? = some (.cells #[.int .i64 0, .int .u64 0, .int .u64 0, .int .i64 0] 34 (0, 0))
  v : wx.heap[V]? = some (.cells #[.int .i64 a, .int .u64 b, .int .u64 d, .int .i64 e] 34 (0, 0))
  b : Below w.heap.size w wx
section
variable {w wx : World} {Z R V : Nat} {c : Cl} {a b d e : Int}
theorem VS.set0 (h : VS w Z R V c a b d e wx) (hV : w.heap.size ≤ V) (zv : Z ≠ V) (rv : R ≠ V) (x : Int) : VS w Z R V c x b d e (wx.setCell ⟨V, 0, none⟩ (.int .i64 x)) :=
  ⟨(heap_setCell_other _ ⟨V, 0, none⟩ Z _ zv).trans h.z, (heap_setCell_other _ ⟨V, 0, none⟩ R _ rv).trans h.r, heap_setCell_same _ V 0 _ _ _ h.v, bel_only h.b (g_store _ _ _ _) hV⟩
theorem VS.set2 (h : VS w Z R V c a b d e wx) (hV : w.heap.size ≤ V) (zv : Z ≠ V) (rv : R ≠ V) (x : Int) : VS w Z R V c a b x e (wx.setCell ⟨V, 2, none⟩ (.int .u64 x)) :=
  ⟨(heap_setCell_other _ ⟨V, 2, none⟩ Z _ zv).trans h.z, (heap_setCell_other _ ⟨V, 2, none⟩ R _ rv).trans h.r, heap_setCell_same _ V 2 _ _ _ h.v, bel_only h.b (g_store _ _ _ _) hV⟩
theorem VS.set3 (h : VS w Z R V c a b d e wx) (hV : w.heap.size ≤ V) (zv : Z ≠ V) (rv : R ≠ V) (x : Int) : VS w Z R V c a b d x (wx.setCell ⟨V, 3, none⟩ (.int .i64 x)) :=
  ⟨(heap_setCell_other _ ⟨V, 3, none⟩ Z _ zv).trans h.z, (heap_setCell_other _ ⟨V, 3, none⟩ R _ rv).trans h.r, heap_setCell_same _ V 3 _ _ _ h.v, bel_only h.b (g_store _ _ _ _) hV⟩
theorem r_done (hr : wx.heap[R]? = some (.cells #[.int .i64 0, .int .u64 0, .int .u64 0, .int .i64 0] 34 (0, 0))) (a b d e : Int) :
    ((((wx.setCell ⟨R, 0, none⟩ (.int .i64 a)).setCell ⟨R, 1, none⟩ (.int .u64 b)).setCell ⟨R, 2, none⟩ (.int .u64 d)).setCell ⟨R, 3, none⟩ (.int .i64 e)).heap[R]? = some (.cells #[.int .i64 a, .int .u64 b, .int .u64 d, .int .i64 e] 34 (0, 0)) := by
  have h1 := heap_setCell_same _ R 0 _ _ (.int .i64 a) hr
  have h2 := heap_setCell_same _ R 1 _ _ (.int .u64 b) h1
  have h3 := heap_setCell_same _ R 2 _ _ (.int .u64 d) h2
  exact heap_setCell_same _ R 3 _ _ (.int .i64 e) h3
theorem r_bel {w : World} (h : Below w.heap.size w wx) (hR : w.heap.size ≤ R) (a b d e : Int) : Below w.heap.size w ((((wx.setCell ⟨R, 0, none⟩ (.int .i64 a)).setCell ⟨R, 1, none⟩ (.int .u64 b)).setCell ⟨R, 2, none⟩ (.int .u64 d)).setCell ⟨R, 3, none⟩ (.int .i64 e)) :=
  bel_only h (g_then (g_then (g_then (g_store _ _ _ _) (g_store _ _ _ _)) (g_store _ _ _ _)) (g_store _ _ _ _)) hR
theorem frz {w : World} {b t : Nat} {cs : Array Value} (h : w.heap[b]? = some (.cells cs t (0, 0))) (j : Nat) : w.frozen? ⟨b, j, none⟩ = false := frozen_of_row w b j cs t h
end
set_option maxRecDepth 20000 in
set_option maxHeartbeats 8000000 in
theorem at_yes (c : Cl) (n : Nat) (now ev : Int) (w : World) (hr : c.raw = true) : Calls Try.prog 14 #[.agg c.cells, .int .i64 n, .int .u64 now, .int .i64 ev] w (QuP w (.agg #[.int .i64 c.s, .int .u64 c.t, .int .u64 c.h, .int .i64 c.e])) := by
  unfold Cl.cells
  rw [hr]
  clear hr
  have b1 : Below w.heap.size w ((w.alloc (.cells #[.int .i64 c.k, .int .i64 c.s, .int .u64 c.t, .int .u64 c.h, .int .i64 c.e, .bool true] 36)).alloc (.cells #[.int .i64 c.s, .int .u64 c.t, .int .u64 c.h, .int .i64 c.e] 34)) := bal (bal (Below.refl _ _) _) _
  have hp : ((w.alloc (.cells #[.int .i64 c.k, .int .i64 c.s, .int .u64 c.t, .int .u64 c.h, .int .i64 c.e, .bool true] 36)).alloc (.cells #[.int .i64 c.s, .int .u64 c.t, .int .u64 c.h, .int .i64 c.e] 34)).heap[w.heap.size + 1]? = some (.cells #[.int .i64 c.s, .int .u64 c.t, .int .u64 c.h, .int .i64 c.e] 34 (0, 0)) := heap_alloc2_new _ _ _
  have HP := Lib.hid hp
  have HB := Lib.hid b1
  clear b1 hp
  go_enter Try.func14, Try.ntmps14
  go_wp2
  (try simp only [Exit.inBlock, Exit.then])
  refine bodyPost_ret (results_cell_row rfl _ _ (w.heap.size + 1) 34 _ _ _ rfl HP.out Try.underlying34 rfl ?_) rfl ?_
  · kernel_rfl
  · exact ⟨rfl, HB.out⟩
set_option maxRecDepth 20000 in
set_option maxHeartbeats 8000000 in
theorem at_no (c : Cl) (n : Nat) (now ev : Int) (w : World) (hn : n ≤ 32) (hr : c.raw = false) : Calls Try.prog 14 #[.agg c.cells, .int .i64 n, .int .u64 now, .int .i64 ev] w (QuP w (.agg (atR c n now ev).cells)) := by
  unfold Cl.cells
  have E : Hid (atR c n now ev = ⟨if 0 < n then (modOf c.s n : Nat) else 0, IntKind.u64.wrap (now + c.t.tmod 10), if modOf c.k 9 = 5 then IntKind.u64.wrap (IntKind.u64.wrap (now + c.t.tmod 10) + c.h.tmod 12) else c.h.tmod 12, if c.e.tmod 5 = 0 then c.e else ev⟩) := by
    show _ = _
    unfold atR
    rw [if_neg (by rw [hr]; exact Bool.false_ne_true)]
    rfl
  have S0 := Lib.hid (VS.mk (w := w) (Z := w.heap.size) (R := w.heap.size + 1) (V := w.heap.size + 1 + 1) (c := c) (a := 0) (b := IntKind.u64.wrap (now + c.t.tmod 10)) (d := c.h.tmod 12) (e := ev)
    (wx := ((w.alloc (.cells #[.int .i64 c.k, .int .i64 c.s, .int .u64 c.t, .int .u64 c.h, .int .i64 c.e, .bool c.raw] 36)).alloc (.cells #[.int .i64 0, .int .u64 0, .int .u64 0, .int .i64 0] 34)).alloc (.cells #[.int .i64 0, .int .u64 (IntKind.u64.wrap (now + c.t.tmod 10)), .int .u64 (c.h.tmod 12), .int .i64 ev] 34))
    (by
      rw [Below.heap_alloc _ _ _ (by simp; omega), Below.heap_alloc _ _ _ (by simp)]
      exact heap_alloc_new w _) (by
      rw [Below.heap_alloc _ _ _ (by simp)]
      exact heap_alloc2_new _ _ _) (by
      have e : ((w.alloc (.cells #[.int .i64 c.k, .int .i64 c.s, .int .u64 c.t, .int .u64 c.h, .int .i64 c.e, .bool c.raw] 36)).alloc (.cells #[.int .i64 0, .int .u64 0, .int .u64 0, .int .i64 0] 34)).heap.size = w.heap.size + 1 + 1 := by simp
      rw [← e]
      exact heap_alloc_new _ _) (bal (bal (bal (Below.refl _ _) _) _) _))
  have MS := Lib.hid (fun (h : 1 ≤ n) W => mod_any c.s n h (by omega) W)
  have MK := Lib.hid (fun W => mod_any c.k 9 (by decide) (by decide) W)
  have hZV : w.heap.size ≠ w.heap.size + 1 + 1 := by omega
  have hRV : w.heap.size + 1 ≠ w.heap.size + 1 + 1 := by omega
  have hwV : w.heap.size ≤ w.heap.size + 1 + 1 := by omega
  have hwR : w.heap.size ≤ w.heap.size + 1 := by omega
  have HS := Lib.hid (fun wx a b d e (h : VS w w.heap.size (w.heap.size + 1) (w.heap.size + 1 + 1) c a b d e wx) => And.intro (fun x => h.set0 hwV hZV hRV x) (And.intro (fun x => h.set2 hwV hZV hRV x) (fun x => h.set3 hwV hZV hRV x)))
  generalize hql : (if 0 < n then ((modOf c.s n : Nat) : Int) else 0) = ql at *
  generalize hol : (if modOf c.k 9 = 5 then IntKind.u64.wrap (IntKind.u64.wrap (now + c.t.tmod 10) + c.h.tmod 12) else c.h.tmod 12) = ol at *
  generalize hel : (if c.e.tmod 5 = 0 then c.e else ev) = el at *
  have QY : Hid (0 < n → ((modOf c.s n : Nat) : Int) = ql) := fun h => by rw [if_pos h] at hql; exact hql
  have QN : Hid (¬ 0 < n → ql = 0) := fun h => by rw [if_neg h] at hql; exact hql.symm
  have OY : Hid (modOf c.k 9 = 5 → IntKind.u64.wrap (IntKind.u64.wrap (now + c.t.tmod 10) + c.h.tmod 12) = ol) := fun h => by rw [if_pos h] at hol; exact hol
  have ON : Hid (¬ modOf c.k 9 = 5 → c.h.tmod 12 = ol) := fun h => by rw [if_neg h] at hol; exact hol
  have EY : Hid (c.e.tmod 5 = 0 → c.e = el) := fun h => by rw [if_pos h] at hel; exact hel
  have EN : Hid (¬ c.e.tmod 5 = 0 → ev = el) := fun h => by rw [if_neg h] at hel; exact hel
  clear hql hol hel
  generalize modOf c.s n = ms at *
  generalize modOf c.k 9 = mk at *
  generalize atR c n now ev = R0 at *
  rw [hr] at S0 ⊢
  have zr : ((w.alloc (.cells #[.int .i64 c.k, .int .i64 c.s, .int .u64 c.t, .int .u64 c.h, .int .i64 c.e, .bool false] 36)).alloc (.cells #[.int .i64 0, .int .u64 0, .int .u64 0, .int .i64 0] 34)).heap.size = w.heap.size + 1 + 1 := by simp
  go_enter Try.func14, Try.ntmps14
  go_upto_region 4 with fail
  generalize ((w.alloc (.cells #[.int .i64 c.k, .int .i64 c.s, .int .u64 c.t, .int .u64 c.h, .int .i64 c.e, .bool false] 36)).alloc (.cells #[.int .i64 0, .int .u64 0, .int .u64 0, .int .i64 0] 34)).alloc (.cells #[.int .i64 0, .int .u64 (IntKind.u64.wrap (now + c.t.tmod 10)), .int .u64 (c.h.tmod 12), .int .i64 ev] 34) = w3 at *
  clear zr
  generalize w.heap.size + 1 + 1 = V at *
  generalize w.heap.size + 1 = R at *
  generalize hZ : w.heap.size = Z at S0 HS ⊢
  generalize IntKind.u64.wrap (now + c.t.tmod 10) = nw at *
  go_upto_if 32 with fail
  go_cut [] (fun wx => VS w Z R V c ql nw (c.h.tmod 12) ev wx)
  case first =>
    have z0 := cells_at S0.out.z 0
    have z1 := cells_at S0.out.z 1
    have z3 := cells_at S0.out.z 3
    have z4 := cells_at S0.out.z 4
    have v0 := cells_at S0.out.v 0
    have v1 := cells_at S0.out.v 1
    have v2 := cells_at S0.out.v 2
    have v3 := cells_at S0.out.v 3
    have f0 := frz S0.out.v 0
    have f2 := frz S0.out.v 2
    have f3 := frz S0.out.v 3
    have lz := blk_lt S0.out.z
    have lv := blk_lt S0.out.v
    simp only [List.getElem?_toArray, List.getElem?_cons_zero, List.getElem?_cons_succ] at z0 z1 z3 z4 v0 v1 v2 v3
    by_cases h0 : 0 < n
    · have E1 := QY.out h0
      have F := Lib.hid (((HS.out _ _ _ _ _ S0.out).1) ms)
      rw [E1] at F
      have MS1 := MS.out h0
      have hn0 : (0 : Int) < (n : Int) := by omega
      clear MK HS OY ON EY EN QY QN S0 hZV hRV
      go_wp2_with fail
      refine (MS1 _).mono ?_
      rintro e w5 ⟨rfl, rfl⟩
      go_wp2_with fail
      go_meet
      exact F.out
    · have hn0 : ¬ (0 : Int) < (n : Int) := by omega
      have F : Hid (VS w Z R V c ql nw (c.h.tmod 12) ev w3) := by rw [QN.out h0]; exact S0.out
      clear MK HS OY ON EY EN QY QN S0 hZV hRV
      go_wp2_with fail
      go_meet
      exact F.out
  case rest =>
    have S1 := Lib.hid hcut
    clear S0 QY QN hcut MS
    generalize wc = w5 at *
    have z0 := cells_at S1.out.z 0
    have z1 := cells_at S1.out.z 1
    have z3 := cells_at S1.out.z 3
    have z4 := cells_at S1.out.z 4
    have v0 := cells_at S1.out.v 0
    have v1 := cells_at S1.out.v 1
    have v2 := cells_at S1.out.v 2
    have v3 := cells_at S1.out.v 3
    have f0 := frz S1.out.v 0
    have f2 := frz S1.out.v 2
    have f3 := frz S1.out.v 3
    have lz := blk_lt S1.out.z
    have lv := blk_lt S1.out.v
    simp only [List.getElem?_toArray, List.getElem?_cons_zero, List.getElem?_cons_succ] at z0 z1 z3 z4 v0 v1 v2 v3
    go_wp2_with fail
    refine (MK.out _).mono ?_
    rintro e w6 ⟨rfl, rfl⟩
    go_upto_if 41 with fail
    go_cut [] (fun wx => VS w Z R V c ql nw ol ev wx)
    case first =>
      by_cases h5 : mk = 5
      · have E1 := OY.out h5
        have F := Lib.hid (((HS.out _ _ _ _ _ S1.out).2.1) (IntKind.u64.wrap (nw + c.h.tmod 12)))
        rw [E1] at F
        have q5 : ((mk : Int) == 5) = true := by rw [h5]; rfl
        clear HS OY ON EY EN S1 hZV hRV
        go_wp2_with fail
        go_meet
        exact F.out
      · have F : Hid (VS w Z R V c ql nw ol ev w5) := by rw [← ON.out h5]; exact S1.out
        have q5 : ((mk : Int) == 5) = false := beq_eq_false_iff_ne.2 (by omega)
        clear HS OY ON EY EN S1 hZV hRV
        go_wp2_with fail
        go_meet
        exact F.out
    case rest =>
      have S2 := Lib.hid hcut
      clear S1 OY ON hcut z0 z1 z3 z4 v0 v1 v2 v3 f0 f2 f3 lz lv
      generalize wc = w7 at *
      have z0 := cells_at S2.out.z 0
      have z1 := cells_at S2.out.z 1
      have z3 := cells_at S2.out.z 3
      have z4 := cells_at S2.out.z 4
      have v0 := cells_at S2.out.v 0
      have v1 := cells_at S2.out.v 1
      have v2 := cells_at S2.out.v 2
      have v3 := cells_at S2.out.v 3
      have f0 := frz S2.out.v 0
      have f2 := frz S2.out.v 2
      have f3 := frz S2.out.v 3
      have lz := blk_lt S2.out.z
      have lv := blk_lt S2.out.v
      simp only [List.getElem?_toArray, List.getElem?_cons_zero, List.getElem?_cons_succ] at z0 z1 z3 z4 v0 v1 v2 v3
      go_upto_if 52 with fail
      go_cut [] (fun wx => VS w Z R V c ql nw ol el wx)
      case first =>
        have wz : wrap64 (c.e.tmod 5) = c.e.tmod 5 := IntWalk.wrap64_in _ (by
          have h1 := Int.tmod_lt_of_pos c.e (show (0 : Int) < 5 by decide)
          have h2 : (-5 : Int) < c.e.tmod 5 := Int.lt_tmod_of_pos c.e (show (0 : Int) < 5 by decide)
          omega)
        by_cases h5 : c.e.tmod 5 = 0
        · have E1 := EY.out h5
          have F := Lib.hid (((HS.out _ _ _ _ _ S2.out).2.2) c.e)
          rw [show VS w Z R V c ql nw ol c.e (w7.setCell ⟨V, 3, none⟩ (.int .i64 c.e)) = VS w Z R V c ql nw ol el (w7.setCell ⟨V, 3, none⟩ (.int .i64 c.e)) by rw [← E1]] at F
          have q1 : (c.e.tmod 5 == 0) = true := by rw [h5]; rfl
          have q2 : (wrap64 (c.e.tmod 5) == 0) = true := by rw [wz]; exact q1
          clear HS EY EN S2 hZV hRV wz E1 h5
          go_wp2_with fail
          go_meet
          exact F.out
        · have F : Hid (VS w Z R V c ql nw ol el w7) := by rw [← EN.out h5]; exact S2.out
          have q1 : (c.e.tmod 5 == 0) = false := beq_eq_false_iff_ne.2 h5
          have q2 : (wrap64 (c.e.tmod 5) == 0) = false := by rw [wz]; exact q1
          clear HS EY EN S2 hZV hRV wz h5
          go_wp2_with fail
          go_meet
          exact F.out
      case rest =>
        have S3 := Lib.hid hcut
        clear S2 EY EN hcut z0 z1 z3 z4 v0 v1 v2 v3 f0 f2 f3 lz lv HS
        generalize wc = w8 at *
        have z0 := cells_at S3.out.z 0
        have z1 := cells_at S3.out.z 1
        have z3 := cells_at S3.out.z 3
        have z4 := cells_at S3.out.z 4
        have v0 := cells_at S3.out.v 0
        have v1 := cells_at S3.out.v 1
        have v2 := cells_at S3.out.v 2
        have v3 := cells_at S3.out.v 3
        have f0 := frz S3.out.v 0
        have f2 := frz S3.out.v 2
        have f3 := frz S3.out.v 3
        have lz := blk_lt S3.out.z
        have lv := blk_lt S3.out.v
        simp only [List.getElem?_toArray, List.getElem?_cons_zero, List.getElem?_cons_succ] at z0 z1 z3 z4 v0 v1 v2 v3
        have r0 := cells_at S3.out.r 0
        have r1 := cells_at S3.out.r 1
        have r2 := cells_at S3.out.r 2
        have r3 := cells_at S3.out.r 3
        have g0 := frz S3.out.r 0
        have g1 := frz S3.out.r 1
        have g2 := frz S3.out.r 2
        have g3 := frz S3.out.r 3
        have lr := blk_lt S3.out.r
        simp only [List.getElem?_toArray, List.getElem?_cons_zero, List.getElem?_cons_succ] at r0 r1 r2 r3
        have HP := Lib.hid (r_done S3.out.r ql nw ol el)
        have HB := Lib.hid (r_bel (R := R) S3.out.b (by omega) ql nw ol el)
        have ER : R0 = ⟨ql, nw, ol, el⟩ := E.out
        subst ER
        clear S3 E
        go_wp2
        (try simp only [Exit.inBlock, Exit.then])
        refine bodyPost_ret (results_cell_row rfl _ _ R 34 _ _ _ rfl HP.out Try.underlying34 rfl ?_) rfl ?_
        · kernel_rfl
        · exact ⟨rfl, HB.out⟩
theorem at_any (c : Cl) (n : Nat) (now ev : Int) (w : World) (hn : n ≤ 32) : Calls Try.prog 14 #[.agg c.cells, .int .i64 n, .int .u64 now, .int .i64 ev] w (QuP w (.agg (atR c n now ev).cells)) := by
  cases hr : c.raw with
  | false => exact at_no c n now ev w hn hr
  | true =>
    have e : atR c n now ev = ⟨c.s, c.t, c.h, c.e⟩ := by unfold atR; rw [if_pos hr]
    rw [e]
    exact at_yes c n now ev w hr
end Go.Proofs.Ytmhabdpnakbfpaa
