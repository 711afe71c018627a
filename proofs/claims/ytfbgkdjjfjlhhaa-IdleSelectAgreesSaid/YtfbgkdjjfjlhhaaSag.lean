/- The law that the program's Check and Select return what the reference's do: its walk. -/
import Derived.Test.YtfbgkdjjfjlhhaaEag
import Derived.Test.YtfbgkdjjfjlhhaaOpen
import Derived.Lib.SmallJoins
import Derived.Outline
import Derived.OwnWalk
namespace Go.Proofs.Ytfbgkdjjfjlhhaa
open Go.RowKit Go.WideShapes Go.ChangeShapes Go.Joins

theorem open_st {H : Type} {enc : TypeId × Value → H} {w : World} {r : Reach} {b0 : Nat} {v : Value} {d : DataW H} {p : List MemPlace}
    (hv : Value.okWide Try.prog w r b0 25 v) (h : DataW.Trod enc Try.prog w 0 (fun _ => true) true 25 v d p) :
    ∃ X : St, v = .agg #[.int .u64 X.l, .int .u64 X.r, .int .u64 X.p] ∧ (U64 X.l ∧ U64 X.r ∧ U64 X.p) := by
  obtain ⟨v0, v1, v2, y0, y1, y2, n, rfl, _, _, t0, t1, t2⟩ := open_agg3 Try.underlying25 (by kernel_rfl) (by kernel_rfl) hv h
  obtain ⟨l0, e0, _, u0⟩ := DataW.trod_int Try.underlying23 t0
  obtain ⟨l1, e1, _, u1⟩ := DataW.trod_int Try.underlying23 t1
  obtain ⟨l2, e2, _, u2⟩ := DataW.trod_int Try.underlying23 t2
  simp at e0 e1 e2
  subst e0 e1 e2
  exact ⟨⟨l0, l1, l2⟩, rfl, u64_of_wf u0, u64_of_wf u1, u64_of_wf u2⟩

def slv (n : Nat) (f : Nat → St) (x l : Int) : Int := if vld n f then (selTo f x l n : Nat) else 0
def sle (n : Nat) (f : Nat → St) : Int := if vld n f then 0 else 1
def SvPost (w : World) (n : Nat) (f : Nat → St) (x l : Int) (e : Ending) (w' : World) : Prop :=
  e = .returned (.tuple #[.int .i64 (slv n f x l), .int .i64 (sle n f)]) ∧ Below w.heap.size w w'
def CvPost (w : World) (n : Nat) (f : Nat → St) (e : Ending) (w' : World) : Prop :=
  e = .returned (.int .i64 (sle n f)) ∧ Below w.heap.size w w'
theorem sel_ev (A : Option Addr) (n c : Nat) (f : Nat → St) (x l : Int) (w : World) (h : SlS w A n f) : Calls Try.prog 16 #[.slice A n c, .int .u64 x, .int .u64 l] w (SvPost w n f x l) := sel_any A n c f x l w h
theorem rsel_ev (A : Option Addr) (n c : Nat) (f : Nat → St) (x l : Int) (w : World) (h : SlS w A n f) : Calls Try.prog 17 #[.slice A n c, .int .u64 x, .int .u64 l] w (SvPost w n f x l) := rsel_any A n c f x l w h
theorem chk_ev (A : Option Addr) (n c : Nat) (f : Nat → St) (w : World) (h : SlS w A n f) : Calls Try.prog 18 #[.slice A n c] w (CvPost w n f) := chk_any A n c f w h
theorem rchk_ev (A : Option Addr) (n c : Nat) (f : Nat → St) (w : World) (h : SlS w A n f) : Calls Try.prog 19 #[.slice A n c] w (CvPost w n f) := rchk_any A n c f w h

def newsL (f : Nat → St) (n : Nat) : List Value := (List.range (n * 3)).map (cellOf f)
theorem newsL_len (f : Nat → St) (n : Nat) : (newsL f n).length = n * 3 := by simp [newsL]
theorem newsL_get (f : Nat → St) (n j : Nat) (u : Value) : (newsL f n)[j]? = some u ↔ j < n * 3 ∧ u = cellOf f j := by
  unfold newsL
  rw [List.getElem?_map]
  by_cases h : j < n * 3
  · rw [List.getElem?_range h]; simp [h, eq_comm]
  · rw [List.getElem?_eq_none (by simpa using h)]; simp [h]
theorem sls_cell {w : World} {G n : Nat} {f : Nat → St} (h : SlS w (some ⟨G, 0, none⟩) n f) (j : Nat) (hj : j < n * 3) : w.cell? ⟨G, j, none⟩ = some (cellOf f j) := by
  obtain ⟨c0, c1, c2⟩ := h.cells (show j / 3 < n by omega)
  rcases (show j = j / 3 * 3 ∨ j = j / 3 * 3 + 1 ∨ j = j / 3 * 3 + 2 by omega) with e | e | e
  · rw [e, c0, cellOf_0]
  · rw [e, c1, cellOf_1]
  · rw [e, c2, cellOf_2]
theorem sls_news {w : World} {G n : Nat} {f : Nat → St} (h : SlS w (some ⟨G, 0, none⟩) n f) (j : Nat) (u : Value) (hu : (newsL f n)[j]? = some u) : w.cell? (Addr.add ⟨G, 0, none⟩ j) = some u := by
  obtain ⟨hj, rfl⟩ := (newsL_get f n j u).1 hu
  rw [add_plain, Nat.zero_add]
  exact sls_cell h j hj
theorem newsL_one (f : Nat → St) (n : Nat) (u : Value) (hu : u ∈ newsL f n) : u.oneCell' = true := by
  obtain ⟨j, hj, rfl⟩ := List.mem_map.1 hu
  rfl
theorem sls_make {w : World} {G n : Nat} {f : Nat → St} (hG : G < w.heap.size) (hn : n ≤ 9223372036854775807) (hw : ∀ i, i < n → U64 (f i).l ∧ U64 (f i).r ∧ U64 (f i).p)
    (hc : ∀ j, j < n * 3 → w.cell? ⟨G, j, none⟩ = some (cellOf f j)) : SlS w (some ⟨G, 0, none⟩) n f := by
  refine ⟨hn, .inr ⟨G, 0, rfl, hG, fun i hi => ?_⟩, hw⟩
  have c0 := hc (i * 3) (by omega)
  have c1 := hc (i * 3 + 1) (by omega)
  have c2 := hc (i * 3 + 2) (by omega)
  rw [cellOf_0] at c0
  rw [cellOf_1] at c1
  rw [cellOf_2] at c2
  simpa using And.intro c0 (And.intro c1 c2)
theorem sls_of_own {w : World} {base n : Nat} {v : Value} {f : Nat → St} (h : w.ownsRow base 25 3 v n (newsL f n)) (hn : 1 ≤ n) (hn2 : n ≤ 9223372036854775807) (hw : ∀ i, i < n → U64 (f i).l ∧ U64 (f i).r ∧ U64 (f i).p) :
    ∃ g cap, v = .slice (some ⟨g, 0, none⟩) n cap ∧ base ≤ g ∧ SlS w (some ⟨g, 0, none⟩) n f ∧ ∀ k, w.frozen? ⟨g, k, none⟩ = false := by
  obtain ⟨hl, h | ⟨g, cap, cur, rfl, hb, hh, hnc, hcm, hcs, ht⟩⟩ := h
  · omega
  · refine ⟨g, cap, rfl, hb, sls_make ?_ hn2 hw ?_, ?_⟩
    · exact cell_lt (a := ⟨g, 0, none⟩) (v := cur[0]'(by omega)) (by unfold World.cell?; simp [hh])
    · intro j hj
      have h1 : (newsL f n)[j]? = some (cellOf f j) := (newsL_get f n j _).2 ⟨hj, rfl⟩
      rw [← ht, List.getElem?_take, if_pos hj] at h1
      unfold World.cell?
      simp only [hh]
      simpa using h1
    · intro k
      simp [World.frozen?, hh]
def upd (f : Nat → St) (j : Nat) (X : St) (i : Nat) : St := if i = j then X else f i
def RowF (w : World) (G N : Nat) (φ : Nat → Value) : Prop := ∀ k, k < N → w.cell? ⟨G, k, none⟩ = some (φ k)
theorem RowF.set_ {w : World} {G N : Nat} {φ : Nat → Value} (h : RowF w G N φ) (a : Nat) (v : Value) : RowF (w.setCell ⟨G, a, none⟩ v) G N (fun k => if k = a then v else φ k) := by
  intro k hk
  by_cases e : k = a
  · subst e
    simp [World.cell?_setCell_same _ _ _ (h k hk)]
  · have : (⟨G, a, none⟩ : Addr) ≠ ⟨G, k, none⟩ := by intro h; injection h with _ h2; exact e h2.symm
    rw [World.cell?_setCell_other _ _ _ _ this, h k hk]
    simp [e]
theorem sls_set {w : World} {G n j : Nat} {f : Nat → St} (X : St) (h : SlS w (some ⟨G, 0, none⟩) n f) (hj : j < n) (hX : U64 X.l ∧ U64 X.r ∧ U64 X.p) :
    SlS (((w.setCell ⟨G, j * 3, none⟩ (.int .u64 X.l)).setCell ⟨G, j * 3 + 1, none⟩ (.int .u64 X.r)).setCell ⟨G, j * 3 + 2, none⟩ (.int .u64 X.p)) (some ⟨G, 0, none⟩) n (upd f j X) := by
  have hG := h.lt (by omega)
  refine sls_make (by simpa [World.setCell] using hG) h.len (fun i hi => ?_) (fun k hk => ?_)
  · unfold upd; split
    · exact hX
    · exact h.wf i hi
  · have c : RowF w G (n * 3) (cellOf f) := fun k hk => sls_cell h k hk
    rw [(((c.set_ (j * 3) (.int .u64 X.l)).set_ (j * 3 + 1) (.int .u64 X.r)).set_ (j * 3 + 2) (.int .u64 X.p)) k hk]
    congr 1
    show (if k = j * 3 + 2 then Value.int .u64 X.p else if k = j * 3 + 1 then Value.int .u64 X.r else if k = j * 3 then Value.int .u64 X.l else cellOf f k) = cellOf (upd f j X) k
    by_cases hkj : k / 3 = j
    · rcases (show k = j * 3 ∨ k = j * 3 + 1 ∨ k = j * 3 + 2 by omega) with e | e | e
      · rw [if_neg (by omega), if_neg (by omega), if_pos e, e, cellOf_0]; simp [upd]
      · rw [if_neg (by omega), if_pos e, e, cellOf_1]; simp [upd]
      · rw [if_pos e, e, cellOf_2]; simp [upd]
    · rw [if_neg (by omega), if_neg (by omega), if_neg (by omega)]
      unfold cellOf upd
      rw [if_neg hkj]

theorem idx0 (x y z : Value) (W : World) : (Instr.index 29 (.agg #[x, y, z]) (.int .i64 0)).run Try.prog W = .ok x W := by kernel_rfl
theorem idx1 (x y z : Value) (W : World) : (Instr.index 29 (.agg #[x, y, z]) (.int .i64 1)).run Try.prog W = .ok y W := by kernel_rfl
theorem idx2 (x y z : Value) (W : World) : (Instr.index 29 (.agg #[x, y, z]) (.int .i64 2)).run Try.prog W = .ok z W := by kernel_rfl
theorem box3' {w w1 : World} {x y z : Int} (h : Below (w.alloc (Obj.cells #[Value.int IntKind.u64 x, Value.int IntKind.u64 y, Value.int IntKind.u64 z] 25)).heap.size (w.alloc (Obj.cells #[Value.int IntKind.u64 x, Value.int IntKind.u64 y, Value.int IntKind.u64 z] 25)) w1) :
    w1.cell? ⟨w.heap.size, 0, none⟩ = some (.int .u64 x) ∧ w1.cell? ⟨w.heap.size, 1, none⟩ = some (.int .u64 y) ∧ w1.cell? ⟨w.heap.size, 2, none⟩ = some (.int .u64 z) := by
  obtain ⟨a, b, c⟩ := box3 w x y z
  exact ⟨(h.cell (by simp)).trans a, (h.cell (by simp)).trans b, (h.cell (by simp)).trans c⟩
set_option maxRecDepth 100000 in
set_option maxHeartbeats 2000000 in
theorem sag_walk (A : Option Addr) (m c : Nat) (g : Nat → St) (x l k : Int) (X : St) (w : World) (h : SlS w A m g) (hx : (Lit.int .u64 x).wf = true) (hl : (Lit.int .u64 l).wf = true) (hk : (Lit.int .i64 k).wf = true)
    (hX : U64 X.l ∧ U64 X.r ∧ U64 X.p) :
    Calls Try.prog 3 #[.slice A m c, .int .u64 x, .int .u64 l, .int .i64 k, .agg #[.int .u64 X.l, .int .u64 X.r, .int .u64 X.p]] w (LawPost w) := by
  have hm := h.len
  have hx := (u64_of_wf hx).1
  have hl := (u64_of_wf hl).1
  by_cases h20 : 20 < m
  · go_enter Try.func3, Try.ntmps3
    go_wp2_with fail
    refine (awake_any _).mono ?_
    rintro e w1 ⟨rfl, hb1⟩
    go_wp2
    go_ret
    exact ⟨rfl, ((Below.refl _ _).alloc (Nat.le_refl _) _).trans (hb1.mono (by simp))⟩
  · have B0 : Below w.heap.size w (w.alloc (.cells #[.int .u64 X.l, .int .u64 X.r, .int .u64 X.p] 25)) := (Below.refl _ _).alloc (Nat.le_refl _) _
    have h0 := h.below B0 (Nat.le_refl _)
    have ST := sta_any A m c g _ h0
    obtain ⟨hn1, hn7, -, -⟩ := stN_bd m
    go_enter Try.func3, Try.ntmps3
    go_wp2_with fail
    refine ST.mono ?_
    rintro e w1 ⟨G, rfl, hG, hS, B1'⟩
    clear ST
    have hbox := box3' B1'
    have B1 := bel2 B0 B1'
    have S1 := hS
    have H1 := h0.below B1' (Nat.le_refl _)
    generalize stF m g = f at *
    generalize stN m = n at *
    obtain ⟨i0, hi, hzz⟩ := Option.map_eq_some_iff.1 info25
    simp only [Prod.mk.injEq] at hzz
    obtain ⟨hz, hs, hb⟩ := hzz
    have B2 : Below w1.heap.size w1 (w1.alloc (.cells #[] 25)) := (Below.refl _ _).alloc (Nat.le_refl _) _
    have S2 := S1.below B2 (Nat.le_refl _)
    have H2 := H1.below B2 (Nat.le_refl _)
    have Hbox := Lib.hid hbox
    have own : (w1.alloc (.cells #[] 25)).ownsRow w1.heap.size 25 3 (.slice (some ⟨w1.heap.size, 0, none⟩) 0 0) 0 [] :=
      ⟨rfl, .inr ⟨w1.heap.size, 0, #[], rfl, Nat.le_refl _, heap_alloc_new w1 _, Nat.le_refl _, by omega, rfl, rfl⟩⟩
    have B12 := bel2 B1 B2
    go_wp2_with (at_builtin; refine wpList_append_own _ rfl (.tmp 29) (.tmp 30) 22 rfl w1.heap.size 25 i0 _ 3 24 Try.underlying22 hi hz hs hb rfl (by decide) _ 0 [] rfl own ⟨G, 0, none⟩ n n (newsL f n) rfl (newsL_len f n) (sls_news S2) (newsL_one f n) ?c3 ?c4 ?c5 ?_)
    case c3 => unfold maxLen; omega
    case c4 => omega
    case c5 => exact B2.size
    intro v' w3 hown hgr _
    have hown : w3.ownsRow w1.heap.size 25 3 v' n (newsL f n) := by simpa using hown
    have WFf := Lib.hid S1.wf
    obtain ⟨G2, cp, rfl, hG2, S4, hfz⟩ := sls_of_own hown hn1 (by omega) S1.wf
    have B3 : Below w1.heap.size w1 w3 := B2.grown hgr B2.size (fun k hk => by simp [Value.ownBlock] at hk; omega)
    have S3 := S1.below B3 (Nat.le_refl _)
    have H3 := H1.below B3 (Nat.le_refl _)
    have B13 := bel2 B1 B3
    have hbw : w.heap.size < w1.heap.size := by have := B1'.size; simp at this; omega
    obtain ⟨x0, x1, x2⟩ := Hbox.out
    rw [← B3.cell hbw] at x0 x1 x2
    have hGw1 := S1.lt hn1
    have hG2w := S4.lt hn1
    clear hown hgr B2 S2 H2 own B12 Hbox B1' h0 B0 h
    have C := (modOf_spec k n hn1 (by omega)).2
    obtain ⟨z0, z1, z2⟩ := S4.cells C
    have f0 := hfz (modOf k n * 3)
    have f1 := hfz (modOf k n * 3 + 1)
    have f2 := hfz (modOf k n * 3 + 2)
    have S5 := Lib.hid ((sls_set X S4 C hX).below (Below.refl _ _).drew (Nat.le_refl _))
    have B5 := Lib.hid (((B3.setCell (p := ⟨G2, modOf k n * 3, none⟩) hG2 (.int .u64 X.l)).setCell (p := ⟨G2, modOf k n * 3 + 1, none⟩) hG2 (.int .u64 X.r)).setCell (p := ⟨G2, modOf k n * 3 + 2, none⟩) hG2 (.int .u64 X.p)).drew
    have M := Lib.hid (fun W => mod_any k n hn1 (by omega) W)
    generalize modOf k n = j at *
    clear hfz
    go_wp2_with fail
    go_still_tail 7, (by kernel_rfl)
    still_call ((M.out _).mono fun e w' ⟨he, hw⟩ => ⟨he, hw.symm⟩)
    repeat still_step
    refine wpStill_nil ?_
    go_wp2_with fail
    have S5 := S5.out
    have B5 := B5.out
    generalize (((w3.setCell ⟨G2, j * 3, none⟩ (.int .u64 X.l)).setCell ⟨G2, j * 3 + 1, none⟩ (.int .u64 X.r)).setCell ⟨G2, j * 3 + 2, none⟩ (.int .u64 X.p)).drew = w5 at *
    have S1 := S1.below B5 (Nat.le_refl _)
    have H1 := H1.below B5 (Nat.le_refl _)
    have B15 := bel2 B1 B5
    generalize upd f j X = fx at *
    clear x0 x1 x2 z0 z1 z2 f0 f1 f2 C hX S3 H3 S4 B13 B3 B1 B5 hG2w hGw1 hG2 hG hbw M
    have I0 := idx0 (.slice A m c) (.slice (some ⟨G, 0, none⟩) n n) (.slice (some ⟨G2, 0, none⟩) n cp)
    have I1 := idx1 (.slice A m c) (.slice (some ⟨G, 0, none⟩) n n) (.slice (some ⟨G2, 0, none⟩) n cp)
    have I2 := idx2 (.slice A m c) (.slice (some ⟨G, 0, none⟩) n n) (.slice (some ⟨G2, 0, none⟩) n cp)
    have HI := Lib.hid (And.intro I0 (And.intro I1 I2)); clear I0 I1 I2
    go_loopw [43] (fun i wr => ∃ q : Nat, q ≤ 3 ∧ i = .int .i64 q ∧ Below w.heap.size w wr ∧ SlS wr A m g ∧ SlS wr (some ⟨G, 0, none⟩) n f ∧ SlS wr (some ⟨G2, 0, none⟩) n fx) (fun i _ => 3 - (intOf i).toNat)
    case atStart => exact ⟨0, by omega, rfl, B15, H1, S1, S5⟩
    case round =>
      clear H1 S1 S5 B15
      obtain ⟨q, hq, rfl, B, T0, T1, T2⟩ := hrel
      by_cases hlt : q < 3
      · obtain ⟨A', n', c', f', HX, T⟩ : ∃ A' n' c' f', Hid (∀ W, (Instr.index 29 (.agg #[.slice A m c, .slice (some ⟨G, 0, none⟩) n n, .slice (some ⟨G2, 0, none⟩) n cp]) (.int .i64 (q : Int))).run Try.prog W = .ok (.slice A' n' c') W) ∧ SlS wr A' n' f' := by
          obtain ⟨I0, I1, I2⟩ := HI.out
          rcases (show q = 0 ∨ q = 1 ∨ q = 2 by omega) with e | e | e <;> subst e
          · exact ⟨_, _, _, _, I0, T0⟩
          · exact ⟨_, _, _, _, I1, T1⟩
          · exact ⟨_, _, _, _, I2, T2⟩
        have hX := HX.out
        go_wp2_with fail
        clear hX
        have b0 := Below.refl wr.heap.size wr
        refine (sel_ev _ _ _ _ (x % 1500) (l % 300) _ T).mono ?_
        rintro e y0 ⟨rfl, hc0⟩
        have T3 := T.below hc0 (Nat.le_refl _)
        have b1 := bel2 b0 hc0
        clear T b0 hc0
        go_wp2_with fail
        refine (rsel_ev _ _ _ _ (x % 1500) (l % 300) _ T3).mono ?_
        rintro e y1 ⟨rfl, hc1⟩
        have T4 := T3.below hc1 (Nat.le_refl _)
        have b2 := bel2 b1 hc1
        clear T3 b1 hc1
        go_wp2_with fail
        refine (sel_ev _ _ _ _ x l _ T4).mono ?_
        rintro e y2 ⟨rfl, hc2⟩
        have T5 := T4.below hc2 (Nat.le_refl _)
        have b3 := bel2 b2 hc2
        clear T4 b2 hc2
        go_wp2_with fail
        refine (rsel_ev _ _ _ _ x l _ T5).mono ?_
        rintro e y3 ⟨rfl, hc3⟩
        have T6 := T5.below hc3 (Nat.le_refl _)
        have b4 := bel2 b3 hc3
        clear T5 b3 hc3
        go_wp2_with fail
        refine (chk_ev _ _ _ _ _ T6).mono ?_
        rintro e y4 ⟨rfl, hc4⟩
        have T7 := T6.below hc4 (Nat.le_refl _)
        have b5 := bel2 b4 hc4
        clear T6 b4 hc4
        go_wp2_with fail
        refine (rchk_ev _ _ _ _ _ T7).mono ?_
        rintro e y5 ⟨rfl, hc5⟩
        have T8 := T7.below hc5 (Nat.le_refl _)
        have b6 := bel2 b5 hc5
        clear T7 b5 hc5
        go_wp2_with fail
        go_roundw
        case rel => exact ⟨q + 1, by omega, by go_num, bel2 B b6, T0.below b6 (Nat.le_refl _), T1.below b6 (Nat.le_refl _), T2.below b6 (Nat.le_refl _)⟩
        case measure => simp [intOf]; omega
      · have : q = 3 := by omega
        subst this
        go_wp2_with fail
        refine (awake_any _).mono ?_
        rintro e w8 ⟨rfl, hb8⟩
        go_wp2
        go_ret
        exact ⟨rfl, bel2 B hb8⟩
end Go.Proofs.Ytfbgkdjjfjlhhaa
