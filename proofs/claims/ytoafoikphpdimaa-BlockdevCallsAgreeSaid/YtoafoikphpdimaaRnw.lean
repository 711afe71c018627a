/- The reference: New. -/
import Derived.Test.YtoafoikphpdimaaRct
namespace Go.Proofs.Ytoafoikphpdimaa
open Go.ChangeShapes Go.WideShapes Go.ChangeAt Go.RowKit Go.Deep Go.Joins

/-- The disk in the course of New: i sectors. -/
structure Ln (w wr : World) (L i : Nat) (sv : Value) : Prop where
  obj : wr.heap[L]? = some (.cells #[sv, .slice none 0 0, .bool false, .int .i64 (-1), .slice none 0 0] 65 (0, 0))
  row : wr.ownsRow (L + 1) 9 1 sv i ((List.replicate i zs).map .string)
  bel : Below w.heap.size w wr
  hL : w.heap.size ≤ L
theorem Ln.drew {w wr : World} {L i : Nat} {sv : Value} (h : Ln w wr L i sv) : Ln w wr.drew L i sv := ⟨h.obj, h.row, h.bel.drew, h.hL⟩
theorem ln_0 (w : World) : Ln w (w.alloc (.cells #[.slice none 0 0, .slice none 0 0, .bool false, .int .i64 (-1), .slice none 0 0] 65)) w.heap.size 0 (.slice none 0 0) :=
  ⟨heap_alloc_new w _, World.ownsRow_nil _ _ _ _, bal (Below.refl _ _) _, Nat.le_refl _⟩
def RnP (w : World) (n : Int) (e : Ending) (w' : World) : Prop :=
  (∃ m L X : Nat, n = m ∧ 1 ≤ m ∧ m ≤ 4096 ∧ e = .returned (.tuple #[.pointer (some ⟨L, 0, none⟩), .int .i64 0]) ∧ ∃ x, Rw w (fun _ => False) w' (s0 m L X) x) ∨
  (¬ (1 ≤ n ∧ n ≤ 4096) ∧ e = .returned (.tuple #[.pointer none, .int .i64 1]) ∧ w = w')
theorem ln_rk {w wr : World} {L m X c : Nat} (h : Ln w wr L m (.slice (some ⟨X, 0, none⟩) m c)) (hm : 1 ≤ m ∧ m ≤ 4096) : Rw w (fun _ => False) wr (s0 m L X) ⟨c, .slice none 0 0, none, 0, 0, fun _ => false⟩ := by
  have hX := h.row.lt X rfl
  refine ⟨fun b => b = L ∨ b = X, fun b hb => ?_, ⟨h.obj, ?_, World.ownsRow_nil _ _ _ _, bs_nil _ _, (fun e => by cases e), .inl rfl, .inr rfl, (fun k hk => by cases hk), (fun a e => by cases e), (fun e => by have e : X = L := e; omega), (fun k hk => by cases hk), (fun a e => by cases e), hm, List.length_replicate, (fun c hc => by cases hc), by show (0 : Int) ≤ 0 ∧ (0 : Int) ≤ _; omega⟩, Chg.of_below h.bel _⟩
  · right
    have := h.hL
    rcases hb with rfl | rfl
    · exact this
    · omega
  · refine ⟨h.row.1, ?_⟩
    rcases h.row.2 with h0 | ⟨g, cap, cur, e, _, rest⟩
    · exact .inl h0
    · exact .inr ⟨g, cap, cur, e, Nat.zero_le _, rest⟩
set_option maxRecDepth 20000 in
set_option maxHeartbeats 16000000 in
theorem rnew_any (n : Int) (w : World) : Calls Try.prog 13 #[.int .i64 n] w (RnP w n) := by
  by_cases h1 : n < 1
  · have G : Hid (RnP w n (.returned (.tuple #[.pointer none, .int .i64 1])) w) := .inr ⟨by omega, rfl, rfl⟩
    go_enter Try.func13, Try.ntmps13
    go_wp2
    go_ret2
    exact G.out
  by_cases h2 : 4096 < n
  · have G : Hid (RnP w n (.returned (.tuple #[.pointer none, .int .i64 1])) w) := .inr ⟨by omega, rfl, rfl⟩
    go_enter Try.func13, Try.ntmps13
    go_wp2
    go_ret2
    exact G.out
  obtain ⟨m, rfl⟩ := Int.eq_ofNat_of_zero_le (show 0 ≤ n by omega)
  have hm : 1 ≤ m ∧ m ≤ 4096 := by omega
  have L0 := Lib.hid (ln_0 w)
  obtain ⟨i0, hi0, hzz⟩ := Option.map_eq_some_iff.1 info9
  simp only [Prod.mk.injEq] at hzz
  obtain ⟨hz0, hs0, hb0⟩ := hzz
  have HI := Lib.hid (And.intro hi0 (And.intro hz0 (And.intro hs0 hb0)))
  clear hi0 hz0 hs0 hb0 h1 h2
  go_enter Try.func13, Try.ntmps13
  go_upto_region 4 with fail
  generalize w.alloc (.cells #[.slice none 0 0, .slice none 0 0, .bool false, .int .i64 (-1), .slice none 0 0] 65) = w1 at *
  generalize hLL : w.heap.size = L at *
  have HLL := Lib.hid hLL
  clear hLL
  go_wp2_with fail
  go_loopw [5] (fun vi wr => ∃ i : Nat, ∃ sv : Value, i ≤ m ∧ vi = .int .i64 i ∧ Ln w wr L i sv) (fun i _ => m - (intOf i).toNat)
  case atStart => exact ⟨0, _, Nat.zero_le _, rfl, L0.out⟩
  case round =>
    clear L0
    obtain ⟨i, sv, hi, rfl, hN⟩ := hrel
    have H := Lib.hid hN
    clear hN
    by_cases hlt : i < m
    · obtain ⟨A, c, rfl⟩ : ∃ A c, sv = .slice A i c := by
        rcases H.out.row.2 with ⟨rfl, h0⟩ | ⟨g, cap, cur, rfl, _⟩
        · have h0 : i = 0 := by simpa using h0
          exact ⟨none, 0, by rw [h0]⟩
        · exact ⟨_, _, rfl⟩
      have H := H.out.drew
      have c0 := H.obj
      go_upto_region 7 with fail
      refine wp_region_noPanic ?_
      refine wp_region_held_drew (S := fun _ => True) (by kernel_rfl) trivial (fun hHeld => ?_)
      generalize wr.drew = wd at *
      clear c0
      have c0 : wd.cell? ⟨L, 0, none⟩ = some (.slice A i c) := by have := H.obj; simp [World.cell?, this]
      have hl := blk_lt H.obj
      have b5 : Below wd.heap.size wd (wd.alloc (.cells (madeCells #[.int .u8 0] 64) 5)) := bal (Below.refl _ _) _
      have b7 : Below wd.heap.size wd ((wd.alloc (.cells (madeCells #[.int .u8 0] 64) 5)).alloc (.cells #[.string zs] 9)) := bal b5 _
      have c5 : (wd.alloc (.cells (madeCells #[.int .u8 0] 64) 5)).cell? ⟨L, 0, none⟩ = some (.slice A i c) := (b5.cell (by exact hl)).trans c0
      have c7 : ((wd.alloc (.cells (madeCells #[.int .u8 0] 64) 5)).alloc (.cells #[.string zs] 9)).cell? ⟨L, 0, none⟩ = some (.slice A i c) := (b7.cell (by exact hl)).trans c0
      have mk := make64 wd
      have cz := cnv_z wd
      have R7 : Hid (((wd.alloc (.cells (madeCells #[.int .u8 0] 64) 5)).alloc (.cells #[.string zs] 9)).ownsRow (L + 1) 9 1 (.slice A i c) i ((List.replicate i zs).map .string)) := own_keep H.row (fun k hk => b7.block k (H.row.lt k hk).2)
      have NW : Hid (∀ (j : Nat) (u : Value), [Value.string zs][j]? = some u → ((wd.alloc (.cells (madeCells #[.int .u8 0] 64) 5)).alloc (.cells #[.string zs] 9)).cell? (Addr.add ⟨wd.heap.size + 1, 0, none⟩ j) = some u) := fun j u hu => by
        have e := new_c (wd.alloc (.cells (madeCells #[.int .u8 0] 64) 5)) #[.string zs] 9 j
        rw [show (wd.alloc (.cells (madeCells #[.int .u8 0] 64) 5)).heap.size = wd.heap.size + 1 by simp] at e
        rw [add_plain, Nat.zero_add, e]
        simpa using hu
      have hL7 : L + 1 ≤ ((wd.alloc (.cells (madeCells #[.int .u8 0] 64) 5)).alloc (.cells #[.string zs] 9)).heap.size := by have := b7.size; omega
      have STEP : Hid (∀ v' w8, w8.ownsRow (L + 1) 9 1 v' (i + 1) ((List.replicate i zs).map .string ++ [.string zs]) → ((wd.alloc (.cells (madeCells #[.int .u8 0] 64) 5)).alloc (.cells #[.string zs] 9)).grownBy w8 (Value.slice A i c).ownBlock →
          w8.cell? ⟨L, 0, none⟩ = some (.slice A i c) ∧ w8.frozen? ⟨L, 0, none⟩ = false ∧ L < w8.heap.size ∧ Ln w (w8.setCell ⟨L, 0, none⟩ v') L (i + 1) v') := fun v' w8 ho hg => by
        have o7 := b_blk b7 H.obj
        have nL : (Value.slice A i c).ownBlock ≠ some L := fun e => by have := (H.row.lt L e).1; omega
        have o8 := (Chg.of_grown hg).blk o7 nL
        have hx : (List.replicate i zs).map Value.string ++ [.string zs] = (List.replicate (i + 1) zs).map .string := by
          rw [← List.replicate_append_replicate (n := i) (m := 1) (a := zs), List.map_append]
          rfl
        rw [hx] at ho
        have b8 : Below w.heap.size w w8 := (H.bel.trans (b7.mono H.bel.size)).grown hg (by have := H.bel.size; have := b7.size; omega) (fun k hk => by have := (H.row.lt k hk).1; have := H.hL; omega)
        refine ⟨by simp [World.cell?, o8], by simp [World.frozen?, o8], blk_lt o8, ⟨set_obj o8 0 v', own_chg ho (Chg.set w8 L 0 v') (fun k hk e => by have := (ho.lt k hk).1; omega), Below.chg b8 (Chg.set w8 L 0 v') b8.size (fun k e => by rw [e]; exact H.hL), H.hL⟩⟩
      clear b5 b7 H
      refine wpAnyH_take (i := 0) (v := ?vp0) (by simp only [List.getElem?_toArray, List.getElem?_cons_zero]; rfl) (by kernel_rfl) (by kernel_rfl) (by kernel_rfl) (fun _ _ _ h => h) (Or.inl ⟨by rfl, ?yp0⟩) hHeld ?_
      case yp0 => (intro w hSw; go_simp <;> with_reducible rfl)
      simp only [Act.put, List.setIfInBounds_toArray, List.set_cons_zero, List.set_cons_succ]
      refine wpAnyH_take (i := 1) (v := ?vp1) (by simp only [List.getElem?_toArray, List.getElem?_cons_succ, List.getElem?_cons_zero]; rfl) (by kernel_rfl) (by kernel_rfl) (by kernel_rfl) (fun _ _ _ h => h) (Or.inl ⟨by rfl, ?yp1⟩) hHeld ?_
      case yp1 => (intro w hSw; go_simp <;> with_reducible rfl)
      simp only [Act.put, List.setIfInBounds_toArray, List.set_cons_zero, List.set_cons_succ]
      refine wpAnyH_take (i := 2) (v := ?vp2) (by simp only [List.getElem?_toArray, List.getElem?_cons_succ, List.getElem?_cons_zero]; rfl) (by kernel_rfl) (by kernel_rfl) (by kernel_rfl) (fun _ _ _ h => h) (Or.inl ⟨by rfl, ?yp2⟩) hHeld ?_
      case yp2 => (intro w hSw; go_simp <;> with_reducible rfl)
      simp only [Act.put, List.setIfInBounds_toArray, List.set_cons_zero, List.set_cons_succ]
      refine wpAnyH_take (i := 3) (v := ?vp3) (by simp only [List.getElem?_toArray, List.getElem?_cons_succ, List.getElem?_cons_zero]; rfl) (by kernel_rfl) (by kernel_rfl) (by kernel_rfl) (fun _ _ _ h => h) (Or.inl ⟨by rfl, ?yp3⟩) hHeld ?_
      case yp3 => (intro w hSw; go_simp <;> with_reducible rfl)
      simp only [Act.put, List.setIfInBounds_toArray, List.set_cons_zero, List.set_cons_succ]
      refine wpAnyH_ready (rs := [4, 5]) (by kernel_rfl) (by simp) ?_
      refine AllReadyH.cons (by simp only [List.getElem?_toArray, List.getElem?_cons_succ, List.getElem?_cons_zero]; rfl) (fun K hK => ?_) ?_
      rotate_left
      refine AllReadyH.cons (by simp only [List.getElem?_toArray, List.getElem?_cons_succ, List.getElem?_cons_zero]; rfl) (fun K hK => ?_) ?_
      rotate_left
      · exact AllReadyH.nil
      · go_simp
        refine hK.out _ _ trivial (fun hHeld => ?_)
        clear hK K
        refine wpAnyH_ready (rs := [5]) (by kernel_rfl) (by simp) ?_
        refine AllReadyH.cons (by simp only [List.getElem?_toArray, List.getElem?_cons_succ, List.getElem?_cons_zero]; rfl) (fun K hK => ?_) ?_
        rotate_left
        · exact AllReadyH.nil
        go_simp
        refine hK.out _ _ trivial (fun hHeld => ?_)
        clear hK K
        refine wpAnyH_ready (rs := [6]) (by kernel_rfl) (by simp) ?_
        refine AllReadyH.cons (by simp only [List.getElem?_toArray, List.getElem?_cons_succ, List.getElem?_cons_zero]; rfl) (fun K hK => ?_) ?_
        rotate_left
        · exact AllReadyH.nil
        go_simp
        refine hK.out _ _ trivial (fun hHeld => ?_)
        clear hK K
        refine wpAnyH_ready (rs := [7]) (by kernel_rfl) (by simp) ?_
        refine AllReadyH.cons (by simp only [List.getElem?_toArray, List.getElem?_cons_succ, List.getElem?_cons_zero]; rfl) (fun K hK => ?_) ?_
        rotate_left
        · exact AllReadyH.nil
        go_simp
        refine hK.out _ _ trivial (fun hHeld => ?_)
        clear hK K
        refine wpAnyH_ready (rs := [8]) (by kernel_rfl) (by simp) ?_
        refine AllReadyH.cons (by simp only [List.getElem?_toArray, List.getElem?_cons_succ, List.getElem?_cons_zero]; rfl) (fun K hK => ?_) ?_
        rotate_left
        · exact AllReadyH.nil
        refine Eq.mpr (if_pos (by rfl)) ?_
        refine wp_append_own _ (.tmp 23) (.tmp 26) 40 rfl (L + 1) 9 i0 _ 1 16 Try.underlying40 HI.out.1 HI.out.2.1 HI.out.2.2.1 HI.out.2.2.2 rfl (by decide) (.slice A i c) i ((List.replicate i zs).map .string) rfl R7.out ⟨wd.heap.size + 1, 0, none⟩ 1 1 [.string zs] rfl rfl NW.out ?c1 ?c2 ?c3 ?c4 ?_
        case c1 => intro u hu; rw [List.mem_singleton.1 hu]; rfl
        case c2 => unfold maxLen; omega
        case c3 => omega
        case c4 => exact hL7
        intro v' w8 hown hgr hiff
        obtain ⟨X9, c9, rfl⟩ := own_form hown (by omega)
        obtain ⟨y1, y2, y3, y4⟩ := STEP.out _ w8 hown hgr
        have Y4 := Lib.hid y4
        clear y4 hown hgr hiff
        refine hK.out _ _ trivial (fun hHeld => ?_)
        clear hK K
        simp only [Act.put, List.setIfInBounds_toArray, List.set_cons_zero, List.set_cons_succ]
        refine wpAnyH_take (i := 9) (v := ?vt59) (by simp only [List.getElem?_toArray, List.getElem?_cons_succ, List.getElem?_cons_zero]; rfl) (by kernel_rfl) (by kernel_rfl) (by kernel_rfl) (fun _ _ _ h => h) (Or.inl ⟨by rfl, ?yt59⟩) hHeld ?_
        case yt59 => (intro w hSw; go_simp <;> with_reducible rfl)
        simp only [Act.put, List.setIfInBounds_toArray, List.set_cons_zero, List.set_cons_succ]
        refine wpAnyH_take (i := 10) (v := ?vt510) (by simp only [List.getElem?_toArray, List.getElem?_cons_succ, List.getElem?_cons_zero]; rfl) (by kernel_rfl) (by kernel_rfl) (by kernel_rfl) (fun _ _ _ h => h) (Or.inl ⟨by rfl, ?yt510⟩) hHeld ?_
        case yt510 => (intro w hSw; go_simp <;> with_reducible rfl)
        simp only [Act.put, List.setIfInBounds_toArray, List.set_cons_zero, List.set_cons_succ]
        refine wpAnyH_ready (rs := [11]) (by kernel_rfl) (by simp) ?_
        refine AllReadyH.cons (by simp only [List.getElem?_toArray, List.getElem?_cons_succ, List.getElem?_cons_zero]; rfl) (fun K hK => ?_) ?_
        rotate_left
        · exact AllReadyH.nil
        go_simp
        refine hK.out _ _ trivial (fun hHeld => ?_)
        clear hK K
        refine wpAnyH_done (by kernel_rfl) ?_ _
        refine NoPanic.normal ?_
        go_wp2_with fail
        go_roundw
        case rel => exact ⟨i + 1, _, by omega, by go_num, Y4.out⟩
        case measure => simp [intOf]; omega
      · go_simp
        refine hK.out _ _ trivial (fun hHeld => ?_)
        clear hK K
        refine wpAnyH_ready (rs := [4, 6]) (by kernel_rfl) (by simp) ?_
        refine AllReadyH.cons (by simp only [List.getElem?_toArray, List.getElem?_cons_succ, List.getElem?_cons_zero]; rfl) (fun K hK => ?_) ?_
        rotate_left
        refine AllReadyH.cons (by simp only [List.getElem?_toArray, List.getElem?_cons_succ, List.getElem?_cons_zero]; rfl) (fun K hK => ?_) ?_
        rotate_left
        · exact AllReadyH.nil
        · go_simp
          refine hK.out _ _ trivial (fun hHeld => ?_)
          clear hK K
          refine wpAnyH_ready (rs := [6]) (by kernel_rfl) (by simp) ?_
          refine AllReadyH.cons (by simp only [List.getElem?_toArray, List.getElem?_cons_succ, List.getElem?_cons_zero]; rfl) (fun K hK => ?_) ?_
          rotate_left
          · exact AllReadyH.nil
          go_simp
          refine hK.out _ _ trivial (fun hHeld => ?_)
          clear hK K
          refine wpAnyH_ready (rs := [7]) (by kernel_rfl) (by simp) ?_
          refine AllReadyH.cons (by simp only [List.getElem?_toArray, List.getElem?_cons_succ, List.getElem?_cons_zero]; rfl) (fun K hK => ?_) ?_
          rotate_left
          · exact AllReadyH.nil
          go_simp
          refine hK.out _ _ trivial (fun hHeld => ?_)
          clear hK K
          refine wpAnyH_ready (rs := [8]) (by kernel_rfl) (by simp) ?_
          refine AllReadyH.cons (by simp only [List.getElem?_toArray, List.getElem?_cons_succ, List.getElem?_cons_zero]; rfl) (fun K hK => ?_) ?_
          rotate_left
          · exact AllReadyH.nil
          refine Eq.mpr (if_pos (by rfl)) ?_
          refine wp_append_own _ (.tmp 23) (.tmp 26) 40 rfl (L + 1) 9 i0 _ 1 16 Try.underlying40 HI.out.1 HI.out.2.1 HI.out.2.2.1 HI.out.2.2.2 rfl (by decide) (.slice A i c) i ((List.replicate i zs).map .string) rfl R7.out ⟨wd.heap.size + 1, 0, none⟩ 1 1 [.string zs] rfl rfl NW.out ?c1 ?c2 ?c3 ?c4 ?_
          case c1 => intro u hu; rw [List.mem_singleton.1 hu]; rfl
          case c2 => unfold maxLen; omega
          case c3 => omega
          case c4 => exact hL7
          intro v' w8 hown hgr hiff
          obtain ⟨X9, c9, rfl⟩ := own_form hown (by omega)
          obtain ⟨y1, y2, y3, y4⟩ := STEP.out _ w8 hown hgr
          have Y4 := Lib.hid y4
          clear y4 hown hgr hiff
          refine hK.out _ _ trivial (fun hHeld => ?_)
          clear hK K
          simp only [Act.put, List.setIfInBounds_toArray, List.set_cons_zero, List.set_cons_succ]
          refine wpAnyH_take (i := 9) (v := ?vt69) (by simp only [List.getElem?_toArray, List.getElem?_cons_succ, List.getElem?_cons_zero]; rfl) (by kernel_rfl) (by kernel_rfl) (by kernel_rfl) (fun _ _ _ h => h) (Or.inl ⟨by rfl, ?yt69⟩) hHeld ?_
          case yt69 => (intro w hSw; go_simp <;> with_reducible rfl)
          simp only [Act.put, List.setIfInBounds_toArray, List.set_cons_zero, List.set_cons_succ]
          refine wpAnyH_take (i := 10) (v := ?vt610) (by simp only [List.getElem?_toArray, List.getElem?_cons_succ, List.getElem?_cons_zero]; rfl) (by kernel_rfl) (by kernel_rfl) (by kernel_rfl) (fun _ _ _ h => h) (Or.inl ⟨by rfl, ?yt610⟩) hHeld ?_
          case yt610 => (intro w hSw; go_simp <;> with_reducible rfl)
          simp only [Act.put, List.setIfInBounds_toArray, List.set_cons_zero, List.set_cons_succ]
          refine wpAnyH_ready (rs := [11]) (by kernel_rfl) (by simp) ?_
          refine AllReadyH.cons (by simp only [List.getElem?_toArray, List.getElem?_cons_succ, List.getElem?_cons_zero]; rfl) (fun K hK => ?_) ?_
          rotate_left
          · exact AllReadyH.nil
          go_simp
          refine hK.out _ _ trivial (fun hHeld => ?_)
          clear hK K
          refine wpAnyH_done (by kernel_rfl) ?_ _
          refine NoPanic.normal ?_
          go_wp2_with fail
          go_roundw
          case rel => exact ⟨i + 1, _, by omega, by go_num, Y4.out⟩
          case measure => simp [intOf]; omega
        · go_simp
          refine hK.out _ _ trivial (fun hHeld => ?_)
          clear hK K
          refine wpAnyH_ready (rs := [4, 7]) (by kernel_rfl) (by simp) ?_
          refine AllReadyH.cons (by simp only [List.getElem?_toArray, List.getElem?_cons_succ, List.getElem?_cons_zero]; rfl) (fun K hK => ?_) ?_
          rotate_left
          refine AllReadyH.cons (by simp only [List.getElem?_toArray, List.getElem?_cons_succ, List.getElem?_cons_zero]; rfl) (fun K hK => ?_) ?_
          rotate_left
          · exact AllReadyH.nil
          · go_simp
            refine hK.out _ _ trivial (fun hHeld => ?_)
            clear hK K
            refine wpAnyH_ready (rs := [7]) (by kernel_rfl) (by simp) ?_
            refine AllReadyH.cons (by simp only [List.getElem?_toArray, List.getElem?_cons_succ, List.getElem?_cons_zero]; rfl) (fun K hK => ?_) ?_
            rotate_left
            · exact AllReadyH.nil
            go_simp
            refine hK.out _ _ trivial (fun hHeld => ?_)
            clear hK K
            refine wpAnyH_ready (rs := [8]) (by kernel_rfl) (by simp) ?_
            refine AllReadyH.cons (by simp only [List.getElem?_toArray, List.getElem?_cons_succ, List.getElem?_cons_zero]; rfl) (fun K hK => ?_) ?_
            rotate_left
            · exact AllReadyH.nil
            refine Eq.mpr (if_pos (by rfl)) ?_
            refine wp_append_own _ (.tmp 23) (.tmp 26) 40 rfl (L + 1) 9 i0 _ 1 16 Try.underlying40 HI.out.1 HI.out.2.1 HI.out.2.2.1 HI.out.2.2.2 rfl (by decide) (.slice A i c) i ((List.replicate i zs).map .string) rfl R7.out ⟨wd.heap.size + 1, 0, none⟩ 1 1 [.string zs] rfl rfl NW.out ?c1 ?c2 ?c3 ?c4 ?_
            case c1 => intro u hu; rw [List.mem_singleton.1 hu]; rfl
            case c2 => unfold maxLen; omega
            case c3 => omega
            case c4 => exact hL7
            intro v' w8 hown hgr hiff
            obtain ⟨X9, c9, rfl⟩ := own_form hown (by omega)
            obtain ⟨y1, y2, y3, y4⟩ := STEP.out _ w8 hown hgr
            have Y4 := Lib.hid y4
            clear y4 hown hgr hiff
            refine hK.out _ _ trivial (fun hHeld => ?_)
            clear hK K
            simp only [Act.put, List.setIfInBounds_toArray, List.set_cons_zero, List.set_cons_succ]
            refine wpAnyH_take (i := 9) (v := ?vt79) (by simp only [List.getElem?_toArray, List.getElem?_cons_succ, List.getElem?_cons_zero]; rfl) (by kernel_rfl) (by kernel_rfl) (by kernel_rfl) (fun _ _ _ h => h) (Or.inl ⟨by rfl, ?yt79⟩) hHeld ?_
            case yt79 => (intro w hSw; go_simp <;> with_reducible rfl)
            simp only [Act.put, List.setIfInBounds_toArray, List.set_cons_zero, List.set_cons_succ]
            refine wpAnyH_take (i := 10) (v := ?vt710) (by simp only [List.getElem?_toArray, List.getElem?_cons_succ, List.getElem?_cons_zero]; rfl) (by kernel_rfl) (by kernel_rfl) (by kernel_rfl) (fun _ _ _ h => h) (Or.inl ⟨by rfl, ?yt710⟩) hHeld ?_
            case yt710 => (intro w hSw; go_simp <;> with_reducible rfl)
            simp only [Act.put, List.setIfInBounds_toArray, List.set_cons_zero, List.set_cons_succ]
            refine wpAnyH_ready (rs := [11]) (by kernel_rfl) (by simp) ?_
            refine AllReadyH.cons (by simp only [List.getElem?_toArray, List.getElem?_cons_succ, List.getElem?_cons_zero]; rfl) (fun K hK => ?_) ?_
            rotate_left
            · exact AllReadyH.nil
            go_simp
            refine hK.out _ _ trivial (fun hHeld => ?_)
            clear hK K
            refine wpAnyH_done (by kernel_rfl) ?_ _
            refine NoPanic.normal ?_
            go_wp2_with fail
            go_roundw
            case rel => exact ⟨i + 1, _, by omega, by go_num, Y4.out⟩
            case measure => simp [intOf]; omega
          · go_simp
            refine hK.out _ _ trivial (fun hHeld => ?_)
            clear hK K
            refine wpAnyH_ready (rs := [4]) (by kernel_rfl) (by simp) ?_
            refine AllReadyH.cons (by simp only [List.getElem?_toArray, List.getElem?_cons_succ, List.getElem?_cons_zero]; rfl) (fun K hK => ?_) ?_
            rotate_left
            · exact AllReadyH.nil
            go_simp
            refine hK.out _ _ trivial (fun hHeld => ?_)
            clear hK K
            refine wpAnyH_ready (rs := [8]) (by kernel_rfl) (by simp) ?_
            refine AllReadyH.cons (by simp only [List.getElem?_toArray, List.getElem?_cons_succ, List.getElem?_cons_zero]; rfl) (fun K hK => ?_) ?_
            rotate_left
            · exact AllReadyH.nil
            refine Eq.mpr (if_pos (by rfl)) ?_
            refine wp_append_own _ (.tmp 23) (.tmp 26) 40 rfl (L + 1) 9 i0 _ 1 16 Try.underlying40 HI.out.1 HI.out.2.1 HI.out.2.2.1 HI.out.2.2.2 rfl (by decide) (.slice A i c) i ((List.replicate i zs).map .string) rfl R7.out ⟨wd.heap.size + 1, 0, none⟩ 1 1 [.string zs] rfl rfl NW.out ?c1 ?c2 ?c3 ?c4 ?_
            case c1 => intro u hu; rw [List.mem_singleton.1 hu]; rfl
            case c2 => unfold maxLen; omega
            case c3 => omega
            case c4 => exact hL7
            intro v' w8 hown hgr hiff
            obtain ⟨X9, c9, rfl⟩ := own_form hown (by omega)
            obtain ⟨y1, y2, y3, y4⟩ := STEP.out _ w8 hown hgr
            have Y4 := Lib.hid y4
            clear y4 hown hgr hiff
            refine hK.out _ _ trivial (fun hHeld => ?_)
            clear hK K
            simp only [Act.put, List.setIfInBounds_toArray, List.set_cons_zero, List.set_cons_succ]
            refine wpAnyH_take (i := 9) (v := ?vt89) (by simp only [List.getElem?_toArray, List.getElem?_cons_succ, List.getElem?_cons_zero]; rfl) (by kernel_rfl) (by kernel_rfl) (by kernel_rfl) (fun _ _ _ h => h) (Or.inl ⟨by rfl, ?yt89⟩) hHeld ?_
            case yt89 => (intro w hSw; go_simp <;> with_reducible rfl)
            simp only [Act.put, List.setIfInBounds_toArray, List.set_cons_zero, List.set_cons_succ]
            refine wpAnyH_take (i := 10) (v := ?vt810) (by simp only [List.getElem?_toArray, List.getElem?_cons_succ, List.getElem?_cons_zero]; rfl) (by kernel_rfl) (by kernel_rfl) (by kernel_rfl) (fun _ _ _ h => h) (Or.inl ⟨by rfl, ?yt810⟩) hHeld ?_
            case yt810 => (intro w hSw; go_simp <;> with_reducible rfl)
            simp only [Act.put, List.setIfInBounds_toArray, List.set_cons_zero, List.set_cons_succ]
            refine wpAnyH_ready (rs := [11]) (by kernel_rfl) (by simp) ?_
            refine AllReadyH.cons (by simp only [List.getElem?_toArray, List.getElem?_cons_succ, List.getElem?_cons_zero]; rfl) (fun K hK => ?_) ?_
            rotate_left
            · exact AllReadyH.nil
            go_simp
            refine hK.out _ _ trivial (fun hHeld => ?_)
            clear hK K
            refine wpAnyH_done (by kernel_rfl) ?_ _
            refine NoPanic.normal ?_
            go_wp2_with fail
            go_roundw
            case rel => exact ⟨i + 1, _, by omega, by go_num, Y4.out⟩
            case measure => simp [intOf]; omega
    · obtain rfl : m = i := by omega
      obtain ⟨X, c, rfl⟩ := own_form H.out.row (by omega)
      have F : Hid (RnP w m (.returned (.tuple #[.pointer (some ⟨L, 0, none⟩), .int .i64 0])) wr) := .inl ⟨m, L, X, rfl, hm.1, hm.2, rfl, _, ln_rk H.out hm⟩
      clear H
      go_wp2
      go_ret2
      exact F.out
end Go.Proofs.Ytoafoikphpdimaa
