/- Order: the walk. -/
import Derived.Test.YtcmklipifhpgmaaOrd
namespace Go.Proofs.Ytcmklipifhpgmaa
open Go.ChangeShapes Go.WideShapes Go.ChangeAt Go.RowKit Go.Deep Go.Joins

def OrP (w : World) (n : Nat) (R : Nat → Int) (e : Ending) (w' : World) : Prop := ∃ v, e = .returned v ∧ w'.ownsRow w.heap.size 3 1 v n (vsL (eV (oF R n)) n) ∧ Below w.heap.size w w'
def n7 (m : Nat) : Nat := if m ≤ 7 then m else 7
set_option maxRecDepth 20000 in
set_option maxHeartbeats 4000000 in
theorem ord_any (RA : Option Addr) (m rc : Nat) (R : Nat → Int) (w : World) (h : Fl w RA 1 m (eV R)) (hm : m ≤ 1000) : Calls Try.prog 11 #[.slice RA m rc] w (OrP w (n7 m) R) := by
  obtain ⟨i0, hi0, hzz⟩ := Option.map_eq_some_iff.1 info3
  simp only [Prod.mk.injEq] at hzz
  have HI0 := Lib.hid (And.intro hi0 (And.intro hzz.1 (And.intro hzz.2.1 hzz.2.2)))
  clear hi0 hzz
  have HR := Lib.hid h
  clear h
  obtain ⟨N, hN⟩ : ∃ N, N = n7 m := ⟨_, rfl⟩
  have hN7 : N ≤ 7 ∧ N ≤ m := by rw [hN]; unfold n7; split <;> omega
  rw [← hN]
  by_cases h7 : m ≤ 7
  · obtain rfl : N = m := by rw [hN]; unfold n7; rw [if_pos h7]
    clear hN
    go_enter Try.func11, Try.ntmps11
    go_upto_region 4 with fail
    go_loopw [4, 5] (fun x4 v5 wr => ∃ (i : Nat) (v4 : Value), x4 = v4 ∧ v5 = .int .i64 i ∧ i ≤ N ∧ wr.ownsRow w.heap.size 3 1 v4 i (vsL (eV (oF R i)) i) ∧ Below w.heap.size w wr) (fun _ v5 _ => N - (intOf v5).toNat)
    case atStart => exact ⟨0, .slice none 0 0, rfl, rfl, Nat.zero_le _, ⟨rfl, .inl ⟨rfl, rfl⟩⟩, Below.refl _ _⟩
    case round =>
      obtain ⟨i, v4, hv4, rfl, hi, hown, hB⟩ := hrel
      rw [hv4]
      clear hv4
      by_cases hlt : i < N
      · have RW := HR.out.below hB (Nat.le_refl _)
        obtain ⟨rb, ro, rfl, hrl, r0⟩ := RW.eat (i := i) (by omega)
        have MOD : Calls Try.prog 12 #[.int .i64 (R i), .int .i64 ((i : Int) + 1)] wr (fun e w' => e = .returned (.int .i64 (kO R i : Nat)) ∧ w' = wr) := by
          have h := mod_any (R i) (i + 1) (by omega) (by omega) wr
          rw [show (((i + 1 : Nat)) : Int) = (i : Int) + 1 by omega] at h
          exact h
        have hki := kO_lt R i (by omega)
        have STEP : Hid (oF R (i + 1) = fun j => if j < kO R i then oF R i j else if j = kO R i then (i : Int) else oF R i (j - 1)) := rfl
        clear RW
        go_wp2_with fail
        refine MOD.mono ?_
        clear MOD
        rintro e w2 ⟨rfl, hw2⟩
        subst hw2
        generalize kO R i = k at *
        obtain ⟨E, hE⟩ : ∃ E, E = oF R i := ⟨_, rfl⟩
        rw [← hE] at hown STEP
        clear hE
        have hx : Below w2.heap.size w2 (w2.alloc (.cells #[.int .i64 0] 3)) := bal (Below.refl _ _) _
        have OWN := own_bel hown hx
        have NEW : Hid (∀ j u, [Value.int .i64 0][j]? = some u → (w2.alloc (.cells #[.int .i64 0] 3)).cell? (Addr.add ⟨w2.heap.size, 0, none⟩ j) = some u) := fun j u hu => by
          rw [add_plain, Nat.zero_add, new_c]
          simpa using hu
        have ONE : Hid (∀ u, u ∈ [Value.int .i64 0] → u.oneCell' = true) := fun u hu => by
          simp only [List.mem_cons, List.not_mem_nil, or_false] at hu
          rcases hu with rfl
          rfl
        have HB := Lib.hid (bel2 hB hx)
        have hbs : w.heap.size ≤ (w2.alloc (.cells #[.int .i64 0] 3)).heap.size := (bel2 hB hx).size
        have hwl : w.heap.size ≤ w2.heap.size := hB.size
        have hi7 : i ≤ 6 := by omega
        clear hown hx hB r0 hrl
        go_wp2_with (at_builtin; refine wpList_append_own _ rfl (.tmp 22) (.tmp 23) 22 rfl w.heap.size 3 i0 _ 1 8 Try.underlying22 HI0.out.1 HI0.out.2.1 HI0.out.2.2.1 HI0.out.2.2.2 rfl (by decide) _ i (vsL (eV E) i) rfl OWN ⟨w2.heap.size, 0, none⟩ 1 1 [.int .i64 0] rfl rfl NEW.out ONE.out ?c3 ?c4 ?c5 ?_)
        case c3 => unfold maxLen; omega
        case c4 => omega
        case c5 => first | exact hbs | omega
        intro v9 w9 hown9 hgr hiff
        have hlo : ∀ b, v4.ownBlock = some b → w.heap.size ≤ b := fun b hb => (own_lo OWN b hb).1
        have B9 := Lib.hid (HB.out.grown hgr HB.out.size (fun b hb => hlo b hb))
        rcases hown9.2 with ⟨_, h0⟩ | ⟨g, cap, cur, rfl, hbg, hheap, hnc, hcm, hcs, htake⟩
        · omega
        have hsh := Lib.hid (own_shp hown9)
        have hg : g < w9.heap.size := blk_lt hheap
        have CJ : Hid (∀ j, j < i → w9.drew.cell? ⟨g, j, none⟩ = some (eV E j)) := fun j hj => by
          have := hown9.cells (g := g) rfl j (eV E j) (by rw [List.getElem?_append_left (by rw [vsL_len]; exact hj)]; exact (vsL_get _ _ _ _).2 ⟨hj, rfl⟩)
          rw [add_plain, Nat.zero_add] at this
          exact this
        have CI : Hid (w9.drew.cell? ⟨g, i, none⟩ = some (.int .i64 0)) := by
          have := hown9.cells (g := g) rfl i (.int .i64 0) (by rw [List.getElem?_append_right (by rw [vsL_len]; exact Nat.le_refl _), vsL_len]; simp)
          rw [add_plain, Nat.zero_add] at this
          exact this
        have CFZ : Hid (∀ j, w9.drew.frozen? ⟨g, j, none⟩ = false) := fun j => by
          show w9.frozen? ⟨g, j, none⟩ = false
          unfold World.frozen?
          rw [hheap]
          simp
        have CSO : Hid (∀ j, j < i + 1 → (w9.drew.cell? ⟨g, j, none⟩).isSome = true) := fun j hj => by
          by_cases e : j = i
          · rw [e, CI.out]; rfl
          · rw [CJ.out j (by omega)]; rfl
        have CSRC : Hid (∀ j v, ((List.range (i - k)).map fun t => eV E (k + t))[j]? = some v → w9.drew.cell? (Addr.add ⟨g, k, none⟩ j) = some v) := fun j v hv => by
          rw [List.getElem?_map] at hv
          by_cases hj : j < i - k
          · rw [List.getElem?_range hj] at hv
            injection hv with hv
            subst hv
            rw [add_plain]
            exact CJ.out _ (by omega)
          · rw [List.getElem?_eq_none (by simpa using hj)] at hv; cases hv
        have CELLS := Lib.hid (ord_cells (w := w9.drew) (g := g) (E := E) hki CJ.out (by rw [CI.out]; rfl))
        have SH : Hid (Shp ((w9.drew.setCells g (k + 1) ((List.range (i - k)).map fun t => eV E (k + t))).setCell ⟨g, k, none⟩ (.int .i64 i)) g 3 cap) := by
          obtain ⟨cur, h1, h2⟩ := hsh.out.1
          exact Shp.set (Shp.sets _ _ _ (show Shp w9.drew g 3 cap from ⟨cur, h1, h2⟩)) _ _
        have BB : Hid (Below w.heap.size w ((w9.drew.setCells g (k + 1) ((List.range (i - k)).map fun t => eV E (k + t))).setCell ⟨g, k, none⟩ (.int .i64 i))) :=
          Below.chg (bel2 B9.out (bel_drewN (Below.refl _ _) 1)) ((chg_cells g _ _ _).trans (Chg.set _ g k _)) (Nat.le_trans B9.out.size (Nat.le_refl _)) (fun b hb => by have hb : b = g := hb; omega)
        have KS : Hid (∃ u, (w9.drew.setCells g (k + 1) ((List.range (i - k)).map fun t => eV E (k + t))).cell? ⟨g, k, none⟩ = some u) := by
          rw [World.cell?_setCells_out g _ _ _ _ (fun _ _ => .inl (by show k < k + 1; omega))]
          exact Option.isSome_iff_exists.1 (CSO.out k (by omega))
        have KF : Hid ((w9.drew.setCells g (k + 1) ((List.range (i - k)).map fun t => eV E (k + t))).frozen? ⟨g, k, none⟩ = false) := by
          show _ = _
          rw [World.frozen?_setCells]
          exact CFZ.out k
        have KG : Hid (g < (w9.drew.setCells g (k + 1) ((List.range (i - k)).map fun t => eV E (k + t))).heap.size) := Nat.lt_of_lt_of_le hg (chg_cells g _ _ w9.drew).size
        have hsp : Hid (w.heap.size ≤ g ∧ i + 1 ≤ cap ∧ cap ≤ maxLen) := ⟨hbg, hnc, hcm⟩
        clear hown9 hgr hiff hheap hcs htake OWN NEW ONE hsh
        have hc1 : ((i : Int) + 1) ≤ (cap : Int) := by omega
        have hc2 : (i : Int) ≤ (cap : Int) := by omega
        have hk0 : (0 : Int) ≤ (k : Int) := by omega
        have hk1 : (k : Int) ≤ (i : Int) := by omega
        have hk2 : (k : Int) + 1 ≤ (i : Int) + 1 := by omega
        have hk3 : (0 : Int) ≤ (k : Int) + 1 := by omega
        have hk4 : ((k : Int) + 1).toNat = k + 1 := by omega
        by_cases hki2 : k < i
        · have hki3 : ¬ ((i : Int) ≤ (k : Int)) := by omega
          have CP := run_copy_cells (P := Try.prog) w9.drew 22 22 3 3 g (k + 1) (i - k) (cap - (k + 1)) ⟨g, k, none⟩ (i - k) (cap - k) ((List.range (i - k)).map fun t => eV E (k + t)) Try.underlying22 (by kernel_rfl) (by simp) CSRC.out (fun j hj => CSO.out _ (by simp at hj; omega)) (fun j _ => CFZ.out _) (fun v hv => by obtain ⟨t, _, rfl⟩ := List.mem_map.1 hv; rfl)
          generalize (w9.drew.setCells g (k + 1) ((List.range (i - k)).map fun t => eV E (k + t))) = WX at *
          go_upto_region 8 with fail
          have hwr : IntKind.i64.wrap ((k : Int) + 1) = (k : Int) + 1 := IntWalk.i64_in _ (by omega)
          go_still_tail 8, (by kernel_rfl)
          go_upto_region 9 with fail
          obtain ⟨u, hu⟩ := KS.out
          have kf := KF.out
          have kg := KG.out
          have OW := Lib.hid (Shp.make (V := eV (fun j => if j < k then E j else if j = k then (i : Int) else E (j - 1))) SH.out hsp.out.1 hsp.out.2.1 hsp.out.2.2 CELLS.out)
          clear KS KF KG CP
          go_wp2
          go_roundw
          case rel => exact ⟨i + 1, .slice (some ⟨g, 0, none⟩) (i + 1) cap, rfl, by go_num, by omega, by rw [STEP.out]; exact OW.out, BB.out⟩
          case measure => simp [intOf]; omega
        · obtain rfl : k = i := by omega
          have WXe : w9.drew.setCells g (k + 1) ((List.range (k - k)).map fun t => eV E (k + t)) = w9.drew := by
            rw [Nat.sub_self]
            rfl
          rw [WXe] at CELLS SH BB KS KF KG
          clear WXe CSRC
          have CP := fun ty d dc a sc => run_copy_none (P := Try.prog) w9.drew 22 22 ty 3 d a 0 dc 0 sc Try.underlying22 (by kernel_rfl) rfl
          go_upto_region 8 with fail
          have hwr : IntKind.i64.wrap ((k : Int) + 1) = (k : Int) + 1 := IntWalk.i64_in _ (by omega)
          go_still_tail 8, (by kernel_rfl)
          go_upto_region 9 with fail
          generalize w9.drew = WX at *
          obtain ⟨u, hu⟩ := KS.out
          have kf := KF.out
          have kg := KG.out
          have OW := Lib.hid (Shp.make (V := eV (fun j => if j < k then E j else if j = k then (k : Int) else E (j - 1))) SH.out hsp.out.1 hsp.out.2.1 hsp.out.2.2 CELLS.out)
          clear KS KF KG CP
          go_wp2
          go_roundw
          case rel => exact ⟨k + 1, .slice (some ⟨g, 0, none⟩) (k + 1) cap, rfl, by go_num, by omega, by rw [STEP.out]; exact OW.out, BB.out⟩
          case measure => simp [intOf]; omega
      · obtain rfl : i = N := by omega
        have F : Hid (OrP w i R (.returned v4) wr) := ⟨v4, rfl, hown, hB⟩
        clear hown hB
        go_wp2
        go_ret
        exact F.out
  · obtain rfl : N = 7 := by rw [hN]; unfold n7; rw [if_neg h7]
    clear hN
    have h77 : ¬ ((m : Int) ≤ 7) := by omega
    have h78 : (7 : Int) < (m : Int) := by omega
    go_enter Try.func11, Try.ntmps11
    go_upto_region 4 with fail
    go_loopw [4, 5] (fun x4 v5 wr => ∃ (i : Nat) (v4 : Value), x4 = v4 ∧ v5 = .int .i64 i ∧ i ≤ 7 ∧ wr.ownsRow w.heap.size 3 1 v4 i (vsL (eV (oF R i)) i) ∧ Below w.heap.size w wr) (fun _ v5 _ => 7 - (intOf v5).toNat)
    case atStart => exact ⟨0, .slice none 0 0, rfl, rfl, Nat.zero_le _, ⟨rfl, .inl ⟨rfl, rfl⟩⟩, Below.refl _ _⟩
    case round =>
      obtain ⟨i, v4, hv4, rfl, hi, hown, hB⟩ := hrel
      rw [hv4]
      clear hv4
      by_cases hlt : i < 7
      · have RW := HR.out.below hB (Nat.le_refl _)
        obtain ⟨rb, ro, rfl, hrl, r0⟩ := RW.eat (i := i) (by omega)
        have MOD : Calls Try.prog 12 #[.int .i64 (R i), .int .i64 ((i : Int) + 1)] wr (fun e w' => e = .returned (.int .i64 (kO R i : Nat)) ∧ w' = wr) := by
          have h := mod_any (R i) (i + 1) (by omega) (by omega) wr
          rw [show (((i + 1 : Nat)) : Int) = (i : Int) + 1 by omega] at h
          exact h
        have hki := kO_lt R i (by omega)
        have STEP : Hid (oF R (i + 1) = fun j => if j < kO R i then oF R i j else if j = kO R i then (i : Int) else oF R i (j - 1)) := rfl
        clear RW
        go_wp2_with fail
        refine MOD.mono ?_
        clear MOD
        rintro e w2 ⟨rfl, hw2⟩
        subst hw2
        generalize kO R i = k at *
        obtain ⟨E, hE⟩ : ∃ E, E = oF R i := ⟨_, rfl⟩
        rw [← hE] at hown STEP
        clear hE
        have hx : Below w2.heap.size w2 (w2.alloc (.cells #[.int .i64 0] 3)) := bal (Below.refl _ _) _
        have OWN := own_bel hown hx
        have NEW : Hid (∀ j u, [Value.int .i64 0][j]? = some u → (w2.alloc (.cells #[.int .i64 0] 3)).cell? (Addr.add ⟨w2.heap.size, 0, none⟩ j) = some u) := fun j u hu => by
          rw [add_plain, Nat.zero_add, new_c]
          simpa using hu
        have ONE : Hid (∀ u, u ∈ [Value.int .i64 0] → u.oneCell' = true) := fun u hu => by
          simp only [List.mem_cons, List.not_mem_nil, or_false] at hu
          rcases hu with rfl
          rfl
        have HB := Lib.hid (bel2 hB hx)
        have hbs : w.heap.size ≤ (w2.alloc (.cells #[.int .i64 0] 3)).heap.size := (bel2 hB hx).size
        have hwl : w.heap.size ≤ w2.heap.size := hB.size
        have hi7 : i ≤ 6 := by omega
        clear hown hx hB r0 hrl
        go_wp2_with (at_builtin; refine wpList_append_own _ rfl (.tmp 22) (.tmp 23) 22 rfl w.heap.size 3 i0 _ 1 8 Try.underlying22 HI0.out.1 HI0.out.2.1 HI0.out.2.2.1 HI0.out.2.2.2 rfl (by decide) _ i (vsL (eV E) i) rfl OWN ⟨w2.heap.size, 0, none⟩ 1 1 [.int .i64 0] rfl rfl NEW.out ONE.out ?c3 ?c4 ?c5 ?_)
        case c3 => unfold maxLen; omega
        case c4 => omega
        case c5 => first | exact hbs | omega
        intro v9 w9 hown9 hgr hiff
        have hlo : ∀ b, v4.ownBlock = some b → w.heap.size ≤ b := fun b hb => (own_lo OWN b hb).1
        have B9 := Lib.hid (HB.out.grown hgr HB.out.size (fun b hb => hlo b hb))
        rcases hown9.2 with ⟨_, h0⟩ | ⟨g, cap, cur, rfl, hbg, hheap, hnc, hcm, hcs, htake⟩
        · omega
        have hsh := Lib.hid (own_shp hown9)
        have hg : g < w9.heap.size := blk_lt hheap
        have CJ : Hid (∀ j, j < i → w9.drew.cell? ⟨g, j, none⟩ = some (eV E j)) := fun j hj => by
          have := hown9.cells (g := g) rfl j (eV E j) (by rw [List.getElem?_append_left (by rw [vsL_len]; exact hj)]; exact (vsL_get _ _ _ _).2 ⟨hj, rfl⟩)
          rw [add_plain, Nat.zero_add] at this
          exact this
        have CI : Hid (w9.drew.cell? ⟨g, i, none⟩ = some (.int .i64 0)) := by
          have := hown9.cells (g := g) rfl i (.int .i64 0) (by rw [List.getElem?_append_right (by rw [vsL_len]; exact Nat.le_refl _), vsL_len]; simp)
          rw [add_plain, Nat.zero_add] at this
          exact this
        have CFZ : Hid (∀ j, w9.drew.frozen? ⟨g, j, none⟩ = false) := fun j => by
          show w9.frozen? ⟨g, j, none⟩ = false
          unfold World.frozen?
          rw [hheap]
          simp
        have CSO : Hid (∀ j, j < i + 1 → (w9.drew.cell? ⟨g, j, none⟩).isSome = true) := fun j hj => by
          by_cases e : j = i
          · rw [e, CI.out]; rfl
          · rw [CJ.out j (by omega)]; rfl
        have CSRC : Hid (∀ j v, ((List.range (i - k)).map fun t => eV E (k + t))[j]? = some v → w9.drew.cell? (Addr.add ⟨g, k, none⟩ j) = some v) := fun j v hv => by
          rw [List.getElem?_map] at hv
          by_cases hj : j < i - k
          · rw [List.getElem?_range hj] at hv
            injection hv with hv
            subst hv
            rw [add_plain]
            exact CJ.out _ (by omega)
          · rw [List.getElem?_eq_none (by simpa using hj)] at hv; cases hv
        have CELLS := Lib.hid (ord_cells (w := w9.drew) (g := g) (E := E) hki CJ.out (by rw [CI.out]; rfl))
        have SH : Hid (Shp ((w9.drew.setCells g (k + 1) ((List.range (i - k)).map fun t => eV E (k + t))).setCell ⟨g, k, none⟩ (.int .i64 i)) g 3 cap) := by
          obtain ⟨cur, h1, h2⟩ := hsh.out.1
          exact Shp.set (Shp.sets _ _ _ (show Shp w9.drew g 3 cap from ⟨cur, h1, h2⟩)) _ _
        have BB : Hid (Below w.heap.size w ((w9.drew.setCells g (k + 1) ((List.range (i - k)).map fun t => eV E (k + t))).setCell ⟨g, k, none⟩ (.int .i64 i))) :=
          Below.chg (bel2 B9.out (bel_drewN (Below.refl _ _) 1)) ((chg_cells g _ _ _).trans (Chg.set _ g k _)) (Nat.le_trans B9.out.size (Nat.le_refl _)) (fun b hb => by have hb : b = g := hb; omega)
        have KS : Hid (∃ u, (w9.drew.setCells g (k + 1) ((List.range (i - k)).map fun t => eV E (k + t))).cell? ⟨g, k, none⟩ = some u) := by
          rw [World.cell?_setCells_out g _ _ _ _ (fun _ _ => .inl (by show k < k + 1; omega))]
          exact Option.isSome_iff_exists.1 (CSO.out k (by omega))
        have KF : Hid ((w9.drew.setCells g (k + 1) ((List.range (i - k)).map fun t => eV E (k + t))).frozen? ⟨g, k, none⟩ = false) := by
          show _ = _
          rw [World.frozen?_setCells]
          exact CFZ.out k
        have KG : Hid (g < (w9.drew.setCells g (k + 1) ((List.range (i - k)).map fun t => eV E (k + t))).heap.size) := Nat.lt_of_lt_of_le hg (chg_cells g _ _ w9.drew).size
        have hsp : Hid (w.heap.size ≤ g ∧ i + 1 ≤ cap ∧ cap ≤ maxLen) := ⟨hbg, hnc, hcm⟩
        clear hown9 hgr hiff hheap hcs htake OWN NEW ONE hsh
        have hc1 : ((i : Int) + 1) ≤ (cap : Int) := by omega
        have hc2 : (i : Int) ≤ (cap : Int) := by omega
        have hk0 : (0 : Int) ≤ (k : Int) := by omega
        have hk1 : (k : Int) ≤ (i : Int) := by omega
        have hk2 : (k : Int) + 1 ≤ (i : Int) + 1 := by omega
        have hk3 : (0 : Int) ≤ (k : Int) + 1 := by omega
        have hk4 : ((k : Int) + 1).toNat = k + 1 := by omega
        by_cases hki2 : k < i
        · have hki3 : ¬ ((i : Int) ≤ (k : Int)) := by omega
          have CP := run_copy_cells (P := Try.prog) w9.drew 22 22 3 3 g (k + 1) (i - k) (cap - (k + 1)) ⟨g, k, none⟩ (i - k) (cap - k) ((List.range (i - k)).map fun t => eV E (k + t)) Try.underlying22 (by kernel_rfl) (by simp) CSRC.out (fun j hj => CSO.out _ (by simp at hj; omega)) (fun j _ => CFZ.out _) (fun v hv => by obtain ⟨t, _, rfl⟩ := List.mem_map.1 hv; rfl)
          generalize (w9.drew.setCells g (k + 1) ((List.range (i - k)).map fun t => eV E (k + t))) = WX at *
          go_upto_region 8 with fail
          have hwr : IntKind.i64.wrap ((k : Int) + 1) = (k : Int) + 1 := IntWalk.i64_in _ (by omega)
          go_still_tail 8, (by kernel_rfl)
          go_upto_region 9 with fail
          obtain ⟨u, hu⟩ := KS.out
          have kf := KF.out
          have kg := KG.out
          have OW := Lib.hid (Shp.make (V := eV (fun j => if j < k then E j else if j = k then (i : Int) else E (j - 1))) SH.out hsp.out.1 hsp.out.2.1 hsp.out.2.2 CELLS.out)
          clear KS KF KG CP
          go_wp2
          go_roundw
          case rel => exact ⟨i + 1, .slice (some ⟨g, 0, none⟩) (i + 1) cap, rfl, by go_num, by omega, by rw [STEP.out]; exact OW.out, BB.out⟩
          case measure => simp [intOf]; omega
        · obtain rfl : k = i := by omega
          have WXe : w9.drew.setCells g (k + 1) ((List.range (k - k)).map fun t => eV E (k + t)) = w9.drew := by
            rw [Nat.sub_self]
            rfl
          rw [WXe] at CELLS SH BB KS KF KG
          clear WXe CSRC
          have CP := fun ty d dc a sc => run_copy_none (P := Try.prog) w9.drew 22 22 ty 3 d a 0 dc 0 sc Try.underlying22 (by kernel_rfl) rfl
          go_upto_region 8 with fail
          have hwr : IntKind.i64.wrap ((k : Int) + 1) = (k : Int) + 1 := IntWalk.i64_in _ (by omega)
          go_still_tail 8, (by kernel_rfl)
          go_upto_region 9 with fail
          generalize w9.drew = WX at *
          obtain ⟨u, hu⟩ := KS.out
          have kf := KF.out
          have kg := KG.out
          have OW := Lib.hid (Shp.make (V := eV (fun j => if j < k then E j else if j = k then (k : Int) else E (j - 1))) SH.out hsp.out.1 hsp.out.2.1 hsp.out.2.2 CELLS.out)
          clear KS KF KG CP
          go_wp2
          go_roundw
          case rel => exact ⟨k + 1, .slice (some ⟨g, 0, none⟩) (k + 1) cap, rfl, by go_num, by omega, by rw [STEP.out]; exact OW.out, BB.out⟩
          case measure => simp [intOf]; omega
      · obtain rfl : i = 7 := by omega
        have F : Hid (OrP w 7 R (.returned v4) wr) := ⟨v4, rfl, hown, hB⟩
        clear hown hB
        go_wp2
        go_ret
        exact F.out
end Go.Proofs.Ytcmklipifhpgmaa
