/- BudgetKeepsLimit: the walk. -/
import Derived.Test.YtbblachhijpgeaaOne
import Derived.Test.YtbblachhijpgeaaFpu
import Derived.Test.YtbblachhijpgeaaHSmw
import Derived.Test.YtbblachhijpgeaaHOpn
namespace Go.Proofs.Ytbblachhijpgeaa
open Go.ChangeShapes Go.WideShapes Go.ChangeAt Go.RowKit Go.Deep Go.Joins

set_option maxRecDepth 20000 in
set_option maxHeartbeats 16000000 in
theorem bk_any (dc da am lim : Int) (A0 : Option Addr) (m0 c0 : Nat) (g : Nat → St) (P : Option Addr) (pn pc : Nat) (R : Nat → Int) (w : World) (hA : SlS .u64 w A0 m0 g) (hP : Fl w P 1 pn (eV R)) : Calls Try.prog 5 #[.agg #[.int .i64 dc, .int .i64 da], .int .i64 am, .int .i64 lim, .slice A0 m0 c0, .slice P pn pc] w (LawPost w) := by
  have AW := Lib.hid (fun W => awake_any W)
  have HB0' := Lib.hid (bal (Below.refl w.heap.size w) (Obj.cells #[.int .i64 dc, .int .i64 da] 23))
  by_cases hm0 : 40 < m0
  · have q0 : (40 : Int) < (m0 : Int) := by omega
    clear hP hA
    go_enter Try.func5, Try.ntmps5
    go_wp2_with (go_at_call 8; refine (AW.out _).mono ?_; rintro e w9 ⟨rfl, hb9⟩)
    go_ret
    exact ⟨rfl, bel2 HB0'.out hb9⟩
  have q0 : ¬ (40 : Int) < (m0 : Int) := by omega
  by_cases hm : 40 < pn
  · have q : (40 : Int) < (pn : Int) := by omega
    clear hP hA
    go_enter Try.func5, Try.ntmps5
    go_wp2_with (go_at_call 8; refine (AW.out _).mono ?_; rintro e w9 ⟨rfl, hb9⟩)
    go_ret
    exact ⟨rfl, bel2 HB0'.out hb9⟩
  have q : ¬ (40 : Int) < (pn : Int) := by omega
  clear HB0'
  have HP := Lib.hid hP
  have HA := Lib.hid hA
  clear hP hA
  have HB0 := Lib.hid (bal (Below.refl w.heap.size w) (Obj.cells #[.int .i64 dc, .int .i64 da] 23))
  obtain ⟨z0, z1⟩ := bx2 w (.int .i64 dc) (.int .i64 da) 23
  have lS0 : w.heap.size < (w.alloc (.cells #[.int .i64 dc, .int .i64 da] 23)).heap.size := by simp
  have PA3 := (pl_spec lim 60 (by omega) (by omega)).2
  have PAH := Lib.hid (pl_spec lim 60 (by omega) (by omega)).1
  generalize pl lim 60 = pt at *
  go_enter Try.func5, Try.ntmps5
  go_upto_region 3 with fail
  generalize w.alloc (.cells #[.int .i64 dc, .int .i64 da] 23) = w1 at *
  have SO := som_any (some ⟨w1.heap.size, 0, none⟩) 1 1 (fun _ => ⟨dc, da⟩) none 0 0 K00 am _ (fl1 w1 dc da) (fl_nil _ _)
  have HB1 := Lib.hid (bel2 HB0.out (bal (Below.refl w1.heap.size w1) (.cells #[.int .i64 dc, .int .i64 da] 23)))
  clear HB0
  go_wp2_with fail
  generalize w1.alloc (.cells #[.int .i64 dc, .int .i64 da] 23) = w2 at *
  clear z0 z1 lS0
  refine SO.mono ?_
  clear SO
  rintro e w3 ⟨n, D, m, K, amb, A1, B1, cb, rfl, hF1, hF2, hbn, hG, n1, n5, m12, hn, hm0, a1, a2, hb3⟩
  obtain rfl : n = 1 := hn rfl
  obtain rfl : m = 0 := by omega
  have hx : Below w3.heap.size w3 (w3.alloc (.cells #[.slice (some A1) 1 1, .slice B1 0 cb, .int .i64 amb] 29)) := bal (Below.refl _ _) _
  obtain ⟨s0, s1, s2⟩ := bx3 w3 (.slice (some A1) 1 1) (.slice B1 0 cb) (.int .i64 amb) 29
  have HB4 := Lib.hid (bel2 (bel2 HB1.out hb3) hx)
  have lS : w3.heap.size < (w3.alloc (.cells #[.slice (some A1) 1 1, .slice B1 0 cb, .int .i64 amb] 29)).heap.size := by simp
  have hG1 := hF1.below' hx
  obtain ⟨ab, ao, hA1, lA, -⟩ := hG1.dat (show 0 < 1 by omega)
  injection hA1 with hA1
  subst hA1
  obtain ⟨-, d0, d1⟩ := hG1.dat' rfl (show 0 < 1 by omega)
  rw [Nat.zero_mul, Nat.add_zero] at d0 d1
  obtain ⟨g1, g2, g3, g4⟩ := hG.d 0 (by omega)
  have g3 : (D 0).a ≤ (D 0).c := g3
  have HG := Lib.hid hG
  have HF1 := Lib.hid hG1
  clear hb3 hx hF1 hF2 hbn hG hG1 HB1
  obtain ⟨top, htop⟩ : ∃ top, amb + (pt : Int) = top := ⟨_, rfl⟩
  have WT := Lib.hid (both (x := amb + (pt : Int)) (y := top) (by omega) htop)
  have mb0 : 0 ≤ (D 0).a * (top - amb) := Int.mul_nonneg (by omega) (by omega)
  obtain ⟨p, hp⟩ : ∃ p : Nat, (D 0).a * (top - amb) = (p : Int) := ⟨((D 0).a * (top - amb)).toNat, (Int.toNat_of_nonneg mb0).symm⟩
  have mb := mul_bd (a := (D 0).a) (b := top - amb) (A := 6) (B := 60) (by omega) (by omega) (by omega) (by omega)
  have p0 : ¬ (p : Int) < 0 := by omega
  have p1 : p ≤ 360 := by omega
  clear mb0
  have SU := Lib.hid (fun W => sus_any (D 0).c (D 0).a amb top p g1 (by omega) g3 (by omega) a1 a2 (by omega) (by omega) hp W)
  have HP1 := Lib.hid hp
  have HT := Lib.hid htop
  have t0 : 0 ≤ top - amb := by omega
  have t1 : top - amb ≤ 60 := by omega
  clear hp mb htop
  have PA2 : wrap64 ((IntKind.u64.wrap lim).tmod 60) = (pt : Int) := PAH.out.2
  have WT2 : wrap64 (amb + (pt : Int)) = top := WT.out.2
  go_upto_region 5 with fail
  rw [HT.out]
  clear PAH WT PA2 WT2
  generalize w3.alloc (.cells #[.slice (some ⟨ab, ao, none⟩) 1 1, .slice B1 0 cb, .int .i64 amb] 29) = w4 at *
  generalize w3.heap.size = S at *
  clear w3
  have KP : ∀ W, Below w4.drew.heap.size w4.drew W → W.cell? ⟨S, 0, none⟩ = some (.slice (some ⟨ab, ao, none⟩) 1 1) ∧ W.cell? ⟨S, 2, none⟩ = some (.int .i64 amb) ∧ W.cell? ⟨ab, ao, none⟩ = some (.int .i64 (D 0).c) ∧ W.cell? ⟨ab, ao + 1, none⟩ = some (.int .i64 (D 0).a) := fun W hb =>
    ⟨(hb.cell (p := ⟨S, 0, none⟩) lS).trans s0, (hb.cell (p := ⟨S, 2, none⟩) lS).trans s2, (hb.cell (p := ⟨ab, ao, none⟩) lA).trans d0, (hb.cell (p := ⟨ab, ao + 1, none⟩) lA).trans d1⟩
  have KP := Lib.hid KP
  have SP := Lib.hid s1
  generalize hdc : (D 0).c = Dc at *
  generalize hda : (D 0).a = Da at *
  refine wp_region_noPanic ?_
  refine wp_region_held_drew (S := fun W => W.cell? ⟨S, 0, none⟩ = some (.slice (some ⟨ab, ao, none⟩) 1 1) ∧ W.cell? ⟨S, 2, none⟩ = some (.int .i64 amb) ∧ W.cell? ⟨ab, ao, none⟩ = some (.int .i64 Dc) ∧ W.cell? ⟨ab, ao + 1, none⟩ = some (.int .i64 Da)) (by kernel_rfl) (⟨s0, s2, d0, d1⟩) (fun hHeld => ?_)
  refine wpAnyH_take (i := 0) (v := ?vn0) (by simp only [List.getElem?_toArray, List.getElem?_cons_zero]; rfl) (by kernel_rfl) (by kernel_rfl) (by kernel_rfl) (fun _ _ _ h => h) (Or.inl ⟨by rfl, ?yn0⟩) hHeld ?_
  case yn0 => (intro w hSw; go_simp <;> with_reducible rfl)
  simp only [Act.put, List.setIfInBounds_toArray, List.set_cons_zero, List.set_cons_succ]
  refine wpAnyH_take (i := 1) (v := ?vn1) (by simp only [List.getElem?_toArray, List.getElem?_cons_succ, List.getElem?_cons_zero]; rfl) (by kernel_rfl) (by kernel_rfl) (by kernel_rfl) (fun _ _ _ h => h) (Or.inl ⟨by rfl, ?yn1⟩) hHeld ?_
  case yn1 => (intro w hSw; go_simp <;> with_reducible rfl)
  simp only [Act.put, List.setIfInBounds_toArray, List.set_cons_zero, List.set_cons_succ]
  refine wpAnyH_take (i := 2) (v := ?vn2) (by simp only [List.getElem?_toArray, List.getElem?_cons_succ, List.getElem?_cons_zero]; rfl) (by kernel_rfl) (by kernel_rfl) (by kernel_rfl) (fun _ _ _ h => h) (Or.inl ⟨by rfl, ?yn2⟩) hHeld ?_
  case yn2 => (intro w hSw; go_simp <;> with_reducible rfl)
  simp only [Act.put, List.setIfInBounds_toArray, List.set_cons_zero, List.set_cons_succ]
  refine wpAnyH_take (i := 3) (v := ?vn3) (by simp only [List.getElem?_toArray, List.getElem?_cons_succ, List.getElem?_cons_zero]; rfl) (by kernel_rfl) (by kernel_rfl) (by kernel_rfl) (fun _ _ _ h => h) (Or.inl ⟨by rfl, ?yn3⟩) hHeld ?_
  case yn3 => (intro w hSw; go_simp <;> with_reducible rfl)
  simp only [Act.put, List.setIfInBounds_toArray, List.set_cons_zero, List.set_cons_succ]
  refine wpAnyH_take (i := 4) (v := ?vn4) (by simp only [List.getElem?_toArray, List.getElem?_cons_succ, List.getElem?_cons_zero]; rfl) (by kernel_rfl) (by kernel_rfl) (by kernel_rfl) (fun _ _ _ h => h) (Or.inl ⟨by rfl, ?yn4⟩) hHeld ?_
  case yn4 => (intro w hSw; go_simp <;> with_reducible rfl)
  simp only [Act.put, List.setIfInBounds_toArray, List.set_cons_zero, List.set_cons_succ]
  refine wpAnyH_take (i := 5) (v := ?vn5) (by simp only [List.getElem?_toArray, List.getElem?_cons_succ, List.getElem?_cons_zero]; rfl) (by kernel_rfl) (by kernel_rfl) (by kernel_rfl) (fun _ _ _ h => h) (Or.inl ⟨by rfl, ?yn5⟩) hHeld ?_
  case yn5 => (intro w hSw; go_simp <;> with_reducible rfl)
  simp only [Act.put, List.setIfInBounds_toArray, List.set_cons_zero, List.set_cons_succ]
  refine wpAnyH_take (i := 6) (v := ?vn6) (by simp only [List.getElem?_toArray, List.getElem?_cons_succ, List.getElem?_cons_zero]; rfl) (by kernel_rfl) (by kernel_rfl) (by kernel_rfl) (fun _ _ _ h => h) (Or.inl ⟨by rfl, ?yn6⟩) hHeld ?_
  case yn6 => (intro w hSw; go_simp <;> with_reducible rfl)
  simp only [Act.put, List.setIfInBounds_toArray, List.set_cons_zero, List.set_cons_succ]
  refine wpAnyH_ready (rs := [7]) (by kernel_rfl) (by simp) ?_
  refine AllReadyH.cons (by simp only [List.getElem?_toArray, List.getElem?_cons_succ, List.getElem?_cons_zero]; rfl) (fun K hK => ?_) ?_
  rotate_left
  · exact AllReadyH.nil
  go_simp
  go_at_call 10
  refine (SU.out _).mono ?_
  rintro e w9 ⟨rfl, hb9⟩
  go_wp2_with fail
  refine hK.out _ _ ?_ (fun hHeld => ?_)
  · exact KP.out _ hb9
  clear hK K
  refine wpAnyH_take (i := 8) (v := ?vn8) (by simp only [List.getElem?_toArray, List.getElem?_cons_succ, List.getElem?_cons_zero]; rfl) (by kernel_rfl) (by kernel_rfl) (by kernel_rfl) (fun _ _ _ h => h) (Or.inl ⟨by rfl, ?yn8⟩) hHeld ?_
  case yn8 => (intro w hSw; go_simp <;> with_reducible rfl)
  simp only [Act.put, List.setIfInBounds_toArray, List.set_cons_zero, List.set_cons_succ]
  refine wpAnyH_take (i := 9) (v := ?vn9) (by simp only [List.getElem?_toArray, List.getElem?_cons_succ, List.getElem?_cons_zero]; rfl) (by kernel_rfl) (by kernel_rfl) (by kernel_rfl) (fun _ _ _ h => h) (Or.inl ⟨by rfl, ?yn9⟩) hHeld ?_
  case yn9 => (intro w hSw; go_simp <;> with_reducible rfl)
  simp only [Act.put, List.setIfInBounds_toArray, List.set_cons_zero, List.set_cons_succ]
  refine wpAnyH_take (i := 10) (v := ?vn10) (by simp only [List.getElem?_toArray, List.getElem?_cons_succ, List.getElem?_cons_zero]; rfl) (by kernel_rfl) (by kernel_rfl) (by kernel_rfl) (fun _ _ _ h => h) (Or.inl ⟨by rfl, ?yn10⟩) hHeld ?_
  case yn10 => (intro w hSw; go_simp <;> with_reducible rfl)
  simp only [Act.put, List.setIfInBounds_toArray, List.set_cons_zero, List.set_cons_succ]
  refine wpAnyH_take (i := 11) (v := ?vn11) (by simp only [List.getElem?_toArray, List.getElem?_cons_succ, List.getElem?_cons_zero]; rfl) (by kernel_rfl) (by kernel_rfl) (by kernel_rfl) (fun _ _ _ h => h) (Or.inl ⟨by rfl, ?yn11⟩) hHeld ?_
  case yn11 => (intro w hSw; go_simp <;> with_reducible rfl)
  simp only [Act.put, List.setIfInBounds_toArray, List.set_cons_zero, List.set_cons_succ]
  refine wpAnyH_take (i := 12) (v := ?vn12) (by simp only [List.getElem?_toArray, List.getElem?_cons_succ, List.getElem?_cons_zero]; rfl) (by kernel_rfl) (by kernel_rfl) (by kernel_rfl) (fun _ _ _ h => h) (Or.inl ⟨by rfl, ?yn12⟩) hHeld ?_
  case yn12 => (intro w hSw; go_simp <;> with_reducible rfl)
  simp only [Act.put, List.setIfInBounds_toArray, List.set_cons_zero, List.set_cons_succ]
  refine wpAnyH_done (by kernel_rfl) ?_ _
  refine NoPanic.normal ?_
  have B9 := Lib.hid (bel2 HB4.out.drew hb9)
  have HF9 := Lib.hid (HF1.out.below' (bel2 (Below.refl _ w4).drew hb9))
  have S9 := Lib.hid (KP.out _ hb9)
  have lS9 : S < w9.heap.size := Nat.lt_of_lt_of_le lS hb9.size
  have lA9 : ab < w9.heap.size := Nat.lt_of_lt_of_le lA hb9.size
  obtain ⟨s0, s2, -, -⟩ := S9.out
  clear hb9 d0 d1 s1 KP SP HF1
  clear HB4
  have V9 : Va 1 D 0 K00 amb := ⟨by omega, by omega, by omega, by omega, fun i hi => dd0 (fun i => 1 ≤ (D i).a ∧ (D i).a ≤ 16777216 ∧ (D i).c ≤ 16777216) _ hi (by show 1 ≤ (D 0).a ∧ (D 0).a ≤ 16777216 ∧ (D 0).c ≤ 16777216; rw [hdc, hda]; omega), fun l hl => by omega, fun l l2 h1 h2 => by omega, fun i hi => dd0 (fun i => ldK D K00 0 i ≤ (D i).c) _ hi (by show (D 0).a ≤ (D 0).c; rw [hdc, hda]; exact g3)⟩
  have G9 : Gd 1 0 D K00 := ⟨fun i hi => dd0 (fun i => 1 ≤ (D i).a ∧ (D i).a ≤ 6 ∧ ldK D K00 0 i ≤ (D i).c ∧ (D i).c ≤ 13 + 10 * ((0 : Nat) : Int)) _ hi (by show 1 ≤ (D 0).a ∧ (D 0).a ≤ 6 ∧ (D 0).a ≤ (D 0).c ∧ _; rw [hdc, hda]; omega), fun l hl => by omega, fun l l2 h1 h2 => by omega⟩
  have NW := new_any V9 (some ⟨ab, ao, none⟩) 1 none 0 w9 HF9.out (fl_nil _ _) (fun _ => ⟨rfl, rfl⟩)
  have HGG := Lib.hid G9
  clear V9 G9
  go_wp2_with fail
  refine NW.mono ?_
  clear NW
  rintro e w10 ⟨h, rfl, hH, hn, hD, hmm, hK, hs, hE, ho, hu, hb10⟩
  have G9 : Gd h.n h.m h.D h.K := by rw [hn, hD, hmm, hK]; exact HGG.out
  have I0 : Hid (Inv h top) := inv_new (top := top) G9 (by rw [hE, hD, hs]) (by omega)
  have hwr : ∀ b, h.wr b → w9.heap.size ≤ b := fun b hb => (hu b (by rcases hb with x | x; exact .inl x; exact .inr (.inl x))).1
  have HW := Lib.hid hwr
  have HH := Lib.hid hH
  have HO := Lib.hid ho
  have HN := Lib.hid hn
  have HDD := Lib.hid hD
  have HS := Lib.hid hs
  have HM := Lib.hid hmm
  have B10 := Lib.hid (bel2 B9.out hb10)
  have B9s : w.heap.size ≤ w9.heap.size := B9.out.size
  have hLw : w9.heap.size ≤ h.L ∧ w9.heap.size ≤ h.X := ⟨hwr _ (.inl rfl), hwr _ (.inr rfl)⟩
  clear hH hn hD hmm hK hs hE ho hu hb10 hwr G9 s0 s2 HGG B9 S9 HF9
  have AC := actors_q A0 m0 c0 g w10 (HA.out.below B10.out (Nat.le_refl _))
  go_wp2_with fail
  refine AC.mono ?_
  clear AC
  rintro e w11 ⟨A7, c7, rfl, hS7, hb11⟩
  have AL := alc_any (p : Int) A7 (acN m0) c7 (acF g) w11 (by omega) hS7
  have GA7 := Lib.hid (ga_of hS7 (acF_ok g m0))
  have B11 := Lib.hid (bel2 B10.out hb11)
  have H11 := Lib.hid (HH.out.below hb11)
  have H11x : Hid (h.L < w11.heap.size ∧ h.X < w11.heap.size) := ⟨H11.out.lL, H11.out.lX⟩
  have n8 : acN m0 ≤ 8 := by unfold acN; omega
  have b11s := hb11.size
  have WP : IntKind.u64.wrap (p : Int) = (p : Int) := by rw [IntKind.wrap_u64]; omega
  clear hb11 hS7
  go_wp2_with fail
  refine AL.mono ?_
  clear AL
  intro e w12 hal
  obtain ⟨l, code, A8, c8, rfl, hR, hL, hb12⟩ := alq_of hal
  have AF := alloc_fair hR (acF_ok g m0) GA7.out
  have B12 := Lib.hid (bel2 B11.out hb12)
  have H12 := Lib.hid (H11.out.below hb12)
  have b12s := hb12.size
  have HNL : Hid (NL .u64 w11.heap.size w12 A8 l) := by
    obtain ⟨l', code', A', c', he, hR', hL', -, -⟩ := hal
    injection he with he
    injection he with he
    have he1 := congrArg (·[0]?) he
    have he2 := congrArg (·[1]?) he
    simp only [List.getElem?_toArray, List.getElem?_cons_zero, List.getElem?_cons_succ, Option.some.injEq, Value.slice.injEq, Value.int.injEq, true_and] at he1 he2
    obtain ⟨e1, e2, -⟩ := he1
    subst e1 he2
    rw [(alloc_same hR hR').1]
    exact hL'
  clear hal hR hL hb12 WP H11 B11 HH
  rcases AF with ⟨rfl, -⟩ | ⟨rfl, -, hF⟩
  · go_wp2_with (go_at_call 8; refine (AW.out _).mono ?_; rintro e w9 ⟨rfl, hb9⟩)
    go_ret
    exact ⟨rfl, bel2 B12.out hb9⟩
  obtain ⟨-, hlen, hgr, hsum, -⟩ := hF
  have hsb : sumTo l (acN m0) ≤ (p : Int) := by rw [hsum]; omega
  have HG0 : Hid (∀ i, i < acN m0 → 0 ≤ l.getD i 0) := fun i hi => by
    have := (hgr i hi).1
    have := GA7.out.ok i hi
    omega
  clear hgr hsum GA7
  rw [hlen]
  have HLN := Lib.hid hlen
  clear hlen
  generalize acN m0 = n at *
  have HAC : Hid (∀ i, i < n → ∃ gb, A8 = some ⟨gb, 0, none⟩ ∧ w11.heap.size ≤ gb ∧ gb < w12.heap.size ∧ w12.cell? ⟨gb, i, none⟩ = some (.int .u64 (l.getD i 0))) := fun i hi => by
    rcases HNL.out with h0 | ⟨gb, e, h1, h2, h3, _⟩
    · rw [h0] at HLN
      have := HLN.out
      simp at this
      omega
    · exact ⟨gb, e, h1, h2, h3 i (by rw [HLN.out]; exact hi)⟩
  have lLX : Hid (h.L < w11.heap.size ∧ h.X < w11.heap.size) := H11x.out
  clear HNL
  go_wp2_with fail
  go_loopw [20] (fun vi wr => ∃ (j : Nat) (E : Nat → Int) (o : Int), vi = .int .i64 j ∧ j ≤ pn ∧ Hm wr (h.at E o) ∧ Inv (h.at E o) top ∧ 0 ≤ o ∧ o ≤ 12000 * (j : Int) ∧ Chg h.wr w12 wr) (fun vi _ => pn - (intOf vi).toNat)
  case atStart => exact ⟨0, h.E, h.o, rfl, Nat.zero_le _, H12.out, I0.out, by rw [HO.out]; exact Int.le_refl _, by rw [HO.out]; show (0 : Int) ≤ _; omega, Chg.refl _ _⟩
  case round =>
    obtain ⟨j, E, o, rfl, hj, hH, hI, o1, o2, hC⟩ := hrel
    have HK := Lib.hid hH
    have HI := Lib.hid hI
    have CC := Lib.hid hC
    have BW : Hid (Below w.heap.size w wr) := Below.chg B12.out hC B12.out.size (fun b q => by have := HW.out b q; omega)
    clear hH hI hC
    by_cases hlt : j < pn
    · obtain ⟨pb, po, rfl, hpb, r0⟩ := (HP.out.below' BW.out).eat hlt
      generalize R j = rj at *
      go_wp2_with fail
      generalize wr = w13 at *
      go_loopw [21, 22] (fun v21 v22 wx => ∃ (k : Nat) (s : Int), v21 = .int .i64 s ∧ v22 = .int .i64 k ∧ k ≤ n ∧ 0 ≤ s ∧ s ≤ sumTo l k ∧ Below w13.heap.size w13 wx) (fun v21 v22 _ => n - (intOf v22).toNat)
      case atStart => exact ⟨0, 0, rfl, rfl, Nat.zero_le _, Int.le_refl _, Int.le_refl _, Below.refl _ _⟩
      case round =>
        obtain ⟨k, s, rfl, rfl, hk, s0, s1, hB⟩ := hrel
        have BX := Lib.hid hB
        by_cases hkn : k < n
        · obtain ⟨gb, rfl, gb1, gb2, gc⟩ := HAC.out k hkn
          have gk0 := HG0.out k hkn
          have gk1 := sumTo_mono (l := l) (n := n) HG0.out (k + 1) (by omega)
          have gs : sumTo l (k + 1) = sumTo l k + l.getD k 0 := rfl
          have GS := Lib.hid gs
          have gbne : ¬ h.wr gb := fun q => by have q : gb = h.L ∨ gb = h.X := q; have := lLX.out; omega
          have glr : gb < w13.heap.size := Nat.lt_of_lt_of_le gb2 CC.out.size
          have gcx := (hB.cell (p := ⟨gb, k, none⟩) glr).trans ((blk_cell (CC.out.block gb gb2 gbne) k).trans gc)
          have r0x := (hB.cell (p := ⟨pb, po + j, none⟩) hpb).trans r0
          have glx := Nat.lt_of_lt_of_le glr hB.size
          have hpx := Nat.lt_of_lt_of_le hpb hB.size
          have g360 : l.getD k 0 ≤ 360 := by
            have := sumTo_nn (l := l) (n := n) HG0.out k (by omega)
            omega
          have hq8 : (k : Int).tmod 8 = ((k % 8 : Nat) : Int) := by rw [Int.tmod_eq_emod_of_nonneg (by omega)]; omega
          have k8 : k % 8 < 8 := by omega
          generalize k % 8 = e8 at *
          generalize l.getD k 0 = gk at *
          have q1 : ¬ (4294967296 : Int) < gk := by omega
          have wg : IntKind.u64.wrap (gk + 1) = gk + 1 := by rw [IntKind.wrap_u64]; omega
          have we : IntKind.u64.wrap (e8 : Int) = (e8 : Int) := by rw [IntKind.wrap_u64]; omega
          have wz : (gk + 1 == 0) = false := beq_eq_false_iff_ne.2 (by omega)
          obtain ⟨d, hd⟩ : ∃ d, (IntKind.u64.wrap (IntKind.u64.wrap rj / 2 ^ e8 + gk)).tmod (gk + 1) = d := ⟨_, rfl⟩
          have x0 : 0 ≤ IntKind.u64.wrap (IntKind.u64.wrap rj / 2 ^ e8 + gk) := by rw [IntKind.wrap_u64]; omega
          have d0 : 0 ≤ d := by rw [← hd]; exact Int.tmod_nonneg _ x0
          have d1 : d < gk + 1 := by rw [← hd]; exact Int.tmod_lt_of_pos _ (by omega)
          have W1 := IntWalk.wrap64_in d (by omega)
          have W2 := IntWalk.wrap64_in (s + d) (by omega)
          have HD := Lib.hid hd
          have HW1 := Lib.hid W1
          have HW2 := Lib.hid W2
          clear gk1 hB gc hpb glr r0 x0 hd W1 W2
          go_upto_region 24 with fail
          go_quiet (fail)
          have NB := Lib.hid (bel_drewN BX.out nq)
          go_wp2
          go_roundw
          case rel => exact ⟨k + 1, s + d, by rw [HD.out, HW1.out, HW2.out], by go_num, by omega, by omega, by omega, NB.out⟩
          case measure => simp [intOf]; omega
        · obtain rfl : k = n := by omega
          have hqn : ¬ (k : Int) < (k : Int) := by omega
          have hsp : s ≤ (p : Int) := by omega
          have hx : Below wr.heap.size wr (wr.alloc (.cells #[.int .i64 s] 2)) := bal (Below.refl _ _) _
          have C14 := Lib.hid (CC.out.trans (Chg.of_below (bel2 hB hx) _))
          have K14 := Lib.hid (HK.out.below (bel2 hB hx))
          have hws : w13.heap.size ≤ wr.heap.size := hB.size
          have l1 : h.L < w13.heap.size := HK.out.lL
          have l2 : h.X < w13.heap.size := HK.out.lX
          have ST := step1 (c := 1) (z := s) HN.out HM.out (by rw [HS.out]; exact a1) (by rw [HS.out]; exact a2) (by rw [HS.out]; omega) K14.out HI.out o1 (by omega) (fle1 wr s) s0 (by show _ ≤ (h.D 0).a * (top - h.s); rw [HDD.out, HS.out, hda, HP1.out]; omega) (by omega) (fun q => by have q : wr.heap.size = h.L ∨ wr.heap.size = h.X := q; omega)
          clear hB hx K14 BX
          go_wp2_with fail
          refine ST.mono ?_
          clear ST
          rintro e w15 ⟨tb, tw, tc, t, E', o', rfl, c0, lt, -, ht, hK7, hI7, e1, e2, hC7⟩
          have ht : ¬ top < t := by omega
          have C7 := Lib.hid (C14.out.trans hC7)
          have K7 := Lib.hid hK7
          have I7 := Lib.hid hI7
          clear hK7 hI7 hC7
          go_wp2
          go_roundw
          case rel => exact ⟨j + 1, E', o', by go_num, by omega, K7.out, I7.out, by omega, by omega, C7.out⟩
          case measure => simp [intOf]; omega
    · have hq : ¬ (j : Int) < (pn : Int) := by omega
      clear HK HI CC
      go_wp2_with (go_at_call 8; refine (AW.out _).mono ?_; rintro e w9 ⟨rfl, hb9⟩)
      go_ret
      exact ⟨rfl, bel2 BW.out hb9⟩
theorem bk_w (d : Dm) (am lim : Int) (A0 : Option Addr) (m0 c0 : Nat) (g : Nat → St) (P : Option Addr) (pn pc : Nat) (R : Nat → Int) (w : World) (_h0 : True) (_h1 : (Lit.int .i64 am).wf = true) (_h2 : (Lit.int .i64 lim).wf = true) (hA : SlS .u64 w A0 m0 g ∧ m0 ≤ c0 ∧ c0 ≤ 9223372036854775807 ∧ (A0 = none → c0 = 0)) (hP : Fl w P 1 pn (eV R)) : Calls Try.prog 5 #[.agg #[.int .i64 d.c, .int .i64 d.a], .int .i64 am, .int .i64 lim, .slice A0 m0 c0, .slice P pn pc] w (LawPost w) := bk_any d.c d.a am lim A0 m0 c0 g P pn pc R w hA.1 hP
end Go.Proofs.Ytbblachhijpgeaa
