/- DomainsKeepLimit: the walk. -/
import Derived.Test.YtbblachhijpgeaaDmp
import Derived.Test.YtbblachhijpgeaaHSmw
namespace Go.Proofs.Ytbblachhijpgeaa
open Go.ChangeShapes Go.WideShapes Go.ChangeAt Go.RowKit Go.Deep Go.Joins

set_option maxRecDepth 20000 in
set_option maxHeartbeats 32000000 in
theorem dk_any (A : Option Addr) (l c : Nat) (D0 : Nat → Dm) (B : Option Addr) (lk c2 : Nat) (K0 : Nat → Lk) (am lim : Int) (U : Option Addr) (un uc : Nat) (b : Nat → Int) (V : Option Addr) (vn vc : Nat) (g : Nat → Pw) (w : World) (hA : Fl w A 2 l (dV D0)) (hB : Fl w B 3 lk (lV K0)) (hU : Ns .u64 w U un b) (hV : Pwu w V vn g) : Calls Try.prog 7 #[.slice A l c, .slice B lk c2, .int .i64 am, .int .i64 lim, .slice U un uc, .slice V vn vc] w (LawPost w) := by
  have AW := Lib.hid (fun W => awake_any W)
  by_cases hm : 30 < un
  · have q : (30 : Int) < (un : Int) := by omega
    clear hA hB hU hV
    go_enter Try.func7, Try.ntmps7
    go_wp2_with (go_at_call 8; refine (AW.out _).mono ?_; rintro e w9 ⟨rfl, hb9⟩)
    go_ret
    exact ⟨rfl, hb9⟩
  have q : ¬ (30 : Int) < (un : Int) := by omega
  have HU := Lib.hid hU
  have HV := Lib.hid hV
  have PA3 := (pl_spec lim 60 (by omega) (by omega)).2
  have PAH := Lib.hid (pl_spec lim 60 (by omega) (by omega)).1
  generalize pl lim 60 = pt at *
  have SO := som_any A l c D0 B lk c2 K0 am w hA hB
  clear hU hV hA hB
  go_enter Try.func7, Try.ntmps7
  go_wp2_with fail
  refine SO.mono ?_
  clear SO
  rintro e w1 ⟨n, D, m, K, amb, A1, B1, cb, rfl, hF1, hF2, hbn, hG, n1, n5, m12, -, -, a1, a2, hb1⟩
  have hx : Below w1.heap.size w1 (w1.alloc (.cells #[.slice (some A1) n n, .slice B1 m cb, .int .i64 amb] 29)) := bal (Below.refl _ _) _
  obtain ⟨s0, s1, s2⟩ := bx3 w1 (.slice (some A1) n n) (.slice B1 m cb) (.int .i64 amb) 29
  have hb2 := bel2 hb1 hx
  have lS : w1.heap.size < (w1.alloc (.cells #[.slice (some A1) n n, .slice B1 m cb, .int .i64 amb] 29)).heap.size := by simp
  have hG1 := hF1.below' hx
  have hG2 := hF2.below' hx
  obtain ⟨top, htop⟩ : ∃ top, amb + (pt : Int) = top := ⟨_, rfl⟩
  have HT := Lib.hid htop
  have NW := new_any (hG.va (s := amb) n1 n5 m12 a1 (by omega)) (some A1) n B1 cb _ hG1 hG2 hbn
  have t0 : 0 ≤ top - amb := by omega
  have t1 : top - amb ≤ 60 := by omega
  have PA2 : wrap64 ((IntKind.u64.wrap lim).tmod 60) = (pt : Int) := PAH.out.2
  clear hb1 hx hF1 hF2 htop PAH
  go_upto_region 6 with fail
  rw [HT.out]
  clear PA2
  generalize w1.alloc (.cells #[.slice (some A1) n n, .slice B1 m cb, .int .i64 amb] 29) = w2 at *
  generalize w1.heap.size = S at *
  clear w1
  go_wp2_with fail
  refine NW.mono ?_
  clear NW
  rintro e w3 ⟨h, rfl, hH, rfl, rfl, rfl, rfl, rfl, hE, ho, hu, hb3⟩
  have X2 : Sx w w2 h S A1 B1 cb := ⟨s0, s1, s2, hG1, hG2, hbn, lS, hG, n1, n5, m12, a1, a2, hb2⟩
  have X3 := Lib.hid (X2.below hb3)
  have I0 := Lib.hid (inv_new (top := top) hG hE (by omega))
  have hwr : ∀ b, h.wr b → w2.heap.size ≤ b := fun b hb => (hu b (by rcases hb with x | x; exact .inl x; exact .inr (.inl x))).1
  have HW := Lib.hid hwr
  have HH := Lib.hid hH
  have HO := Lib.hid ho
  have HG := Lib.hid hG
  have b2s := hb2.size
  have b3s := hb3.size
  have L3 : Hid (h.L < w3.heap.size ∧ h.X < w3.heap.size ∧ (∀ a, h.A = some a → a.block < w3.heap.size) ∧ ∀ a, h.B = some a → a.block < w3.heap.size) := ⟨hH.lL, hH.lX, fun a e => (hu _ (.inr (.inr (.inl ⟨a, e, rfl⟩)))).2, fun a e => (hu _ (.inr (.inr (.inr ⟨a, e, rfl⟩)))).2⟩
  clear hG1 hG2 hbn hG hH hE ho hu hwr hb2 s0 s1 s2 lS X2 hb3
  have hmk := mk53 h.n (by omega)
  have AN := acs_new h.n w3
  have HP : Hid (∀ i, i < h.n → 1 ≤ (h.D i).a ∧ (h.D i).a ≤ 6 ∧ (h.D i).a ≤ (h.D i).c ∧ (h.D i).c ≤ 10000 ∧ ∃ p : Nat, (h.D i).a * (top - h.s) = (p : Int) ∧ p ≤ 360) := fun i hi => by
    obtain ⟨g1, g2, g3, g4⟩ := HG.out.d i hi
    have := ldK_a HG.out h.m i (Nat.le_refl _)
    have mb0 : 0 ≤ (h.D i).a * (top - h.s) := Int.mul_nonneg (by omega) (by omega)
    have mb := mul_bd (a := (h.D i).a) (b := top - h.s) (A := 6) (B := 60) (by omega) (by omega) (by omega) (by omega)
    exact ⟨g1, g2, by omega, by omega, ((h.D i).a * (top - h.s)).toNat, (Int.toNat_of_nonneg mb0).symm, by omega⟩
  have hxm : Below w3.heap.size w3 (w3.alloc (.cells (zer3 h.n) 77)) := bal (Below.refl _ _) _
  have HXM := Lib.hid hxm
  clear hxm
  go_wp2_with fail
  clear hmk
  generalize w3.alloc (.cells (zer3 h.n) 77) = w4 at *
  generalize hQ : w3.heap.size = Q at *
  have HQ := Lib.hid hQ
  clear hQ
  go_loopw [19] (fun vi wr => ∃ (k : Nat) (f : Nat → St), vi = .int .i64 k ∧ k ≤ h.n ∧ AcS wr Q h.n f ∧ (∀ i, i < h.n → f i = if i < k then ⟨0, 0, (h.D i).a * (top - h.s)⟩ else ⟨0, 0, 0⟩) ∧ Below Q w3 wr) (fun vi _ => h.n - (intOf vi).toNat)
  case atStart => exact ⟨0, f00, rfl, Nat.zero_le _, AN, fun i _ => by rw [if_neg (by omega)]; rfl, HXM.out⟩
  case round =>
    obtain ⟨k, f, rfl, hk, hS, hf, hB⟩ := hrel
    have HS := Lib.hid hS
    have HF := Lib.hid hf
    have HB := Lib.hid hB
    have Xr := Lib.hid (X3.out.below (by rw [HQ.out]; exact hB))
    clear hS hf
    by_cases hlt : k < h.n
    · obtain ⟨g1, g2, g3, g4, p, hp, p1⟩ := HP.out k hlt
      have SU := Lib.hid (fun W => sus_any (h.D k).c (h.D k).a h.s top p g1 (by omega) g3 g4 a1 a2 (by omega) (by omega) hp W)
      have HPK := Lib.hid hp
      obtain ⟨ab, ao, hA1, lA, -⟩ := Xr.out.dm.dat hlt
      injection hA1 with hA1
      subst hA1
      obtain ⟨-, d0, d1⟩ := Xr.out.dm.dat' rfl hlt
      have s0 := Xr.out.s0
      have s2 := Xr.out.s2
      have lSr := Xr.out.lS
      have KP : Hid (∀ W, Below wr.drew.heap.size wr.drew W → W.cell? ⟨S, 0, none⟩ = some (.slice (some ⟨ab, ao, none⟩) h.n h.n) ∧ W.cell? ⟨S, 2, none⟩ = some (.int .i64 h.s) ∧ W.cell? ⟨ab, ao + k * 2, none⟩ = some (.int .i64 (h.D k).c) ∧ W.cell? ⟨ab, ao + k * 2 + 1, none⟩ = some (.int .i64 (h.D k).a)) := fun W hb =>
        ⟨(hb.cell (p := ⟨S, 0, none⟩) lSr).trans s0, (hb.cell (p := ⟨S, 2, none⟩) lSr).trans s2, (hb.cell (p := ⟨ab, ao + k * 2, none⟩) lA).trans d0, (hb.cell (p := ⟨ab, ao + k * 2 + 1, none⟩) lA).trans d1⟩
      clear hp hB
      generalize (h.D k).c = Dc at *
      generalize hda : (h.D k).a = Da at *
      go_upto_region 13 with fail
      refine wp_region_noPanic ?_
      refine wp_region_held_drew (S := fun W => W.cell? ⟨S, 0, none⟩ = some (.slice (some ⟨ab, ao, none⟩) h.n h.n) ∧ W.cell? ⟨S, 2, none⟩ = some (.int .i64 h.s) ∧ W.cell? ⟨ab, ao + k * 2, none⟩ = some (.int .i64 Dc) ∧ W.cell? ⟨ab, ao + k * 2 + 1, none⟩ = some (.int .i64 Da)) (by kernel_rfl) (⟨s0, s2, d0, d1⟩) (fun hHeld => ?_)
      refine wpAnyH_take (i := 0) (v := ?vn0) (by simp only [List.getElem?_toArray, List.getElem?_cons_zero]; rfl) (by kernel_rfl) (by kernel_rfl) (by kernel_rfl) (fun _ _ _ h => h) (Or.inl ⟨by rfl, ?yn0⟩) hHeld ?_
      case yn0 => (intro w hSw; go_simp <;> with_reducible rfl)
      simp only [Act.put, List.setIfInBounds_toArray, List.set_cons_zero, List.set_cons_succ]
      refine wpAnyH_take (i := 1) (v := ?vn1) (by simp only [List.getElem?_toArray, List.getElem?_cons_succ, List.getElem?_cons_zero]; rfl) (by kernel_rfl) (by kernel_rfl) (by kernel_rfl) (fun _ _ _ h => h) (Or.inl ⟨by rfl, ?yn1⟩) hHeld ?_
      case yn1 => (intro w hSw; go_simp <;> with_reducible rfl)
      simp only [Act.put, List.setIfInBounds_toArray, List.set_cons_zero, List.set_cons_succ]
      refine wpAnyH_take (i := 2) (v := ?vn2) (by simp only [List.getElem?_toArray, List.getElem?_cons_succ, List.getElem?_cons_zero]; rfl) (by kernel_rfl) (by kernel_rfl) (by kernel_rfl) (fun _ _ _ h => h) (Or.inl ⟨by rfl, ?yn2⟩) hHeld ?_
      case yn2 => (intro w hSw; go_simp <;> with_reducible rfl)
      simp only [Act.put, List.setIfInBounds_toArray, List.set_cons_zero, List.set_cons_succ]
      refine wpAnyH_take (i := 3) (v := ?vn3) (by simp only [List.getElem?_toArray, List.getElem?_cons_succ, List.getElem?_cons_zero]; rfl) (by kernel_rfl) (by kernel_rfl) (by kernel_rfl) (fun _ _ _ h => h) (Or.inl ⟨by rfl, ?yn3⟩) hHeld ?_
      case yn3 => (intro w hSw; go_simp <;> with_reducible rfl)
      simp only [Act.put, List.setIfInBounds_toArray, List.set_cons_zero, List.set_cons_succ]
      refine wpAnyH_take (i := 4) (v := ?vn4) (by simp only [List.getElem?_toArray, List.getElem?_cons_succ, List.getElem?_cons_zero]; rfl) (by kernel_rfl) (by kernel_rfl) (by kernel_rfl) (fun _ _ _ h => h) (Or.inl ⟨by rfl, ?yn4⟩) hHeld ?_
      case yn4 => (intro w hSw; go_simp <;> with_reducible rfl)
      simp only [Act.put, List.setIfInBounds_toArray, List.set_cons_zero, List.set_cons_succ]
      refine wpAnyH_take (i := 5) (v := ?vn5) (by simp only [List.getElem?_toArray, List.getElem?_cons_succ, List.getElem?_cons_zero]; rfl) (by kernel_rfl) (by kernel_rfl) (by kernel_rfl) (fun _ _ _ h => h) (Or.inl ⟨by rfl, ?yn5⟩) hHeld ?_
      case yn5 => (intro w hSw; go_simp <;> with_reducible rfl)
      simp only [Act.put, List.setIfInBounds_toArray, List.set_cons_zero, List.set_cons_succ]
      refine wpAnyH_take (i := 6) (v := ?vn6) (by simp only [List.getElem?_toArray, List.getElem?_cons_succ, List.getElem?_cons_zero]; rfl) (by kernel_rfl) (by kernel_rfl) (by kernel_rfl) (fun _ _ _ h => h) (Or.inl ⟨by rfl, ?yn6⟩) hHeld ?_
      case yn6 => (intro w hSw; go_simp <;> with_reducible rfl)
      simp only [Act.put, List.setIfInBounds_toArray, List.set_cons_zero, List.set_cons_succ]
      refine wpAnyH_take (i := 7) (v := ?vn7) (by simp only [List.getElem?_toArray, List.getElem?_cons_succ, List.getElem?_cons_zero]; rfl) (by kernel_rfl) (by kernel_rfl) (by kernel_rfl) (fun _ _ _ h => h) (Or.inl ⟨by rfl, ?yn7⟩) hHeld ?_
      case yn7 => (intro w hSw; go_simp <;> with_reducible rfl)
      simp only [Act.put, List.setIfInBounds_toArray, List.set_cons_zero, List.set_cons_succ]
      refine wpAnyH_ready (rs := [8]) (by kernel_rfl) (by simp) ?_
      refine AllReadyH.cons (by simp only [List.getElem?_toArray, List.getElem?_cons_succ, List.getElem?_cons_zero]; rfl) (fun K hK => ?_) ?_
      rotate_left
      · exact AllReadyH.nil
      go_simp
      go_at_call 10
      refine (SU.out _).mono ?_
      rintro e w9 ⟨rfl, hb9⟩
      go_wp2_with fail
      refine hK.out _ _ ?_ (fun hHeld => ?_)
      · exact KP.out _ hb9
      clear hK K
      refine wpAnyH_take (i := 9) (v := ?vn9) (by simp only [List.getElem?_toArray, List.getElem?_cons_succ, List.getElem?_cons_zero]; rfl) (by kernel_rfl) (by kernel_rfl) (by kernel_rfl) (fun _ _ _ h => h) (Or.inl ⟨by rfl, ?yn9⟩) hHeld ?_
      case yn9 => (intro w hSw; go_simp <;> with_reducible rfl)
      simp only [Act.put, List.setIfInBounds_toArray, List.set_cons_zero, List.set_cons_succ]
      refine wpAnyH_take (i := 10) (v := ?vn10) (by simp only [List.getElem?_toArray, List.getElem?_cons_succ, List.getElem?_cons_zero]; rfl) (by kernel_rfl) (by kernel_rfl) (by kernel_rfl) (fun _ _ _ h => h) (Or.inl ⟨by rfl, ?yn10⟩) hHeld ?_
      case yn10 => (intro w hSw; go_simp <;> with_reducible rfl)
      simp only [Act.put, List.setIfInBounds_toArray, List.set_cons_zero, List.set_cons_succ]
      refine wpAnyH_take (i := 11) (v := ?vn11) (by simp only [List.getElem?_toArray, List.getElem?_cons_succ, List.getElem?_cons_zero]; rfl) (by kernel_rfl) (by kernel_rfl) (by kernel_rfl) (fun _ _ _ h => h) (Or.inl ⟨by rfl, ?yn11⟩) hHeld ?_
      case yn11 => (intro w hSw; go_simp <;> with_reducible rfl)
      simp only [Act.put, List.setIfInBounds_toArray, List.set_cons_zero, List.set_cons_succ]
      refine wpAnyH_take (i := 12) (v := ?vn12) (by simp only [List.getElem?_toArray, List.getElem?_cons_succ, List.getElem?_cons_zero]; rfl) (by kernel_rfl) (by kernel_rfl) (by kernel_rfl) (fun _ _ _ h => h) (Or.inl ⟨by rfl, ?yn12⟩) hHeld ?_
      case yn12 => (intro w hSw; go_simp <;> with_reducible rfl)
      simp only [Act.put, List.setIfInBounds_toArray, List.set_cons_zero, List.set_cons_succ]
      refine wpAnyH_take (i := 13) (v := ?vn13) (by simp only [List.getElem?_toArray, List.getElem?_cons_succ, List.getElem?_cons_zero]; rfl) (by kernel_rfl) (by kernel_rfl) (by kernel_rfl) (fun _ _ _ h => h) (Or.inl ⟨by rfl, ?yn13⟩) hHeld ?_
      case yn13 => (intro w hSw; go_simp <;> with_reducible rfl)
      simp only [Act.put, List.setIfInBounds_toArray, List.set_cons_zero, List.set_cons_succ]
      refine wpAnyH_done (by kernel_rfl) ?_ _
      refine NoPanic.normal ?_
      have HB3 : Below w3.heap.size w3 wr := by rw [HQ.out]; exact HB.out
      have S9 := HS.out.below (bel2 (Below.refl _ wr).drew hb9)
      have BB : Below w3.heap.size w3 w9 := bel2 HB3.drew hb9
      have y2 := S9.c2 k hlt
      have y3 := S9.fz (k * 3 + 2)
      have lQ := S9.lt
      have S10 := Lib.hid (S9.setC k hlt p)
      have B10 : Hid (Below Q w3 (w9.setCell ⟨Q, k * 3 + 2, none⟩ (.int .u64 p))) := by
        have := BB.setCell (p := ⟨Q, k * 3 + 2, none⟩) (by show w3.heap.size ≤ Q; exact Nat.le_of_eq HQ.out) (.int .u64 p)
        rw [HQ.out] at this
        exact this
      have F10 : Hid (∀ i, i < h.n → putM f k p i = if i < k + 1 then ⟨0, 0, (h.D i).a * (top - h.s)⟩ else ⟨0, 0, 0⟩) := fun i hi => by
        have e0 := HF.out i hi
        unfold putM
        by_cases e : i = k
        · subst e
          rw [if_pos rfl, if_pos (by omega), e0, if_neg (by omega), hda, HPK.out]
        · rw [if_neg e, e0]
          by_cases e2 : i < k
          · rw [if_pos e2, if_pos (by omega)]
          · rw [if_neg e2, if_neg (by omega)]
      have p0 : ¬ (p : Int) < 0 := by omega
      have wp : IntKind.u64.wrap (p : Int) = (p : Int) := by rw [IntKind.wrap_u64]; omega
      clear hb9 S9 BB HB3 s0 s2 d0 d1 KP
      go_wp2
      go_roundw
      case rel => exact ⟨k + 1, putM f k p, by go_num, by omega, S10.out, F10.out, B10.out⟩
      case measure => simp [intOf]; omega
    · obtain rfl : k = h.n := by omega
      have hq : ¬ (h.n : Int) < (h.n : Int) := by omega
      have HB3 : Below w3.heap.size w3 wr := by rw [HQ.out]; exact hB
      have H7 := Lib.hid (HH.out.below HB3)
      have B7 := Lib.hid Xr.out.bel
      have S7 := Lib.hid HS.out
      have PB : Hid (∀ i, i < h.n → 0 ≤ (h.D i).a * (top - h.s) ∧ (h.D i).a * (top - h.s) ≤ 360) := fun i hi => by
        obtain ⟨-, -, -, -, p, hp, p1⟩ := HP.out i hi
        omega
      have F7 : Hid (AcF h.n (fun i => (h.D i).a * (top - h.s)) f) := fun i hi => by
        have := HF.out i hi
        rw [if_pos hi] at this
        rw [this]
        exact ⟨rfl, rfl, Int.le_refl _, by show (0 : Int) < _; omega⟩
      have UQ : Hid (∀ E o b, (h.at E o).uses b → ¬ b = Q) := fun E o b hb => by
        obtain ⟨l1, l2, l3, l4⟩ := L3.out
        have := HQ.out
        rcases hb with e | e | ⟨a, e, e2⟩ | ⟨a, e, e2⟩
        · have e : b = h.L := e
          omega
        · have e : b = h.X := e
          omega
        · have := l3 a e
          omega
        · have := l4 a e
          omega
      have WG : Hid (∀ b, (h.wr b ∨ b = Q) → w.heap.size ≤ b) := fun b hb => by
        have := HQ.out
        rcases hb with e | e
        · have := HW.out b e
          omega
        · omega
      have WQ : Hid (¬ h.wr Q) := fun e => by
        obtain ⟨l1, l2, -, -⟩ := L3.out
        have := HQ.out
        have e : Q = h.L ∨ Q = h.X := e
        omega
      have l7 : w3.heap.size ≤ wr.heap.size := HB3.size
      have S7s : Q < wr.heap.size := HS.out.lt
      clear hB HB3 HB Xr HS HF HH
      go_wp2_with fail
      generalize wr = w7 at *
      go_loopw [22] (fun vi wr => ∃ (j : Nat) (E : Nat → Int) (o : Int) (f : Nat → St), vi = .int .i64 j ∧ j ≤ un ∧ Hm wr (h.at E o) ∧ Inv (h.at E o) top ∧ 0 ≤ o ∧ o ≤ 60000 * (j : Int) ∧ AcS wr Q h.n f ∧ AcF h.n (fun i => (h.D i).a * (top - h.s)) f ∧ Chg (fun b => h.wr b ∨ b = Q) w7 wr) (fun vi _ => un - (intOf vi).toNat)
      case atStart => exact ⟨0, h.E, h.o, f, rfl, Nat.zero_le _, H7.out, I0.out, by rw [HO.out]; exact Int.le_refl _, by rw [HO.out]; show (0 : Int) ≤ _; omega, S7.out, F7.out, Chg.refl _ _⟩
      case round =>
        clear S7 F7
        obtain ⟨j, E, o, f, rfl, hj, hH, hI, o1, o2, hS, hF, hC⟩ := hrel
        have BW : Hid (Below w.heap.size w wr) := Below.chg B7.out hC B7.out.size WG.out
        have HK := Lib.hid hH
        have HI := Lib.hid hI
        have CC := Lib.hid hC
        have HS := Lib.hid hS
        have HF := Lib.hid hF
        clear hH hI hC hS hF
        by_cases hlt : j < un
        · obtain ⟨ub, uo, rfl, u0⟩ := HU.out.at BW.out (Nat.le_refl _) hlt
          have ubw : ub < w.heap.size := by
            rcases HU.out.row with h0 | ⟨b', o', e, h1, -⟩
            · omega
            · injection e with e; injection e with e1 e2; subst e1; exact h1
          have UC := Lib.hid (fun (W : World) (hb : Below w.heap.size w W) => (HU.out.at hb (Nat.le_refl _) hlt))
          have bj0 := wf_u64 (HU.out.wf j hlt)
          go_wp2_with fail
          generalize wr = w8 at *
          go_loopw [23] (fun vi wr => ∃ (k : Nat) (f : Nat → St), vi = .int .i64 k ∧ k ≤ h.n ∧ AcS wr Q h.n f ∧ AcF h.n (fun i => (h.D i).a * (top - h.s)) f ∧ Chg (fun b => b = Q) w8 wr) (fun vi _ => h.n - (intOf vi).toNat)
          case atStart => exact ⟨0, f, rfl, Nat.zero_le _, HS.out, HF.out, Chg.refl _ _⟩
          case round =>
            clear HS HF
            obtain ⟨k, f, rfl, hk, hS, hF, hC⟩ := hrel
            have C8 := Lib.hid hC
            have F8 := Lib.hid hF
            have B8 : Hid (Below w.heap.size w wr) := Below.chg BW.out hC BW.out.size (fun b e => WG.out b (.inr e))
            clear hC hF
            by_cases hkn : k < h.n
            · have y0 := hS.c0 k hkn
              have y3 := hS.fz (k * 3)
              have lQ := hS.lt
              have wjk : IntKind.u64.wrap ((j : Int) + (k : Int)) = (j : Int) + (k : Int) := by rw [IntKind.wrap_u64]; omega
              have S9 := Lib.hid (hS.setA k hkn ((j : Int) + (k : Int)))
              have F9 := Lib.hid (F8.out.put k (x := (j : Int) + (k : Int)) (by omega) (by omega))
              have C9 := Lib.hid (C8.out.trans (Chg.set wr Q (k * 3) (.int .u64 ((j : Int) + (k : Int)))))
              have B9 : Hid (Below w.heap.size w (wr.setCell ⟨Q, k * 3, none⟩ (.int .u64 ((j : Int) + (k : Int))))) := B8.out.setCell (p := ⟨Q, k * 3, none⟩) (WG.out Q (.inr rfl)) _
              clear hS
              go_upto_region 24 with fail
              generalize wr.setCell ⟨Q, k * 3, none⟩ (.int .u64 ((j : Int) + (k : Int))) = w9 at *
              clear y0 y3 lQ wjk
              by_cases hv : j < vn
              · obtain ⟨vb, vo, rfl, vlt, v0, vF⟩ := HV.out.at (show Below w.heap.size w w9 from B9.out) hv
                have vwf := HV.out.wf j k hv
                generalize g j = gj at *
                obtain ⟨ga, gl, gc, gz⟩ := gj
                by_cases hl : k < gl
                · obtain ⟨zb, zo, rfl, zlt, zc⟩ : ∃ zb zo, ga = some ⟨zb, zo, none⟩ ∧ zb < w9.heap.size ∧ w9.cell? ⟨zb, zo + k, none⟩ = some (.int .u64 (gz k)) := by
                    rcases vF.row with h0 | ⟨b', o', e, h1, h2⟩
                    · have h0 : gl = 0 := h0
                      omega
                    · exact ⟨b', o', e, h1, h2 k (by have : k < gl * 1 := by omega
                                                     exact this)⟩
                  have vw := vwf hl
                  have S9o := S9.out
                  have y0 := S9o.c0 k hkn
                  have y3 := S9o.fz (k * 3)
                  have lQ := S9o.lt
                  have S10 := Lib.hid (S9o.setA k hkn (gz k))
                  have F10 := Lib.hid (F9.out.put k (x := gz k) vw.1 vw.2)
                  have C10 := Lib.hid (C9.out.trans (Chg.set w9 Q (k * 3) (.int .u64 (gz k))))
                  clear S9o vF vwf S9 vw
                  generalize gz k = gzk at *
                  go_wp2
                  go_roundw
                  case rel => exact ⟨k + 1, putR (putR f k ((j : Int) + (k : Int))) k gzk, by go_num, by omega, S10.out, F10.out, C10.out⟩
                  case measure => simp [intOf]; omega
                · have hlq : ¬ (k : Int) < (gl : Int) := by omega
                  clear vF vwf
                  go_wp2
                  go_roundw
                  case rel => exact ⟨k + 1, putR f k ((j : Int) + (k : Int)), by go_num, by omega, S9.out, F9.out, C9.out⟩
                  case measure => simp [intOf]; omega
              · have hvq : ¬ (j : Int) < (vn : Int) := by omega
                go_wp2
                go_roundw
                case rel => exact ⟨k + 1, putR f k ((j : Int) + (k : Int)), by go_num, by omega, S9.out, F9.out, C9.out⟩
                case measure => simp [intOf]; omega
            · obtain rfl : k = h.n := by omega
              have hkq : ¬ (h.n : Int) < (h.n : Int) := by omega
              have PB4 : ∀ i, i < h.n → 0 ≤ (h.D i).a * (top - h.s) ∧ (h.D i).a * (top - h.s) ≤ 4294967296 := fun i hi => by have := PB.out i hi; omega
              have SL := hS.sls (by omega) (F8.out.wf PB4)
              have VA := F8.out.ok PB4 (by omega)
              have GA9 := Lib.hid (ga_of SL VA)
              have AT0 := F8.out.at0 (fun i hi => (PB.out i hi).1) h.n (Nat.le_refl _)
              obtain ⟨ub', uo', e', u1⟩ := UC.out wr B8.out
              injection e' with e'
              injection e' with e1 e2
              subst e1 e2
              obtain ⟨bu, hbu⟩ : ∃ bu, b j % 600 = bu := ⟨_, rfl⟩
              have bu0 : 0 ≤ bu := by omega
              have bu1 : bu < 600 := by omega
              have AL := alc_any bu (some ⟨Q, 0, none⟩) h.n h.n f wr (by omega) SL
              have HVA := Lib.hid VA
              have HBU := Lib.hid hbu
              have S9 := Lib.hid hS
              clear hS PB4 SL VA u0 hbu
              go_wp2_with fail
              rw [HBU.out]
              refine AL.mono ?_
              clear AL
              generalize wr = w9 at *
              rintro e w10 ⟨l, code, A8, c8, rfl, hR, hL, hb10, -⟩
              have AF := alloc_fair hR HVA.out GA9.out
              rcases AF with ⟨rfl, hlow⟩ | ⟨rfl, -, hF⟩
              · exfalso
                omega
              obtain ⟨-, hlen, hgr, hsum, -⟩ := hF
              have hsb : sumTo l h.n ≤ bu := by rw [hsum]; omega
              have HGR : Hid (∀ i, i < h.n → 0 ≤ l.getD i 0 ∧ l.getD i 0 ≤ (h.D i).a * (top - h.s)) := fun i hi => by
                have e1 := (hgr i hi).1
                have e2 := (hgr i hi).2
                obtain ⟨a, b, c, d⟩ := F8.out i hi
                have e3 : wI (f i) = wantI (f i).a (f i).b (f i).c := rfl
                unfold wantI at e3
                have hc : (f i).c = (h.D i).a * (top - h.s) := b
                omega
              have S10 := Lib.hid (S9.out.below hb10)
              have B10 := Lib.hid (bel2 B8.out hb10)
              have C10 := Lib.hid (C8.out.trans (Chg.of_below hb10 _))
              have HAC : Hid (∀ i, i < h.n → ∃ gb, A8 = some ⟨gb, 0, none⟩ ∧ gb < w10.heap.size ∧ w10.cell? ⟨gb, i, none⟩ = some (.int .u64 (l.getD i 0))) := fun i hi => by
                rcases hL with h0 | ⟨gb, e, h1, h2, h3, _⟩
                · rw [h0] at hlen
                  simp at hlen
                  omega
                · exact ⟨gb, e, h2, h3 i (by rw [hlen]; exact hi)⟩
              have hmk := run_make_row' (P := Try.prog) 24 2 _ 8 Try.underlying24 info2 rfl .i64 .i64 h.n (by omega) (by omega)
              have L0 := Lib.hid (lr_made w10 h.n 2)
              rw [hlen]
              have HLN := Lib.hid hlen
              clear hR hL hb10 hgr hsum hlen AT0
              go_wp2_with fail
              clear hmk
              generalize w10.alloc (.cells (madeCells #[.int .i64 0] h.n) 2) = w11 at *
              generalize hY : w10.heap.size = Y at *
              have HY := Lib.hid hY
              clear hY
              go_loopw [27, 28] (fun v27 v28 wr => ∃ k : Nat, v27 = .int .u64 (sumTo l k) ∧ v28 = .int .i64 k ∧ k ≤ h.n ∧ Lr w10 wr Y h.n (fun i => if i < k then l.getD i 0 else 0)) (fun _ v28 _ => h.n - (intOf v28).toNat)
              case atStart => exact ⟨0, rfl, rfl, Nat.zero_le _, L0.out.congr (fun j _ => if_neg (by omega))⟩
              case round =>
                clear L0
                obtain ⟨k, rfl, rfl, hk, hL⟩ := hrel
                have L := Lib.hid hL
                by_cases hkn : k < h.n
                · obtain ⟨gb, rfl, gb2', gc⟩ := HAC.out k hkn
                  have gb2 : gb < w10.heap.size := by rw [HY.out]; exact gb2'
                  have gcx := (hL.bel.cell (p := ⟨gb, k, none⟩) gb2).trans gc
                  have q2 := (hL.bel.cell (p := ⟨Q, k * 3 + 2, none⟩) S10.out.lt).trans (S10.out.c2 k hkn)
                  have glx := Nat.lt_of_lt_of_le gb2 hL.bel.size
                  have qlx := Nat.lt_of_lt_of_le S10.out.lt hL.bel.size
                  have gr := HGR.out k hkn
                  have pk := PB.out k hkn
                  have fc : (f k).c = (h.D k).a * (top - h.s) := (F8.out k hkn).2.1
                  have y0 := hL.at_ k hkn
                  have fy := hL.frz k
                  have lY := hL.lY
                  have ss := sumTo_nn (l := l) (n := h.n) (fun i hi => (HGR.out i hi).1) k (by omega)
                  have ss2 := sumTo_mono (l := l) (n := h.n) (fun i hi => (HGR.out i hi).1) k (by omega)
                  have GS : Hid (sumTo l (k + 1) = sumTo l k + l.getD k 0) := rfl
                  have NX : Hid (∀ nq, Lr w10 ((wr.drewN nq).setCell ⟨Y, k, none⟩ (.int .i64 (l.getD k 0))) Y h.n (fun i => if i < k + 1 then l.getD i 0 else 0)) := fun nq => ((hL.drewN nq).set k hkn _).congr (fun j hj => by
                    by_cases e : j = k
                    · subst e; rw [if_pos (by omega), if_pos rfl]
                    · rw [if_neg e]
                      by_cases e2 : j < k
                      · rw [if_pos (by omega), if_pos e2]
                      · rw [if_neg (by omega), if_neg e2])
                  rw [← fc] at gr pk
                  clear fc hL L
                  generalize l.getD k 0 = lk9 at *
                  generalize (f k).c = fck at *
                  generalize sumTo l k = sk at *
                  have qg : ¬ fck < lk9 := by omega
                  have w1 : IntKind.u64.wrap (sk + lk9) = sk + lk9 := by rw [IntKind.wrap_u64]; omega
                  go_upto_region 34 with fail
                  go_quiet (fail)
                  go_wp2
                  go_roundw
                  case rel => exact ⟨k + 1, by rw [GS.out], by go_num, by omega, NX.out nq⟩
                  case measure => simp [intOf]; omega
                · obtain rfl : k = h.n := by omega
                  have hkq2 : ¬ (h.n : Int) < (h.n : Int) := by omega
                  have LF := hL.congr (U := fun i => l.getD i 0) (fun j hj => by rw [if_pos hj])
                  have C12 : Chg (fun b => b = Q) w8 wr := C10.out.trans (Chg.of_below hL.bel _)
                  have K12 := HK.out.keep C12 (fun b hb => UQ.out E o b hb)
                  have B12 := Lib.hid (bel2 B10.out hL.bel)
                  have S12 := Lib.hid (S10.out.below hL.bel)
                  have RG := HI.out.rg (Z := fun i => l.getD i 0) a1 (by show h.s ≤ 70000; omega) (by show top ≤ h.s + 2000; omega) m12 (fun i hi => by
                    have := HGR.out i hi
                    have := PB.out i hi
                    show 0 ≤ l.getD i 0 ∧ l.getD i 0 ≤ _
                    omega) (by show _ ≤ o; omega) (by show o ≤ _; omega)
                  have l1 : h.L < w8.heap.size := HK.out.lL
                  have l2 : h.X < w8.heap.size := HK.out.lX
                  have l3 : w8.heap.size ≤ w10.heap.size := C10.out.size
                  have SP : Calls Try.prog 13 #[.pointer (some ⟨h.L, 0, none⟩), .slice (some ⟨Y, 0, none⟩) h.n h.n] wr (StP wr (h.at E o) ((h.at E o).stp (fun i => l.getD i 0))) := stp_any K12 (some ⟨Y, 0, none⟩) h.n (fun i => l.getD i 0) (LF.fl (by omega)) RG (fun a e => by injection e with e; subst e; show ¬ (Y = h.L ∨ Y = h.X); have := HY.out; omega)
                  have I2 := HI.out.step (Z := fun i => l.getD i 0) (fun i hi => HGR.out i hi)
                  have OU := HI.out.ou (by show top ≤ h.s + 2000; omega) h.n (Nat.le_refl _)
                  rw [at_stp] at SP I2
                  obtain ⟨E', hE'⟩ : ∃ E', E' = ((h.at E o).stp (fun i => l.getD i 0)).E := ⟨_, rfl⟩
                  obtain ⟨o', ho'⟩ : ∃ o', o' = ((h.at E o).stp (fun i => l.getD i 0)).o := ⟨_, rfl⟩
                  have OB : 0 ≤ o' ∧ o' ≤ 60000 * ((j : Int) + 1) := by
                    rw [ho']
                    show 0 ≤ o + (h.at E o).ouK h.n ∧ o + (h.at E o).ouK h.n ≤ _
                    have : (h.n : Int) ≤ 5 := by omega
                    omega
                  rw [← hE', ← ho'] at SP I2
                  have I2h := Lib.hid I2
                  have C12h := Lib.hid C12
                  clear hE' ho' OU RG K12 LF L hL I2 C12
                  generalize hsN : sumTo l h.n = sN at *
                  have qs : ¬ bu < sN := by omega
                  clear hsN
                  go_wp2_with fail
                  refine SP.mono ?_
                  clear SP
                  rintro e w13 ⟨v, rfl, hT, hK6, hC6⟩
                  obtain ⟨A6, c6, rfl, hTF, -⟩ := hT
                  have hC6 : Chg h.wr wr w13 := hC6
                  have B13 := Lib.hid (Below.chg B12.out hC6 B12.out.size (fun b q => WG.out b (.inl q)))
                  have S13 := Lib.hid (S12.out.chg hC6 WQ.out)
                  have K13 := Lib.hid hK6
                  have hTF : Fl w13 A6 1 h.n (eV (h.at E' o').T) := hTF
                  have HTF := Lib.hid hTF
                  have C13 : Hid (Chg (fun b => h.wr b ∨ b = Q) w7 w13) := CC.out.trans ((C12h.out.mono (fun _ _ e => .inr e)).trans (hC6.mono (fun _ _ e => .inl e)))
                  obtain ⟨ub', uo', e', u2⟩ := UC.out w13 B13.out
                  injection e' with e'
                  injection e' with e1 e2
                  subst e1 e2
                  have hbu2 := HBU.out
                  have ubx := Nat.lt_of_lt_of_le ubw B13.out.size
                  clear hTF hK6 hC6 C12h u1
                  go_wp2_with fail
                  go_loop [31] (fun v31 => ∃ k : Nat, v31 = .int .i64 k ∧ k ≤ h.n) (fun v31 => h.n - (intOf v31).toNat)
                  case atStart => exact ⟨0, rfl, Nat.zero_le _⟩
                  case round =>
                    obtain ⟨k, rfl, hk3⟩ := hrel
                    by_cases hk4 : k < h.n
                    · obtain ⟨tb, tf, rfl, tlt, tc⟩ := HTF.out.eat hk4
                      have T := I2h.out.T (i := k) hk4
                      have qt : ¬ top < (h.at E' o').T k := by omega
                      clear T
                      generalize (h.at E' o').T k = tk at *
                      go_wp2_with fail
                      go_round
                      case rel => exact ⟨k + 1, by go_num, by omega⟩
                      case measure => simp [intOf]; omega
                    · obtain rfl : k = h.n := by omega
                      have hq3 : ¬ (h.n : Int) < (h.n : Int) := by omega
                      go_wp2
                      go_roundw
                      case rel => exact ⟨j + 1, E', o', f, by go_num, by omega, K13.out, I2h.out, OB.1, by have := OB.2; omega, S13.out, F8.out, C13.out⟩
                      case measure => simp [intOf]; omega
        · have hjq : ¬ (j : Int) < (un : Int) := by omega
          clear HK HI CC HS HF
          go_wp2_with (go_at_call 8; refine (AW.out _).mono ?_; rintro e w9 ⟨rfl, hb9⟩)
          go_ret
          exact ⟨rfl, bel2 BW.out hb9⟩
theorem dk_w (A : Option Addr) (l c : Nat) (D0 : Nat → Dm) (B : Option Addr) (lk c2 : Nat) (K0 : Nat → Lk) (am lim : Int) (U : Option Addr) (un uc : Nat) (b : Nat → Int) (V : Option Addr) (vn vc : Nat) (g : Nat → Pw) (w : World) (hA : Fl w A 2 l (dV D0)) (hB : Fl w B 3 lk (lV K0)) (_h2 : (Lit.int .i64 am).wf = true) (_h3 : (Lit.int .i64 lim).wf = true) (hU : Ns .u64 w U un b) (hV : Pwu w V vn g) : Calls Try.prog 7 #[.slice A l c, .slice B lk c2, .int .i64 am, .int .i64 lim, .slice U un uc, .slice V vn vc] w (LawPost w) := dk_any A l c D0 B lk c2 K0 am lim U un uc b V vn vc g w hA hB hU hV
end Go.Proofs.Ytbblachhijpgeaa
