/- New, of a valid model: the walk. -/
import Derived.Test.YtidegjinfacjjaaNwm
namespace Go.Proofs.Ytidegjinfacjjaa
open Go.ChangeShapes Go.WideShapes Go.ChangeAt Go.RowKit Go.Deep Go.Joins Go.Maps

def NwP (w : World) (n : Nat) (D : Nat → Dm) (m : Nat) (K : Nat → Lk) (s : Int) (e : Ending) (w' : World) : Prop :=
  ∃ h : Mo, e = .returned (.tuple #[.pointer (some ⟨h.L, 0, none⟩), .int .i64 0]) ∧ Hm w' h ∧ h.n = n ∧ h.D = D ∧ h.m = m ∧ h.K = K ∧ h.s = s ∧ h.E = (fun i => (D i).c * s) ∧ h.o = 0 ∧ (∀ b, h.uses b → w.heap.size ≤ b ∧ b < w'.heap.size) ∧ Below w.heap.size w w'
theorem mk_done {w wr : World} {L : Nat} {A : Option Addr} {n ca : Nat} {D : Nat → Dm} {B : Option Addr} {m cb : Nat} {K : Nat → Lk} {s : Int} {v : Value} (h : Mk w wr L A n ca D B m cb K s v n) (n1 : 1 ≤ n) (n2 : n ≤ 16) (m1 : m ≤ 1000) :
    NwP w n D m K s (.returned (.tuple #[.pointer (some ⟨L, 0, none⟩), .int .i64 0])) wr := by
  obtain ⟨A', cap, rfl, hF, hcp, -, hab, hnn, hg⟩ := fl_of_own (e := 2) (k := 1) (n := n) (by rw [Nat.mul_one]; exact h.own) (by omega)
  cases A' with
  | none => have := (hnn rfl).1; omega
  | some a =>
    obtain ⟨e1, e2, e3, e4⟩ := hg a.block rfl
    have e1 : a = ⟨a.block, 0, none⟩ := by injection e1
    rw [e1] at hF
    refine ⟨⟨L, a.block, A, ca, B, cb, cap, n, D, m, K, s, fun i => (D i).c * s, 0⟩, rfl, ⟨h.c0, h.c1, h.c2, ?_, h.c4, h.fL, e4, h.lL, e3, by show L ≠ a.block; omega, h.dm, h.lk, fun x hx => ?_, fun x hx => ?_, fun i hi => ?_, n1, n2, m1⟩, rfl, rfl, rfl, rfl, rfl, rfl, rfl, ?_, h.bel⟩
    · have := h.c3
      rw [e1] at this
      exact this
    · have := (h.aL x hx).2
      show x.block ≠ L ∧ x.block ≠ a.block
      omega
    · have := (h.bL x hx).2
      show x.block ≠ L ∧ x.block ≠ a.block
      omega
    · have := (hF.eat' rfl (show i < n from hi)).2
      rw [Nat.zero_add] at this
      exact this
    · have hw0 := h.w0
      have lL := h.lL
      intro b hb
      rcases hb with hb | hb | ⟨x, hx, hb⟩ | ⟨x, hx, hb⟩
      · have hb : b = L := hb
        omega
      · have hb : b = a.block := hb
        omega
      · have := h.aL x hx
        omega
      · have := h.bL x hx
        omega
set_option maxRecDepth 20000 in
set_option maxHeartbeats 16000000 in
theorem new_any {n m : Nat} {D : Nat → Dm} {K : Nat → Lk} {s : Int} (v : Va n D m K s) (A : Option Addr) (ca : Nat) (B : Option Addr) (cb : Nat) (w : World) (hA : Fl w A 2 n (dV D)) (hB : Fl w B 3 m (lV K)) (hBn : B = none → m = 0 ∧ cb = 0) : Calls Try.prog 14 #[.slice A n ca, .slice B m cb, .int .i64 s] w (NwP w n D m K s) := by
  have V := Lib.hid v
  have HA := Lib.hid hA
  have n1 := v.n1
  have n2 := v.n2
  have m1 := v.m1
  obtain ⟨b, off, rfl, -⟩ := hA.addr n1
  have VL := vld_any v (some ⟨b, off, none⟩) ca B cb w hA hB
  have CL1 := Lib.hid (fun (W : World) (hb : Below w.heap.size w W) => clo30 (some ⟨b, off, none⟩) n ca (dV D) W (hA.below hb (Nat.le_refl _)) (fun e => by cases e) (by omega) (dV_one D))
  have CL2 := Lib.hid (fun (W : World) (hb : Below w.heap.size w W) => clo31 B m cb (lV K) W (hB.below hb (Nat.le_refl _)) hBn (by omega) (lV_one K))
  obtain ⟨i0, hi, hzz⟩ := Option.map_eq_some_iff.1 info2
  simp only [Prod.mk.injEq] at hzz
  have HI := Lib.hid (And.intro hi (And.intro hzz.1 (And.intro hzz.2.1 hzz.2.2)))
  clear v hA hB hBn hi hzz
  go_enter Try.func14, Try.ntmps14
  go_wp2_with fail
  refine VL.mono ?_
  clear VL
  rintro e w1 ⟨rfl, hb1⟩
  have P1 := CL1.out w1 hb1
  have HB1 := Lib.hid hb1
  clear hb1 CL1
  go_wp2_with fail
  refine P1.mono ?_
  clear P1
  rintro e w2 ⟨A2, c2, rfl, hF1, ha1, -, -, -, -, hb2⟩
  have HB2 := Lib.hid (bel2 HB1.out hb2)
  have P2 := CL2.out w2 HB2.out
  obtain ⟨ab, ao, rfl, -⟩ := hF1.addr n1
  have ha1 := ha1 _ rfl
  have HF1 := Lib.hid hF1
  have hb2s := hb2.size
  have hb1s := HB1.out.size
  clear hF1 hb2 CL2
  go_wp2_with fail
  refine P2.mono ?_
  clear P2
  rintro e w3 ⟨B2, cb2, rfl, hF2, ha2, -, -, -, -, hb3⟩
  have hb3s := hb3.size
  have MK : Hid (Mk w (w3.alloc (.cells #[.slice (some ⟨ab, ao, none⟩) n c2, .slice B2 m cb2, .int .i64 s, .slice none 0 0, .int .i64 0] 65)) w3.heap.size (some ⟨ab, ao, none⟩) n c2 D B2 m cb2 K s (.slice none 0 0) 0) := by
    have hx : Below w3.heap.size w3 (w3.alloc (.cells #[.slice (some ⟨ab, ao, none⟩) n c2, .slice B2 m cb2, .int .i64 s, .slice none 0 0, .int .i64 0] 65)) := bal (Below.refl _ _) _
    exact ⟨new_c .., new_c .., new_c .., new_c .., new_c .., fun j => frozen_of_row _ _ j _ _ (heap_alloc_new w3 _), by simp, ⟨rfl, .inl ⟨rfl, rfl⟩⟩, bal (bel2 HB2.out hb3) _, by omega, (HF1.out.below' hb3).below' hx, hF2.below' hx, fun a e => by injection e with e; subst e; simp only at ha1 ⊢; omega, fun a e => by have := ha2 a e; omega⟩
  clear hF2 ha2 HF1 ha1 HB1 HB2 hb3
  go_wp2_with fail
  generalize w3.alloc (.cells #[.slice (some ⟨ab, ao, none⟩) n c2, .slice B2 m cb2, .int .i64 s, .slice none 0 0, .int .i64 0] 65) = w4 at *
  generalize hL : w3.heap.size = L at *
  clear hL hb3s
  clear w3
  go_loopw [25] (fun vi wr => ∃ (i : Nat) (v : Value), vi = .int .i64 i ∧ i ≤ n ∧ Mk w wr L (some ⟨ab, ao, none⟩) n c2 D B2 m cb2 K s v i) (fun vi _ => n - (intOf vi).toNat)
  case atStart => exact ⟨0, _, rfl, Nat.zero_le _, MK.out⟩
  case round =>
    clear MK
    obtain ⟨i, v, rfl, hi, hM⟩ := hrel
    have M := Lib.hid hM
    by_cases hlt : i < n
    · obtain ⟨hb, d0, d1⟩ := (HA.out.below hM.bel (Nat.le_refl _)).dat' rfl hlt
      obtain ⟨a1, a2, a3⟩ := V.out.d i hlt
      have a4 := V.out.ld i hlt
      have a5 := (V.out.b m i (Nat.le_refl _) hlt).1
      obtain ⟨s1, s2⟩ := V.out.s
      have mb := mul_bd (a := (D i).c) (b := s) (A := 16777216) (B := 16777216) (by omega) (by omega) (by omega) (by omega)
      obtain ⟨en, hen⟩ : ∃ en, en = (D i).c * s := ⟨_, rfl⟩
      obtain ⟨W1, W1w⟩ := both (x := (D i).c * s) (y := en) (by omega) hen.symm
      have hx : Below wr.heap.size wr (wr.alloc (.cells #[.int .i64 (D i).c, .int .i64 (D i).a] 31)) := bal (Below.refl _ wr) _
      obtain ⟨z0, -⟩ := bx2 wr (.int .i64 (D i).c) (.int .i64 (D i).a) 31
      have M2 := Lib.hid (hM.below hx)
      have lQ : wr.heap.size < (wr.alloc (.cells #[.int .i64 (D i).c, .int .i64 (D i).a] 31)).heap.size := by simp
      have lLQ : L < wr.heap.size := hM.lL
      have hvQ : ∀ b, v.ownBlock = some b → L < b ∧ b < wr.heap.size := fun b hb => by have := own_lo hM.own b hb; omega
      have HVQ := Lib.hid hvQ
      have NS : Hid (vsL (eV (fun i => (D i).c * s)) (i + 1) = vsL (eV (fun i => (D i).c * s)) i ++ [.int .i64 en]) := by
        show _ = _
        rw [vsL_succ, hen]
        rfl
      clear hM M mb hen a1 a2 a3 a4 a5 s1 s2 hvQ
      generalize (D i).c = dc at *
      generalize (D i).a = da at *
      go_upto_region 7 with fail
      generalize wr.alloc (.cells #[.int .i64 dc, .int .i64 da] 31) = w5 at *
      clear d0 d1 hb hx
      generalize hQ : wr.heap.size = Q at *
      clear hQ
      clear wr
      have M0 := Lib.hid (M2.out.below (Below.refl _ w5).drew)
      have z0 : w5.drew.cell? ⟨Q, 0, none⟩ = _ := z0
      have lQ : Q < w5.drew.heap.size := lQ
      clear M2
      generalize hw0 : w5.drew = w0 at *
      have c3 := M0.out.c3
      have fL := M0.out.fL 3
      have lL := M0.out.lL
      have BX : Below w0.heap.size w0 (w0.alloc (.cells #[.int .i64 en] 2)) := bal (Below.refl _ _) _
      have C3A := Lib.hid (show (w0.alloc (.cells #[.int .i64 en] 2)).cell? ⟨L, 3, none⟩ = some v from (BX.cell (p := ⟨L, 3, none⟩) lL).trans c3)
      have SA : Hid ((w0.alloc (.cells #[.int .i64 en] 2)).cell? ⟨Q, 0, none⟩ = some (.int .i64 dc) ∧ (w0.alloc (.cells #[.int .i64 en] 2)).frozen? ⟨L, 3, none⟩ = false ∧ L < (w0.alloc (.cells #[.int .i64 en] 2)).heap.size) := ⟨(BX.cell (p := ⟨Q, 0, none⟩) lQ).trans z0, (BX.frozen (p := ⟨L, 3, none⟩) lL).trans fL, Nat.lt_of_lt_of_le lL BX.size⟩
      have HOW : Hid ((w0.alloc (.cells #[.int .i64 en] 2)).ownsRow (L + 1) 2 1 v i (vsL (eV (fun i => (D i).c * s)) i)) := own_chg M0.out.own (Chg.of_below BX (fun _ => False)) (fun _ _ x => x)
      have HNW : Hid (∀ j u, [Value.int .i64 en][j]? = some u → (w0.alloc (.cells #[.int .i64 en] 2)).cell? (Addr.add ⟨w0.heap.size, 0, none⟩ j) = some u) := fun j u hu => by
        rw [add_plain, Nat.zero_add, new_c]
        simpa using hu
      have HON : Hid (∀ u, u ∈ [Value.int .i64 en] → u.oneCell' = true) := fun u hu => by
        rw [List.mem_singleton] at hu; subst hu; rfl
      have HMA : Hid (∀ w9 v', (w0.alloc (.cells #[.int .i64 en] 2)).grownBy w9 v.ownBlock → w9.ownsRow (L + 1) 2 1 v' (i + 1) (vsL (eV (fun i => (D i).c * s)) i ++ [.int .i64 en]) → Mk w (w9.setCell ⟨L, 3, none⟩ v') L (some ⟨ab, ao, none⟩) n c2 D B2 m cb2 K s v' (i + 1)) := fun w9 v' hg ho => by
        rw [← NS.out] at ho
        exact (M0.out.below BX).app hg ho
      have KG : Hid (∀ w9, (w0.alloc (.cells #[.int .i64 en] 2)).grownBy w9 v.ownBlock → w9.cell? ⟨Q, 0, none⟩ = some (.int .i64 dc) ∧ w9.frozen? ⟨L, 3, none⟩ = false ∧ L < w9.heap.size) := fun w9 hg => by
        have hQ' : Q < (w0.alloc (.cells #[.int .i64 en] 2)).heap.size := Nat.lt_of_lt_of_le lQ BX.size
        have hL' : L < (w0.alloc (.cells #[.int .i64 en] 2)).heap.size := Nat.lt_of_lt_of_le lL BX.size
        have eQ := hg.block Q hQ' (fun h => by have := (HVQ.out Q h.symm).2; omega)
        have eL := hg.block L hL' (fun h => by have := (HVQ.out L h.symm).1; omega)
        exact ⟨(blk_cell eQ 0).trans ((BX.cell (p := ⟨Q, 0, none⟩) lQ).trans z0), (blk_frz eL 3).trans ((BX.frozen (p := ⟨L, 3, none⟩) lL).trans fL), Nat.lt_of_lt_of_le hL' hg.size⟩
      have KV : Hid (∀ w9, (w0.alloc (.cells #[.int .i64 en] 2)).grownBy w9 v.ownBlock → w9.cell? ⟨L, 3, none⟩ = some v) := fun w9 hg => by
        have hL' : L < (w0.alloc (.cells #[.int .i64 en] 2)).heap.size := Nat.lt_of_lt_of_le lL BX.size
        have eL := hg.block L hL' (fun h => by have := (HVQ.out L h.symm).1; omega)
        exact (blk_cell eL 3).trans C3A.out
      have KS : Hid (∀ (w9 : World) (u : Value), (w9.cell? ⟨Q, 0, none⟩ = some (.int .i64 dc) ∧ w9.frozen? ⟨L, 3, none⟩ = false ∧ L < w9.heap.size) → (w9.setCell ⟨L, 3, none⟩ u).cell? ⟨Q, 0, none⟩ = some (.int .i64 dc) ∧ (w9.setCell ⟨L, 3, none⟩ u).frozen? ⟨L, 3, none⟩ = false ∧ L < (w9.setCell ⟨L, 3, none⟩ u).heap.size) := fun w9 u h =>
        ⟨(World.cell?_setCell_other w9 _ _ _ (fun e => by injection e with e2 _; omega)).trans h.1, (set_frz ..).trans h.2.1, by simp; exact h.2.2⟩
      have hc3 : i + 1 ≤ maxLen := by unfold maxLen; omega
      have hc4 : (i + 1) * 8 ≤ 140737488355328 := by omega
      have hc5 : L + 1 ≤ (w0.alloc (.cells #[.int .i64 en] 2)).heap.size := by have := BX.size; omega
      clear BX HVQ
      refine wp_region_noPanic ?_
      refine wp_region_held_drew (S := fun W => W.cell? ⟨Q, 0, none⟩ = some (.int .i64 dc) ∧ W.frozen? ⟨L, 3, none⟩ = false ∧ L < W.heap.size) (by kernel_rfl) (by rw [hw0]; exact ⟨z0, fL, lL⟩) (fun hHeld => ?_)
      rw [hw0] at hHeld ⊢
      refine wpAnyH_take (i := 0) (v := ?va0) (by simp only [List.getElem?_toArray, List.getElem?_cons_zero]; rfl) (by kernel_rfl) (by kernel_rfl) (by kernel_rfl) (fun _ _ _ h => h) (Or.inl ⟨by rfl, ?ya0⟩) hHeld ?_
      case ya0 => (intro w hSw; go_simp <;> with_reducible rfl)
      simp only [Act.put, List.setIfInBounds_toArray, List.set_cons_zero, List.set_cons_succ]
      refine wpAnyH_take (i := 1) (v := ?va1) (by simp only [List.getElem?_toArray, List.getElem?_cons_succ, List.getElem?_cons_zero]; rfl) (by kernel_rfl) (by kernel_rfl) (by kernel_rfl) (fun _ _ _ h => h) (Or.inl ⟨by rfl, ?ya1⟩) hHeld ?_
      case ya1 => (intro w hSw; go_simp <;> with_reducible rfl)
      simp only [Act.put, List.setIfInBounds_toArray, List.set_cons_zero, List.set_cons_succ]
      refine wpAnyH_take (i := 2) (v := ?va2) (by simp only [List.getElem?_toArray, List.getElem?_cons_succ, List.getElem?_cons_zero]; rfl) (by kernel_rfl) (by kernel_rfl) (by kernel_rfl) (fun _ _ _ h => h) (Or.inl ⟨by rfl, ?ya2⟩) hHeld ?_
      case ya2 => (intro w hSw; go_simp <;> with_reducible rfl)
      simp only [Act.put, List.setIfInBounds_toArray, List.set_cons_zero, List.set_cons_succ]
      refine wpAnyH_take (i := 3) (v := ?va3) (by simp only [List.getElem?_toArray, List.getElem?_cons_succ, List.getElem?_cons_zero]; rfl) (by kernel_rfl) (by kernel_rfl) (by kernel_rfl) (fun _ _ _ h => h) (Or.inl ⟨by rfl, ?ya3⟩) hHeld ?_
      case ya3 => (intro w hSw; go_simp <;> with_reducible rfl)
      simp only [Act.put, List.setIfInBounds_toArray, List.set_cons_zero, List.set_cons_succ]
      refine wpAnyH_take (i := 5) (v := ?va5) (by simp only [List.getElem?_toArray, List.getElem?_cons_succ, List.getElem?_cons_zero]; rfl) (by kernel_rfl) (by kernel_rfl) (by kernel_rfl) (fun _ _ _ h => h) (Or.inl ⟨by rfl, ?ya5⟩) hHeld ?_
      case ya5 => (intro w hSw; go_simp <;> with_reducible rfl)
      simp only [Act.put, List.setIfInBounds_toArray, List.set_cons_zero, List.set_cons_succ]
      refine wpAnyH_take (i := 6) (v := ?va6) (by simp only [List.getElem?_toArray, List.getElem?_cons_succ, List.getElem?_cons_zero]; rfl) (by kernel_rfl) (by kernel_rfl) (by kernel_rfl) (fun _ _ _ h => h) (Or.inl ⟨by rfl, ?ya6⟩) hHeld ?_
      case ya6 => (intro w hSw; go_simp <;> with_reducible rfl)
      simp only [Act.put, List.setIfInBounds_toArray, List.set_cons_zero, List.set_cons_succ]
      refine wpAnyH_take (i := 7) (v := ?va7) (by simp only [List.getElem?_toArray, List.getElem?_cons_succ, List.getElem?_cons_zero]; rfl) (by kernel_rfl) (by kernel_rfl) (by kernel_rfl) (fun _ _ _ h => h) (Or.inl ⟨by rfl, ?ya7⟩) hHeld ?_
      case ya7 => (intro w hSw; go_simp <;> with_reducible rfl)
      simp only [Act.put, List.setIfInBounds_toArray, List.set_cons_zero, List.set_cons_succ]
      refine wpAnyH_take (i := 8) (v := ?va8) (by simp only [List.getElem?_toArray, List.getElem?_cons_succ, List.getElem?_cons_zero]; rfl) (by kernel_rfl) (by kernel_rfl) (by kernel_rfl) (fun _ _ _ h => h) (Or.inl ⟨by rfl, ?ya8⟩) hHeld ?_
      case ya8 => (intro w hSw; go_simp <;> with_reducible rfl)
      simp only [Act.put, List.setIfInBounds_toArray, List.set_cons_zero, List.set_cons_succ]
      clear W1 W1w
      refine wpAnyH_ready (rs := [4, 9]) (by kernel_rfl) (by simp) ?_
      refine AllReadyH.cons (by simp only [List.getElem?_toArray, List.getElem?_cons_succ, List.getElem?_cons_zero]; rfl) (fun K hK => ?_) ?_
      · go_simp
        refine hK.out _ _ ?_ (fun hHeld => ?_)
        · exact ⟨z0, fL, lL⟩
        clear hK K hHeld
        refine wpAnyH_ready (rs := [9]) (by kernel_rfl) (by simp) ?_
        refine AllReadyH.cons (by simp only [List.getElem?_toArray, List.getElem?_cons_succ, List.getElem?_cons_zero]; rfl) (fun K hK => ?_) ?_
        rotate_left
        · exact AllReadyH.nil
        go_simp
        refine hK.out _ _ ?_ (fun hHeld => ?_)
        · exact SA.out
        clear hK K hHeld
        refine wpAnyH_ready (rs := [10]) (by kernel_rfl) (by simp) ?_
        refine AllReadyH.cons (by simp only [List.getElem?_toArray, List.getElem?_cons_succ, List.getElem?_cons_zero]; rfl) (fun K hK => ?_) ?_
        rotate_left
        · exact AllReadyH.nil
        refine step_append_lies _ (by rfl) _ _ _ (by rfl) (L + 1) 2 i0 _ 1 8 Try.underlying24 HI.out.1 HI.out.2.1 HI.out.2.2.1 HI.out.2.2.2 rfl (by decide) v i (vsL (eV (fun i => (D i).c * s)) i) (by rfl) HOW.out ⟨w0.heap.size, 0, none⟩ 1 1 [.int .i64 en] (by rfl) rfl HNW.out HON.out (by omega) hc3 hc4 hc5 (w0.heap.size + 1) (by simp) ?_
        intro gg cap w9 hown hgrow hat hlt9
        refine hK.out _ _ ?_ (fun hHeld => ?_)
        · exact KG.out _ hgrow
        clear hK K
        refine wpAnyH_take (i := 11) (v := ?va11) (by simp only [List.getElem?_toArray, List.getElem?_cons_succ, List.getElem?_cons_zero]; rfl) (by kernel_rfl) (by kernel_rfl) (by kernel_rfl) (fun _ _ _ h => h) (Or.inl ⟨by rfl, ?ya11⟩) hHeld ?_
        case ya11 => (intro w hSw; go_simp <;> with_reducible rfl)
        simp only [Act.put, List.setIfInBounds_toArray, List.set_cons_zero, List.set_cons_succ]
        refine wpAnyH_take (i := 12) (v := ?va12) (by simp only [List.getElem?_toArray, List.getElem?_cons_succ, List.getElem?_cons_zero]; rfl) (by kernel_rfl) (by kernel_rfl) (by kernel_rfl) (fun _ _ _ h => h) (Or.inl ⟨by rfl, ?ya12⟩) hHeld ?_
        case ya12 => (intro w hSw; go_simp <;> with_reducible rfl)
        simp only [Act.put, List.setIfInBounds_toArray, List.set_cons_zero, List.set_cons_succ]
        obtain ⟨y0, y1, y2⟩ := hHeld
        refine wpAnyH_ready (rs := [13]) (by kernel_rfl) (by simp) ?_
        refine AllReadyH.cons (by simp only [List.getElem?_toArray, List.getElem?_cons_succ, List.getElem?_cons_zero]; rfl) (fun K hK => ?_) ?_
        rotate_left
        · exact AllReadyH.nil
        have NM := Lib.hid (HMA.out w9 _ hgrow hown)
        have y3 := KV.out w9 hgrow
        have KS9 := Lib.hid (KS.out w9 (.slice (some ⟨gg, 0, none⟩) (i + 1) cap) (KG.out _ hgrow))
        clear hown hgrow hat hlt9
        go_simp
        refine hK.out _ _ ?_ (fun hHeld => ?_)
        · exact KS9.out
        clear hK K hHeld
        refine wpAnyH_done (by kernel_rfl) ?_ _
        refine NoPanic.normal ?_
        clear y0 y1 y2 y3 KG HMA HOW HNW HON
        go_wp2
        go_roundw
        case rel => exact ⟨i + 1, _, by go_num, by omega, NM.out⟩
        case measure => simp [intOf]; omega
      refine AllReadyH.cons (by simp only [List.getElem?_toArray, List.getElem?_cons_succ, List.getElem?_cons_zero]; rfl) (fun K hK => ?_) ?_
      rotate_left
      · exact AllReadyH.nil
      go_simp
      refine hK.out _ _ ?_ (fun hHeld => ?_)
      · exact SA.out
      clear hK K hHeld
      refine wpAnyH_ready (rs := [4]) (by kernel_rfl) (by simp) ?_
      refine AllReadyH.cons (by simp only [List.getElem?_toArray, List.getElem?_cons_succ, List.getElem?_cons_zero]; rfl) (fun K hK => ?_) ?_
      rotate_left
      · exact AllReadyH.nil
      have c3a := C3A.out
      go_simp
      refine hK.out _ _ ?_ (fun hHeld => ?_)
      · exact SA.out
      clear hK K hHeld c3a
      refine wpAnyH_ready (rs := [10]) (by kernel_rfl) (by simp) ?_
      refine AllReadyH.cons (by simp only [List.getElem?_toArray, List.getElem?_cons_succ, List.getElem?_cons_zero]; rfl) (fun K hK => ?_) ?_
      rotate_left
      · exact AllReadyH.nil
      refine step_append_lies _ (by rfl) _ _ _ (by rfl) (L + 1) 2 i0 _ 1 8 Try.underlying24 HI.out.1 HI.out.2.1 HI.out.2.2.1 HI.out.2.2.2 rfl (by decide) v i (vsL (eV (fun i => (D i).c * s)) i) (by rfl) HOW.out ⟨w0.heap.size, 0, none⟩ 1 1 [.int .i64 en] (by rfl) rfl HNW.out HON.out (by omega) hc3 hc4 hc5 (w0.heap.size + 1) (by simp) ?_
      intro gg cap w9 hown hgrow hat hlt9
      refine hK.out _ _ ?_ (fun hHeld => ?_)
      · exact KG.out _ hgrow
      clear hK K
      refine wpAnyH_take (i := 11) (v := ?vb11) (by simp only [List.getElem?_toArray, List.getElem?_cons_succ, List.getElem?_cons_zero]; rfl) (by kernel_rfl) (by kernel_rfl) (by kernel_rfl) (fun _ _ _ h => h) (Or.inl ⟨by rfl, ?yb11⟩) hHeld ?_
      case yb11 => (intro w hSw; go_simp <;> with_reducible rfl)
      simp only [Act.put, List.setIfInBounds_toArray, List.set_cons_zero, List.set_cons_succ]
      refine wpAnyH_take (i := 12) (v := ?vb12) (by simp only [List.getElem?_toArray, List.getElem?_cons_succ, List.getElem?_cons_zero]; rfl) (by kernel_rfl) (by kernel_rfl) (by kernel_rfl) (fun _ _ _ h => h) (Or.inl ⟨by rfl, ?yb12⟩) hHeld ?_
      case yb12 => (intro w hSw; go_simp <;> with_reducible rfl)
      simp only [Act.put, List.setIfInBounds_toArray, List.set_cons_zero, List.set_cons_succ]
      obtain ⟨y0, y1, y2⟩ := hHeld
      refine wpAnyH_ready (rs := [13]) (by kernel_rfl) (by simp) ?_
      refine AllReadyH.cons (by simp only [List.getElem?_toArray, List.getElem?_cons_succ, List.getElem?_cons_zero]; rfl) (fun K hK => ?_) ?_
      rotate_left
      · exact AllReadyH.nil
      have NM := Lib.hid (HMA.out w9 _ hgrow hown)
      have y3 := KV.out w9 hgrow
      have KS9 := Lib.hid (KS.out w9 (.slice (some ⟨gg, 0, none⟩) (i + 1) cap) (KG.out _ hgrow))
      clear hown hgrow hat hlt9
      go_simp
      refine hK.out _ _ ?_ (fun hHeld => ?_)
      · exact KS9.out
      clear hK K hHeld
      refine wpAnyH_done (by kernel_rfl) ?_ _
      refine NoPanic.normal ?_
      clear y0 y1 y2 y3 KG HMA HOW HNW HON
      go_wp2
      go_roundw
      case rel => exact ⟨i + 1, _, by go_num, by omega, NM.out⟩
      case measure => simp [intOf]; omega
    · obtain rfl : i = n := by omega
      have hq : ¬ (i : Int) < (i : Int) := by omega
      have F := Lib.hid (mk_done hM n1 n2 m1)
      clear hM M
      go_wp2
      go_ret2
      exact F.out
end Go.Proofs.Ytidegjinfacjjaa
