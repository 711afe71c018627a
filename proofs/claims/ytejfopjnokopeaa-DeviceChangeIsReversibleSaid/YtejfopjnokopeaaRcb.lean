/- The reference's Change, whatever its arguments. -/
import Derived.Test.YtejfopjnokopeaaRca
import Derived.Test.YtejfopjnokopeaaTkc
namespace Go.Proofs.Ytejfopjnokopeaa
open Go.ChangeShapes Go.WideShapes Go.ChangeAt Go.RowKit Go.Deep Go.Joins

set_option maxRecDepth 20000 in
set_option maxHeartbeats 16000000 in
theorem rchg_no1 (d : PD) (f t : Int) (w : World) (h : (isS f && isS t) = false) : Calls Try.prog 22 #[.agg d.cells, .int .i64 f, .int .i64 t] w (ChQ w ([], [], 1)) := by
  have B1 := Lib.hid (chq_no (bal (Below.refl w.heap.size w) (.cells d.cells 33)))
  have hh : f < 0 ∨ 4 < f ∨ t < 0 ∨ 4 < t := by
    rcases Int.lt_or_le f 0 with h1 | h1
    · exact .inl h1
    rcases Int.lt_or_le 4 f with h2 | h2
    · exact .inr (.inl h2)
    rcases Int.lt_or_le t 0 with h3 | h3
    · exact .inr (.inr (.inl h3))
    rcases Int.lt_or_le 4 t with h4 | h4
    · exact .inr (.inr (.inr h4))
    unfold isS at h
    rw [decide_eq_true h1, decide_eq_true h2, decide_eq_true h3, decide_eq_true h4] at h
    cases h
  clear h
  unfold PD.cells at B1 ⊢
  by_cases h1 : f < 0
  · clear hh
    go_enter Try.func22, Try.ntmps22
    go_wp2_with fail
    refine bodyPost_ret (results_tmp3 rfl _ _ _) rfl ?_
    exact B1.out
  by_cases h2 : 4 < f
  · clear hh
    go_enter Try.func22, Try.ntmps22
    go_wp2_with fail
    refine bodyPost_ret (results_tmp3 rfl _ _ _) rfl ?_
    exact B1.out
  by_cases h3 : t < 0
  · clear hh
    go_enter Try.func22, Try.ntmps22
    go_wp2_with fail
    refine bodyPost_ret (results_tmp3 rfl _ _ _) rfl ?_
    exact B1.out
  have h4 : 4 < t := by omega
  clear hh
  go_enter Try.func22, Try.ntmps22
  go_wp2_with fail
  refine bodyPost_ret (results_tmp3 rfl _ _ _) rfl ?_
  exact B1.out
set_option maxRecDepth 20000 in
set_option maxHeartbeats 16000000 in
theorem rchg_in (d : PD) (f t : Nat) (Af At : Option Addr) (lf lt : List Int) (cf ct : Nat) (w : World) (hf : f ≤ 4) (ht : t ≤ 4) (nf : Rned d f Af lf cf) (nt : Rned d t At lt ct) (hlf : Il w Af lf) (hlt : Il w At lt)
    (n1 : lf.length ≤ 1000) (n2 : lt.length ≤ 1000) (r : List Int × List Int × Int) (hr1 : (ascL lf && ascL lt) = false → r = ([], [], 1)) (hr2 : (ascL lf && ascL lt) = true → r = (misL lt lf lt.length, (misL lf lt lf.length).reverse, 0)) :
    Calls Try.prog 22 #[.agg d.cells, .int .i64 f, .int .i64 t] w (ChQ w r) := by
  have b1 : Below w.heap.size w (w.alloc (.cells d.cells 33)) := bal (Below.refl _ _) _
  have C1 := Lib.hid (c13_new w d)
  have B1 := Lib.hid b1
  have HF := Lib.hid (hlf.below b1)
  have HT := Lib.hid (hlt.below b1)
  have NF := Lib.hid nf
  have NT := Lib.hid nt
  have R1 := Lib.hid hr1
  have R2 := Lib.hid hr2
  have f1 : ¬ (f : Int) < 0 := by omega
  have f2 : ¬ 4 < (f : Int) := by omega
  have t1 : ¬ (t : Int) < 0 := by omega
  have t2 : ¬ 4 < (t : Int) := by omega
  have AF := Lib.hid (fun W (h : Il W Af lf) => rasc_any Af cf lf W h)
  have AT := Lib.hid (fun W (h : Il W At lt) => rasc_any At ct lt W h)
  obtain ⟨i0, hi0, hzz⟩ := Option.map_eq_some_iff.1 info3
  simp only [Prod.mk.injEq] at hzz
  obtain ⟨hz0, hs0, hb0⟩ := hzz
  have HI := Lib.hid (And.intro hi0 (And.intro hz0 (And.intro hs0 hb0)))
  clear b1 hlf hlt nf nt hr1 hr2 hi0 hz0 hs0 hb0
  go_enter Try.func22, Try.ntmps22
  go_upto_region 1 with fail
  have hw1 : w.heap.size < (w.alloc (.cells d.cells 33)).heap.size := by simp
  generalize w.alloc (.cells d.cells 33) = w1 at *
  generalize hZ : w.heap.size = Z at C1 ⊢
  have HZ := Lib.hid hZ
  have KC := Lib.hid (fun W (hb : Below w1.heap.size w1 W) => C1.out.below hb)
  clear hZ
  go_upto_region 3 with fail
  refine wp_region_noPanic ?_
  refine wp_region_held_drew (S := fun W => C13 W Z d) (by kernel_rfl) (KC.out _ (Below.refl _ w1).drew) (fun hHeld => ?_)
  refine wpAnyH_take (i := 0) (v := ?va0) (by simp only [List.getElem?_toArray, List.getElem?_cons_zero]; rfl) (by kernel_rfl) (by kernel_rfl) (by kernel_rfl) (fun _ _ _ h => h) (Or.inl ⟨by rfl, ?ya0⟩) hHeld ?_
  case ya0 => (intro w hSw; obtain ⟨hl, y0, y1, y2, y3, y4, y5, y6, y7, y8, y9, y10, y11, y12⟩ := hSw; go_simp <;> with_reducible rfl)
  simp only [Act.put, List.setIfInBounds_toArray, List.set_cons_zero, List.set_cons_succ]
  refine wpAnyH_take (i := 1) (v := ?va1) (by simp only [List.getElem?_toArray, List.getElem?_cons_succ, List.getElem?_cons_zero]; rfl) (by kernel_rfl) (by kernel_rfl) (by kernel_rfl) (fun _ _ _ h => h) (Or.inl ⟨by rfl, ?ya1⟩) hHeld ?_
  case ya1 => (intro w hSw; go_simp <;> with_reducible rfl)
  simp only [Act.put, List.setIfInBounds_toArray, List.set_cons_zero, List.set_cons_succ]
  refine wpAnyH_take (i := 3) (v := ?va3) (by simp only [List.getElem?_toArray, List.getElem?_cons_succ, List.getElem?_cons_zero]; rfl) (by kernel_rfl) (by kernel_rfl) (by kernel_rfl) (fun _ _ _ h => h) (Or.inl ⟨by rfl, ?ya3⟩) hHeld ?_
  case ya3 => (intro w hSw; obtain ⟨hl, y0, y1, y2, y3, y4, y5, y6, y7, y8, y9, y10, y11, y12⟩ := hSw; go_simp <;> with_reducible rfl)
  simp only [Act.put, List.setIfInBounds_toArray, List.set_cons_zero, List.set_cons_succ]
  refine wpAnyH_take (i := 4) (v := ?va4) (by simp only [List.getElem?_toArray, List.getElem?_cons_succ, List.getElem?_cons_zero]; rfl) (by kernel_rfl) (by kernel_rfl) (by kernel_rfl) (fun _ _ _ h => h) (Or.inl ⟨by rfl, ?ya4⟩) hHeld ?_
  case ya4 => (intro w hSw; go_simp <;> with_reducible rfl)
  simp only [Act.put, List.setIfInBounds_toArray, List.set_cons_zero, List.set_cons_succ]
  refine wpAnyH_ready (rs := [2]) (by kernel_rfl) (by simp) ?_
  refine AllReadyH.cons (by simp only [List.getElem?_toArray, List.getElem?_cons_succ, List.getElem?_cons_zero]; rfl) (fun K hK => ?_) ?_
  rotate_left
  · exact AllReadyH.nil
  go_simp
  go_at_call 47
  refine (NF.out _).mono ?_
  rintro e w7 ⟨rfl, hb7⟩
  go_wp2_with fail
  refine hK.out _ _ ?_ (fun hHeld => ?_)
  · exact KC.out _ ((Below.refl _ w1).drew.trans (hb7.mono (Nat.le_refl _)))
  clear hK K
  have b7 : Below w1.heap.size w1 w7 := (Below.refl _ w1).drew.trans (hb7.mono (Nat.le_refl _))
  refine wpAnyH_ready (rs := [5]) (by kernel_rfl) (by simp) ?_
  refine AllReadyH.cons (by simp only [List.getElem?_toArray, List.getElem?_cons_succ, List.getElem?_cons_zero]; rfl) (fun K hK => ?_) ?_
  rotate_left
  · exact AllReadyH.nil
  go_simp
  go_at_call 47
  refine (NT.out _).mono ?_
  rintro e w8 ⟨rfl, hb8⟩
  go_wp2_with fail
  refine hK.out _ _ ?_ (fun hHeld => ?_)
  · exact KC.out _ (bel2 b7 hb8)
  clear hK K
  have b8 := bel2 b7 hb8
  refine wpAnyH_take (i := 6) (v := ?va6) (by simp only [List.getElem?_toArray, List.getElem?_cons_succ, List.getElem?_cons_zero]; rfl) (by kernel_rfl) (by kernel_rfl) (by kernel_rfl) (fun _ _ _ h => h) (Or.inl ⟨by rfl, ?ya6⟩) hHeld ?_
  case ya6 => (intro w hSw; go_simp <;> with_reducible rfl)
  simp only [Act.put, List.setIfInBounds_toArray, List.set_cons_zero, List.set_cons_succ]
  refine wpAnyH_take (i := 7) (v := ?va7) (by simp only [List.getElem?_toArray, List.getElem?_cons_succ, List.getElem?_cons_zero]; rfl) (by kernel_rfl) (by kernel_rfl) (by kernel_rfl) (fun _ _ _ h => h) (Or.inl ⟨by rfl, ?ya7⟩) hHeld ?_
  case ya7 => (intro w hSw; go_simp <;> with_reducible rfl)
  simp only [Act.put, List.setIfInBounds_toArray]
  refine wpAnyH_done (by kernel_rfl) ?_ _
  refine NoPanic.normal ?_
  have B8 := Lib.hid b8
  have LF := Lib.hid (HF.out.below b8)
  have LT := Lib.hid (HT.out.below b8)
  have PF := AF.out w8 LF.out
  clear hb7 hb8 b7 b8 hHeld KC HF HT NF NT
  generalize hp : ascL lf = p at *
  generalize hq : ascL lt = q at *
  have HPQ := Lib.hid (And.intro hp hq)
  clear hp hq
  go_wp2_with fail
  refine PF.mono ?_
  clear PF
  rintro e w3 ⟨rfl, hb3⟩
  have B3 := Lib.hid (bel2 B8.out hb3)
  have LF := Lib.hid (LF.out.below hb3)
  have LT := Lib.hid (LT.out.below hb3)
  clear hb3 B8
  cases p with
  | false =>
    have F := Lib.hid (chq_no (bel2 B1.out B3.out))
    have E := Lib.hid (R1.out rfl)
    clear B1 B3 R1 R2
    go_wp2_with fail
    refine bodyPost_ret (results_tmp3 rfl _ _ _) rfl ?_
    rw [E.out]
    exact F.out
  | true =>
    have PT := AT.out w3 LT.out
    go_wp2_with fail
    refine PT.mono ?_
    clear PT
    rintro e w4 ⟨rfl, hb4⟩
    have B4 := Lib.hid (bel2 B1.out (bel2 B3.out hb4))
    have LF := Lib.hid (LF.out.below hb4)
    have LT := Lib.hid (LT.out.below hb4)
    clear hb4 B3 B1 AF AT C1
    cases q with
    | false =>
      have F := Lib.hid (chq_no B4.out)
      have E := Lib.hid (R1.out rfl)
      clear B4 R1 R2
      go_wp2_with fail
      refine bodyPost_ret (results_tmp3 rfl _ _ _) rfl ?_
      rw [E.out]
      exact F.out
    | true =>
      have E := Lib.hid (R2.out rfl)
      clear R1 R2
      have n1' := n1
      have n2' := n2
      have ML := Lib.hid (misL_len lt lf)
      have STY : Hid (∀ k, hasL lf (lt.getD k 0) lf.length = true → misL lt lf (k + 1) = misL lt lf k) := fun k h => if_pos h
      have STN : Hid (∀ k, hasL lf (lt.getD k 0) lf.length = false → misL lt lf (k + 1) = misL lt lf k ++ [lt.getD k 0]) := fun k h => if_neg (by rw [h]; exact Bool.false_ne_true)
      go_wp2_with fail
      go_loopw [13, 11] (fun vi vs wr => ∃ (k : Nat) (vo : Value), vo = vs ∧ vi = .int .i64 k ∧ k ≤ lt.length ∧ Below w4.heap.size w4 wr ∧ wr.ownsRow w4.heap.size 3 1 vo (misL lt lf k).length ((misL lt lf k).map (.int .i64))) (fun i _ _ => lt.length - (intOf i).toNat)
      case atStart => exact ⟨0, _, rfl, rfl, Nat.zero_le _, Below.refl _ _, World.ownsRow_nil _ _ _ _⟩
      case round =>
        obtain ⟨k, vo, rfl, rfl, hk, hB, hO⟩ := hrel
        have HB := Lib.hid hB
        have HO := Lib.hid hO
        by_cases hlt : k < lt.length
        · obtain ⟨b, off, rfl, hb, c0⟩ := LT.out.at hlt
          have d0 := (hB.cell (p := ⟨b, off + k, none⟩) (by exact hb)).trans c0
          have hbr : b < wr.heap.size := by have := hB.size; omega
          have P := has_any Af cf lf (lt.getD k 0) wr (LF.out.below hB)
          have Yk := Lib.hid (STY.out k)
          have Nk := Lib.hid (STN.out k)
          have Mk := ML.out k
          have hkl : (k : Int) < (lt.length : Int) := by omega
          generalize lt.getD k 0 = x at *
          generalize hasL lf x lf.length = R at *
          clear c0 hB hO
          cases R with
          | true =>
            have E1 := Lib.hid (Yk.out rfl)
            clear Yk Nk
            go_wp2_with fail
            refine P.mono ?_
            clear P
            rintro e w2 ⟨rfl, hb2⟩
            have HO2 := Lib.hid (own_keep HO.out (w' := w2) (fun j hj => hb2.block j (HO.out.lt j hj).2))
            have HB2 := Lib.hid (bel2 HB.out hb2)
            clear hb2
            go_wp2_with fail
            go_roundw
            case rel => exact ⟨k + 1, _, rfl, by go_num, by omega, HB2.out, by rw [E1.out]; exact HO2.out⟩
            case measure => (simp [intOf]) <;> omega
          | false =>
            have E1 := Lib.hid (Nk.out rfl)
            clear Yk Nk
            go_wp2_with fail
            refine P.mono ?_
            clear P
            rintro e w2 ⟨rfl, hb2⟩
            have HO2 := own_keep HO.out (w' := w2) (fun j hj => hb2.block j (HO.out.lt j hj).2)
            have HB2 := bel2 HB.out hb2
            have b3 : Below w2.heap.size w2 (w2.alloc (.cells #[.int .i64 x] 3)) := bal (Below.refl _ _) _
            have own3 := own_keep HO2 (w' := w2.alloc (.cells #[.int .i64 x] 3)) (fun j hj => b3.block j (HO2.lt j hj).2)
            have hs3 : w4.heap.size ≤ (w2.alloc (.cells #[.int .i64 x] 3)).heap.size := by have := HB2.size; have := b3.size; omega
            have HB3 := Lib.hid (bel2 HB2 b3)
            have d2 := (hb2.cell (p := ⟨b, off + k, none⟩) (by exact hbr)).trans d0
            have hb2r : b < w2.heap.size := by have := hb2.size; omega
            have NW : Hid (∀ (j : Nat) (u : Value), [Value.int .i64 x][j]? = some u → (w2.alloc (.cells #[.int .i64 x] 3)).cell? (Addr.add ⟨w2.heap.size, 0, none⟩ j) = some u) := fun j u hu => by
              rw [add_plain, Nat.zero_add, new_c]
              simpa using hu
            generalize hml2 : misL lt lf k = L at *
            clear hml2 HO2 b3 hb2 d0
            go_wp2_with (at_builtin; refine wpList_append_own _ rfl (.tmp 56) (.tmp 61) 29 rfl w4.heap.size 3 i0 _ 1 8 Try.underlying29 HI.out.1 HI.out.2.1 HI.out.2.2.1 HI.out.2.2.2 rfl (by decide) vo L.length (L.map (.int .i64)) rfl own3 ⟨w2.heap.size, 0, none⟩ 1 1 [.int .i64 x] rfl rfl NW.out ?c1 ?c2 ?c3 ?c4 ?_)
            case c1 => intro u hu; rw [List.mem_singleton.1 hu]; rfl
            case c2 => unfold maxLen; omega
            case c3 => omega
            case c4 => exact hs3
            intro v' w5 hown hgr hiff
            have HB4 := Lib.hid (HB3.out.grown hgr (by have := HB3.out.size; omega) (fun j hj => (own3.lt j hj).1))
            have HO4 : Hid (w5.ownsRow w4.heap.size 3 1 v' (L ++ [x]).length ((L ++ [x]).map (.int .i64))) := by
              show World.ownsRow _ _ _ _ _ _ _
              rw [List.length_append, List.map_append]
              exact hown
            clear hown hgr hiff NW own3
            go_wp2_with fail
            go_roundw
            case rel => exact ⟨k + 1, _, rfl, by go_num, by omega, HB4.out, by rw [E1.out]; exact HO4.out⟩
            case measure => (simp [intOf]) <;> omega
        · have hkn : k = lt.length := by omega
          subst hkn
          have hkl : ¬ (lt.length : Int) < (lt.length : Int) := by omega
          obtain ⟨A1, c1, rfl, I1⟩ := own_il hO rfl
          have I1 := Lib.hid I1
          have B5 := Lib.hid (bel2 B4.out hB)
          have LF := Lib.hid (LF.out.below hB)
          have LT := Lib.hid (LT.out.below hB)
          clear hB hO HO HB ML STY STN B4
          have ML := Lib.hid (rmL_len lf lt)
          have STY : Hid (∀ k, hasL lt (lf.getD (lf.length - 1 - k) 0) lt.length = true → rmL lf lt (k + 1) = rmL lf lt k) := fun k h => if_pos h
          have STN : Hid (∀ k, hasL lt (lf.getD (lf.length - 1 - k) 0) lt.length = false → rmL lf lt (k + 1) = rmL lf lt k ++ [lf.getD (lf.length - 1 - k) 0]) := fun k h => if_neg (by rw [h]; exact Bool.false_ne_true)
          have FIN : Hid (∀ wz A2 c2, Below wr.heap.size wr wz → Il wz A2 (rmL lf lt lf.length) → ChQ w r (.returned (.tuple #[.slice A1 (misL lt lf lt.length).length c1, .slice A2 (rmL lf lt lf.length).length c2, .int .i64 0])) wz) := fun wz A2 c2 hb hi => by
            rw [E.out]
            refine ⟨A1, c1, A2, c2, ?_, I1.out.below hb, ?_, bel2 B5.out hb⟩
            · rw [rmL_all]
            · rw [rmL_all] at hi; exact hi
          generalize misL lt lf lt.length = la at *
          have e14 : IntKind.i64.wrap ((lf.length : Int) - 1) = (lf.length : Int) - 1 := IntWalk.i64_in _ (by omega)
          clear E B5
          generalize wr = w4' at *
          go_wp2_with fail
          go_loopw [14, 12] (fun vi vs wr => ∃ (k : Nat) (vo : Value), vo = vs ∧ vi = .int .i64 ((lf.length : Int) - 1 - k) ∧ k ≤ lf.length ∧ Below w4'.heap.size w4' wr ∧ wr.ownsRow w4'.heap.size 3 1 vo (rmL lf lt k).length ((rmL lf lt k).map (.int .i64))) (fun i _ _ => (intOf i + 1).toNat)
          case atStart => exact ⟨0, _, rfl, by simp, Nat.zero_le _, Below.refl _ _, World.ownsRow_nil _ _ _ _⟩
          case round =>
            obtain ⟨k, vo, rfl, rfl, hk, hB, hO⟩ := hrel
            have HB := Lib.hid hB
            have HO := Lib.hid hO
            clear e14
            by_cases hlt : k < lf.length
            · obtain ⟨j, hj⟩ : ∃ j, j = lf.length - 1 - k := ⟨_, rfl⟩
              have hji : (lf.length : Int) - 1 - (k : Int) = (j : Int) := by omega
              rw [hji]
              have hjlt : j < lf.length := by omega
              obtain ⟨b, off, rfl, hb, c0⟩ := LF.out.at hjlt
              have d0 := (hB.cell (p := ⟨b, off + j, none⟩) (by exact hb)).trans c0
              have hbr : b < wr.heap.size := by have := hB.size; omega
              have P := has_any At ct lt (lf.getD j 0) wr (LT.out.below hB)
              have Yk := Lib.hid (STY.out k)
              have Nk := Lib.hid (STN.out k)
              have Mk := ML.out k
              rw [← hj] at Yk Nk
              have NXT := Lib.hid (show (j : Int) - 1 = (lf.length : Int) - 1 - ((k + 1 : Nat) : Int) by omega)
              have hjl : (j : Int) < (lf.length : Int) := by omega
              have hj0 : (0 : Int) ≤ (j : Int) := by omega
              have e15 : IntKind.i64.wrap ((j : Int) - 1) = (j : Int) - 1 := IntWalk.i64_in _ (by omega)
              generalize lf.getD j 0 = x at *
              generalize hasL lt x lt.length = R at *
              have HJ := Lib.hid (And.intro hj hji)
              clear c0 hB hO hj hji
              cases R with
              | true =>
                have E1 := Lib.hid (Yk.out rfl)
                clear Yk Nk
                go_wp2_with fail
                refine P.mono ?_
                clear P
                rintro e w2 ⟨rfl, hb2⟩
                have HO2 := Lib.hid (own_keep HO.out (w' := w2) (fun j hj => hb2.block j (HO.out.lt j hj).2))
                have HB2 := Lib.hid (bel2 HB.out hb2)
                clear hb2
                go_wp2_with fail
                go_roundw
                case rel => exact ⟨k + 1, _, rfl, by rw [NXT.out], by omega, HB2.out, by rw [E1.out]; exact HO2.out⟩
                case measure => (simp [intOf]) <;> omega
              | false =>
                have E1 := Lib.hid (Nk.out rfl)
                clear Yk Nk
                go_wp2_with fail
                refine P.mono ?_
                clear P
                rintro e w2 ⟨rfl, hb2⟩
                have HO2 := own_keep HO.out (w' := w2) (fun j hj => hb2.block j (HO.out.lt j hj).2)
                have HB2 := bel2 HB.out hb2
                have b3 : Below w2.heap.size w2 (w2.alloc (.cells #[.int .i64 x] 3)) := bal (Below.refl _ _) _
                have own3 := own_keep HO2 (w' := w2.alloc (.cells #[.int .i64 x] 3)) (fun j hj => b3.block j (HO2.lt j hj).2)
                have hs3 : w4'.heap.size ≤ (w2.alloc (.cells #[.int .i64 x] 3)).heap.size := by have := HB2.size; have := b3.size; omega
                have HB3 := Lib.hid (bel2 HB2 b3)
                have d2 := (hb2.cell (p := ⟨b, off + j, none⟩) (by exact hbr)).trans d0
                have hb2r : b < w2.heap.size := by have := hb2.size; omega
                have NW : Hid (∀ (j : Nat) (u : Value), [Value.int .i64 x][j]? = some u → (w2.alloc (.cells #[.int .i64 x] 3)).cell? (Addr.add ⟨w2.heap.size, 0, none⟩ j) = some u) := fun j u hu => by
                  rw [add_plain, Nat.zero_add, new_c]
                  simpa using hu
                generalize hml2 : rmL lf lt k = L at *
                clear hml2 HO2 b3 hb2 d0
                go_wp2_with (at_builtin; refine wpList_append_own _ rfl (.tmp 77) (.tmp 82) 29 rfl w4'.heap.size 3 i0 _ 1 8 Try.underlying29 HI.out.1 HI.out.2.1 HI.out.2.2.1 HI.out.2.2.2 rfl (by decide) vo L.length (L.map (.int .i64)) rfl own3 ⟨w2.heap.size, 0, none⟩ 1 1 [.int .i64 x] rfl rfl NW.out ?c1 ?c2 ?c3 ?c4 ?_)
                case c1 => intro u hu; rw [List.mem_singleton.1 hu]; rfl
                case c2 => unfold maxLen; omega
                case c3 => omega
                case c4 => exact hs3
                intro v' w5 hown hgr hiff
                have HB4 := Lib.hid (HB3.out.grown hgr (by have := HB3.out.size; omega) (fun j hj => (own3.lt j hj).1))
                have HO4 : Hid (w5.ownsRow w4'.heap.size 3 1 v' (L ++ [x]).length ((L ++ [x]).map (.int .i64))) := by
                  show World.ownsRow _ _ _ _ _ _ _
                  rw [List.length_append, List.map_append]
                  exact hown
                clear hown hgr hiff NW own3
                go_wp2_with fail
                go_roundw
                case rel => exact ⟨k + 1, _, rfl, by rw [NXT.out], by omega, HB4.out, by rw [E1.out]; exact HO4.out⟩
                case measure => (simp [intOf]) <;> omega
            · have hkn : k = lf.length := by omega
              subst hkn
              have hji : (lf.length : Int) - 1 - (lf.length : Int) = -1 := by omega
              rw [hji]
              have hneg : ¬ (0 : Int) ≤ -1 := by decide
              have hneg2 : decide ((0 : Int) ≤ -1) = false := by decide
              obtain ⟨A2, c2, rfl, I2⟩ := own_il hO rfl
              have F := Lib.hid (FIN.out wr A2 c2 hB I2)
              clear hB hO HO HB I2 FIN
              generalize rmL lf lt lf.length = lr at *
              go_wp2_with fail
              refine bodyPost_ret (results_tmp3 rfl _ _ _) rfl ?_
              exact F.out
theorem rchg_any (d : PD) (l : Nat → List Int) (f t : Int) (w : World) (h : Rl w d l) (hn : ∀ k, k < 4 → (l k).length ≤ 1000) : Calls Try.prog 22 #[.agg d.cells, .int .i64 f, .int .i64 t] w (ChQ w (chgR l f t)) := by
  cases hft : (isS f && isS t) with
  | false =>
    have e : chgR l f t = ([], [], 1) := by unfold chgR; rw [hft]; rfl
    rw [e]
    exact rchg_no1 d f t w hft
  | true =>
    have bd : ∀ s, isS s = true → ∃ k : Nat, s = k ∧ k ≤ 4 := fun s hs => by
      unfold isS at hs
      rw [Bool.and_eq_true] at hs
      have h1 := of_decide_eq_true hs.1
      have h2 := of_decide_eq_true hs.2
      exact ⟨s.toNat, by omega, by omega⟩
    have E1 : (ascL (lst l f) && ascL (lst l t)) = false → chgR l f t = ([], [], 1) := fun ha => by unfold chgR; rw [hft, Bool.true_and, ha]; rfl
    have E2 : (ascL (lst l f) && ascL (lst l t)) = true → chgR l f t = (misL (lst l t) (lst l f) (lst l t).length, (misL (lst l f) (lst l t) (lst l f).length).reverse, 0) := fun ha => by unfold chgR; rw [hft, Bool.true_and, ha]; rfl
    rw [Bool.and_eq_true] at hft
    obtain ⟨f, rfl, hf4⟩ := bd f hft.1
    obtain ⟨t, rfl, ht4⟩ := bd t hft.2
    obtain ⟨Af, cf, nf, hlf⟩ := rned_of h f hf4
    obtain ⟨At, ct, nt, hlt⟩ := rned_of h t ht4
    have LN : ∀ s : Nat, s ≤ 4 → (lst l s).length ≤ 1000 := fun s hs => by
      unfold lst
      split
      · simp
      · exact hn s (by omega)
    exact rchg_in d f t Af At _ _ cf ct w hf4 ht4 nf nt hlf hlt (LN f hf4) (LN t ht4) _ E1 E2
end Go.Proofs.Ytejfopjnokopeaa
