/- BlockdevPowerLoss: the walk. -/
import Derived.Test.YtoafoikphpdimaaPlm
namespace Go.Proofs.Ytoafoikphpdimaa
open Go.ChangeShapes Go.WideShapes Go.ChangeAt Go.RowKit Go.Deep Go.Joins

set_option maxRecDepth 20000 in
set_option maxHeartbeats 16000000 in
theorem pls_rest (n : Int) (A : Option Addr) (m cc : Nat) (g : Nat → Cl) (A2 : Option Addr) (m2 cc2 : Nat) (g2 : Nat → Cl) (Ak : Option Addr) (qn kcc : Nat) (q : Nat → Bool) (w : World) (hg : Cs w A m g) (hg2 : Cs w A2 m2 g2) (hq : Bs w Ak qn kcc q) :
    Calls Try.prog 6 #[.int .i64 n, .slice A m cc, .slice A2 m2 cc2, .slice Ak qn kcc] w (LawP w) := by
  have AW := Lib.hid (fun W => awake_any W)
  by_cases hm : 40 < m
  · have hm2 : (40 : Int) < (m : Int) := by omega
    clear hg hg2 hq
    go_enter Try.func6, Try.ntmps6
    go_wp2_with (go_at_call 10; refine (AW.out _).mono ?_; rintro e w5 ⟨rfl, hb5⟩)
    go_ret
    exact ⟨rfl, hb5⟩
  by_cases hm2 : 40 < m2
  · have hm2 : (40 : Int) < (m2 : Int) := by omega
    clear hg hg2 hq
    go_enter Try.func6, Try.ntmps6
    go_wp2_with (go_at_call 10; refine (AW.out _).mono ?_; rintro e w5 ⟨rfl, hb5⟩)
    go_ret
    exact ⟨rfl, hb5⟩
  have hN := modOf_spec n 5 (by omega) (by omega)
  have M1 := mod_any n 5 (by omega) (by omega) w
  have NW := Lib.hid (fun k W => new_any k W)
  generalize modOf n 5 = N0 at *
  have HG := Lib.hid hg
  have HG2 := Lib.hid hg2
  have HQ := Lib.hid hq
  have HQL := Lib.hid hq.len
  have hN5 := hN.2
  clear hg hg2 hq hN
  go_enter Try.func6, Try.ntmps6
  go_upto_region 4 with (go_at_call 11; refine M1.mono ?_; rintro e w5 ⟨rfl, rfl⟩)
  clear M1
  obtain ⟨N, hNN⟩ : ∃ N : Nat, N = N0 + 1 := ⟨_, rfl⟩
  have j1 : (1 : Int) + (N0 : Int) = (N : Int) := by omega
  rw [j1]
  have hN6 : 1 ≤ N ∧ N ≤ 5 := by omega
  clear hN5 hNN j1
  go_wp2_with fail
  refine (NW.out _ _).mono ?_
  rintro e w1 (⟨N', L, X, hm', -, -, rfl, v, Ka, kc, D⟩ | ⟨h, -, -⟩)
  case inr => omega
  have hm3 : N' = N := by omega
  subst hm3
  clear hm' NW
  have D0 : Hid (D1 w w1 (fun _ => False) (pS N' L X (List.replicate N' zs) (wlN g N' 0))) := D1.of_dw D
  clear D
  go_wp2_with fail
  go_loopw [12] (fun vi wr => ∃ i : Nat, i ≤ m ∧ vi = .int .i64 i ∧ D1 w wr (fun _ => False) (pS N' L X (List.replicate N' zs) (wlN g N' i))) (fun i _ => m - (intOf i).toNat)
  case atStart => exact ⟨0, Nat.zero_le _, rfl, D0.out⟩
  case round =>
    clear D0
    obtain ⟨i, hi, rfl, D⟩ := hrel
    have D := Lib.hid D
    by_cases hlt : i < m
    · rcases HG.out.row with h0 | ⟨b, off, rfl, hb, hcl⟩
      · omega
      obtain ⟨-, u1, u2, -⟩ := hcl i hlt
      have ST := Lib.hid (pS_wr N' L X (List.replicate N' zs) g i (by omega))
      have hcn : (wlN g N' i).length ≤ 1000 := by rw [wlN_len]; omega
      clear hcl
      generalize (g i).s = x at *
      generalize (g i).d = y at *
      have KP : Hid (∀ W, Below w.heap.size w W → W.cell? ⟨b, off + i * 5 + 1, none⟩ = some (.int .i64 x) ∧ W.cell? ⟨b, off + i * 5 + 2, none⟩ = some (.int .i64 y)) := fun W hw => ⟨(hw.cell (by exact hb)).trans u1, (hw.cell (by exact hb)).trans u2⟩
      go_upto_region 10 with fail
      refine wp_region_noPanic ?_
      refine wp_region_held_drew (S := fun W => W.cell? ⟨b, off + i * 5 + 1, none⟩ = some (.int .i64 x) ∧ W.cell? ⟨b, off + i * 5 + 2, none⟩ = some (.int .i64 y)) (by kernel_rfl) (KP.out _ D.out.bel.drew) (fun hHeld => ?_)
      refine wpAnyH_take (i := 0) (v := ?v0) (by simp only [List.getElem?_toArray, List.getElem?_cons_zero]; rfl) (by kernel_rfl) (by kernel_rfl) (by kernel_rfl) (fun _ _ _ h => h) (Or.inl ⟨by rfl, ?y0⟩) hHeld ?_
      case y0 => (intro w hSw; go_simp <;> with_reducible rfl)
      simp only [Act.put, List.setIfInBounds_toArray, List.set_cons_zero, List.set_cons_succ]
      refine wpAnyH_take (i := 1) (v := ?v1) (by simp only [List.getElem?_toArray, List.getElem?_cons_succ, List.getElem?_cons_zero]; rfl) (by kernel_rfl) (by kernel_rfl) (by kernel_rfl) (fun _ _ _ h => h) (Or.inl ⟨by rfl, ?y1⟩) hHeld ?_
      case y1 => (intro w hSw; go_simp <;> with_reducible rfl)
      simp only [Act.put, List.setIfInBounds_toArray, List.set_cons_zero, List.set_cons_succ]
      refine wpAnyH_take (i := 2) (v := ?v2) (by simp only [List.getElem?_toArray, List.getElem?_cons_succ, List.getElem?_cons_zero]; rfl) (by kernel_rfl) (by kernel_rfl) (by kernel_rfl) (fun _ _ _ h => h) (Or.inl ⟨by rfl, ?y2⟩) hHeld ?_
      case y2 => (intro w hSw; go_simp <;> with_reducible rfl)
      simp only [Act.put, List.setIfInBounds_toArray, List.set_cons_zero, List.set_cons_succ]
      refine wpAnyH_take (i := 3) (v := ?v3) (by simp only [List.getElem?_toArray, List.getElem?_cons_succ, List.getElem?_cons_zero]; rfl) (by kernel_rfl) (by kernel_rfl) (by kernel_rfl) (fun _ _ _ h => h) (Or.inl ⟨by rfl, ?y3⟩) hHeld ?_
      case y3 => (intro w hSw; go_simp <;> with_reducible rfl)
      simp only [Act.put, List.setIfInBounds_toArray, List.set_cons_zero, List.set_cons_succ]
      refine wpAnyH_take (i := 4) (v := ?v4) (by simp only [List.getElem?_toArray, List.getElem?_cons_succ, List.getElem?_cons_zero]; rfl) (by kernel_rfl) (by kernel_rfl) (by kernel_rfl) (fun _ _ _ h => h) (Or.inl ⟨by rfl, ?y4⟩) hHeld ?_
      case y4 => (intro w hSw; go_simp <;> with_reducible rfl)
      simp only [Act.put, List.setIfInBounds_toArray, List.set_cons_zero, List.set_cons_succ]
      refine wpAnyH_take (i := 5) (v := ?v5) (by simp only [List.getElem?_toArray, List.getElem?_cons_succ, List.getElem?_cons_zero]; rfl) (by kernel_rfl) (by kernel_rfl) (by kernel_rfl) (fun _ _ _ h => h) (Or.inl ⟨by rfl, ?y5⟩) hHeld ?_
      case y5 => (intro w hSw; go_simp <;> with_reducible rfl)
      simp only [Act.put, List.setIfInBounds_toArray, List.set_cons_zero, List.set_cons_succ]
      refine wpAnyH_take (i := 6) (v := ?v6) (by simp only [List.getElem?_toArray, List.getElem?_cons_succ, List.getElem?_cons_zero]; rfl) (by kernel_rfl) (by kernel_rfl) (by kernel_rfl) (fun _ _ _ h => h) (Or.inl ⟨by rfl, ?y6⟩) hHeld ?_
      case y6 => (intro w hSw; go_simp <;> with_reducible rfl)
      simp only [Act.put, List.setIfInBounds_toArray, List.set_cons_zero, List.set_cons_succ]
      refine wpAnyH_take (i := 8) (v := ?v8) (by simp only [List.getElem?_toArray, List.getElem?_cons_succ, List.getElem?_cons_zero]; rfl) (by kernel_rfl) (by kernel_rfl) (by kernel_rfl) (fun _ _ _ h => h) (Or.inl ⟨by rfl, ?y8⟩) hHeld ?_
      case y8 => (intro w hSw; go_simp <;> with_reducible rfl)
      simp only [Act.put, List.setIfInBounds_toArray, List.set_cons_zero, List.set_cons_succ]
      refine wpAnyH_take (i := 9) (v := ?v9) (by simp only [List.getElem?_toArray, List.getElem?_cons_succ, List.getElem?_cons_zero]; rfl) (by kernel_rfl) (by kernel_rfl) (by kernel_rfl) (fun _ _ _ h => h) (Or.inl ⟨by rfl, ?y9⟩) hHeld ?_
      case y9 => (intro w hSw; go_simp <;> with_reducible rfl)
      simp only [Act.put, List.setIfInBounds_toArray, List.set_cons_zero, List.set_cons_succ]
      refine wpAnyH_take (i := 10) (v := ?v10) (by simp only [List.getElem?_toArray, List.getElem?_cons_succ, List.getElem?_cons_zero]; rfl) (by kernel_rfl) (by kernel_rfl) (by kernel_rfl) (fun _ _ _ h => h) (Or.inl ⟨by rfl, ?y10⟩) hHeld ?_
      case y10 => (intro w hSw; go_simp <;> with_reducible rfl)
      simp only [Act.put, List.setIfInBounds_toArray, List.set_cons_zero, List.set_cons_succ]
      refine wpAnyH_take (i := 11) (v := ?v11) (by simp only [List.getElem?_toArray, List.getElem?_cons_succ, List.getElem?_cons_zero]; rfl) (by kernel_rfl) (by kernel_rfl) (by kernel_rfl) (fun _ _ _ h => h) (Or.inl ⟨by rfl, ?y11⟩) hHeld ?_
      case y11 => (intro w hSw; go_simp <;> with_reducible rfl)
      simp only [Act.put, List.setIfInBounds_toArray, List.set_cons_zero, List.set_cons_succ]
      refine wpAnyH_take (i := 12) (v := ?v12) (by simp only [List.getElem?_toArray, List.getElem?_cons_succ, List.getElem?_cons_zero]; rfl) (by kernel_rfl) (by kernel_rfl) (by kernel_rfl) (fun _ _ _ h => h) (Or.inl ⟨by rfl, ?y12⟩) hHeld ?_
      case y12 => (intro w hSw; go_simp <;> with_reducible rfl)
      simp only [Act.put, List.setIfInBounds_toArray, List.set_cons_zero, List.set_cons_succ]
      refine wpAnyH_ready (rs := [7]) (by kernel_rfl) (by simp) ?_
      refine AllReadyH.cons (by simp only [List.getElem?_toArray, List.getElem?_cons_succ, List.getElem?_cons_zero]; rfl) (fun K hK => ?_) ?_
      rotate_left
      · exact AllReadyH.nil
      go_simp
      go_at_call 11
      refine (mod_any x N' (by omega) (by omega) _).mono ?_
      rintro e w9 ⟨rfl, rfl⟩
      go_wp2_with fail
      refine hK.out _ _ ?_ (fun hHeld => ?_)
      · exact KP.out _ D.out.bel.drew
      clear hK K
      refine wpAnyH_ready (rs := [13]) (by kernel_rfl) (by simp) ?_
      refine AllReadyH.cons (by simp only [List.getElem?_toArray, List.getElem?_cons_succ, List.getElem?_cons_zero]; rfl) (fun K hK => ?_) ?_
      rotate_left
      · exact AllReadyH.nil
      go_simp
      go_at_call 25
      refine (sec_any y _).mono ?_
      rintro e w9 ⟨rfl, hb9⟩
      go_wp2_with fail
      refine hK.out _ _ ?_ (fun hHeld => ?_)
      · exact KP.out _ (D.out.bel.drew.trans (hb9.mono D.out.bel.size))
      clear hK K
      have D9 := (D.out.below (Below.refl _ wr).drew).below hb9
      have P9 := D9.call (fun F v Ka kc h _ _ => write_any h (modOf x N' : Nat) (secS y) hcn)
      rw [ST.out] at P9
      clear D9
      refine wpAnyH_ready (rs := [14]) (by kernel_rfl) (by simp) ?_
      refine AllReadyH.cons (by simp only [List.getElem?_toArray, List.getElem?_cons_succ, List.getElem?_cons_zero]; rfl) (fun K hK => ?_) ?_
      rotate_left
      · exact AllReadyH.nil
      go_simp
      go_at_call 23
      refine P9.mono ?_
      clear P9
      rintro e w10 ⟨rfl, D10, -, -⟩
      go_wp2_with fail
      refine hK.out _ _ ?_ (fun hHeld => ?_)
      · exact KP.out _ D10.bel
      clear hK K
      refine wpAnyH_take (i := 15) (v := ?v15) (by simp only [List.getElem?_toArray, List.getElem?_cons_succ, List.getElem?_cons_zero]; rfl) (by kernel_rfl) (by kernel_rfl) (by kernel_rfl) (fun _ _ _ h => h) (Or.inl ⟨by rfl, ?y15⟩) hHeld ?_
      case y15 => (intro w hSw; go_simp <;> with_reducible rfl)
      simp only [Act.put, List.setIfInBounds_toArray]
      refine wpAnyH_done (by kernel_rfl) ?_ _
      refine NoPanic.normal ?_
      have D11 := Lib.hid D10
      clear D10 hHeld
      go_wp2_with fail
      go_roundw
      case rel => exact ⟨i + 1, by omega, by go_num, D11.out⟩
      case measure => simp [intOf]; omega
    · obtain rfl : m = i := by omega
      clear hlt hi
      have P := D.out.call (fun F v Ka kc h _ _ => flush_any h)
      obtain ⟨S1, hS1⟩ : ∃ S1, apk (List.replicate N' zs) (wlN g N' m) (fun _ => true) (wlN g N' m).length = S1 := ⟨_, rfl⟩
      rw [show flS (pS N' L X (List.replicate N' zs) (wlN g N' m)) = pS N' L X S1 [] by rw [← hS1]; rfl, show flR (pS N' L X (List.replicate N' zs) (wlN g N' m)) = 0 from rfl] at P
      have hL1 : S1.length = N' := by rw [← hS1, apk_set]; exact List.length_replicate
      have HL1 := Lib.hid hL1
      clear hS1 D hL1
      go_wp2_with fail
      refine P.mono ?_
      clear P
      rintro e w2 ⟨rfl, D2, -, -⟩
      obtain ⟨F2, v2, Ka2, kc2, h2⟩ := D2.dk
      have P := cont_any h2
      rw [show (pS N' L X S1 []).S = S1 from rfl] at P
      have D2 := Lib.hid D2
      clear h2
      go_wp2_with fail
      refine P.mono ?_
      clear P
      rintro e w3 ⟨G, cG, rfl, hr3, hb3⟩
      rw [HL1.out] at hr3
      rw [HL1.out]
      have hG3 := hr3.lt G rfl
      have D3 : Hid (D1 w w3 (fun b => b = G) (pS N' L X S1 [])) := D2.out.more hb3 (fun b e => .inr (by subst e; exact hG3))
      have hr3 := Lib.hid hr3
      obtain ⟨i0, hi0, hzz⟩ := Option.map_eq_some_iff.1 info9
      simp only [Prod.mk.injEq] at hzz
      obtain ⟨hz0, hs0, hb0⟩ := hzz
      have HI := Lib.hid (And.intro hi0 (And.intro hz0 (And.intro hs0 hb0)))
      clear hi0 hz0 hs0 hb0 D2
      have B2 : Below w3.heap.size w3 (w3.alloc (.cells #[] 9)) := (Below.refl _ w3).alloc (Nat.le_refl _) _
      have own : (w3.alloc (.cells #[] 9)).ownsRow w3.heap.size 9 1 (.slice (some ⟨w3.heap.size, 0, none⟩) 0 0) 0 [] :=
        ⟨rfl, .inr ⟨w3.heap.size, 0, #[], rfl, Nat.le_refl _, heap_alloc_new w3 _, Nat.le_refl _, by omega, rfl, rfl⟩⟩
      have NWS : Hid (∀ (j : Nat) (u : Value), (S1.map Value.string)[j]? = some u → (w3.alloc (.cells #[] 9)).cell? (Addr.add ⟨G, 0, none⟩ j) = some u) := fun j u hu => by
        have hj : j < S1.length := by
          have := (List.getElem?_eq_some_iff.1 hu).1
          simpa using this
        rw [add_plain, Nat.zero_add, B2.cell (by exact hG3.2), hr3.out.cellAt j (by rw [← HL1.out]; omega)]
        exact hu
      have ONE : Hid (∀ u ∈ S1.map Value.string, u.oneCell' = true) := fun u hu => by
        obtain ⟨i, _, rfl⟩ := List.mem_map.1 hu
        rfl
      have LN : (S1.map Value.string).length = N' * 1 := by simp [HL1.out]
      go_upto_region 17 with fail
      go_wp2_with (at_builtin; refine wpList_append_own _ rfl (.tmp 79) (.tmp 80) 40 rfl w3.heap.size 9 i0 _ 1 16 Try.underlying40 HI.out.1 HI.out.2.1 HI.out.2.2.1 HI.out.2.2.2 rfl (by decide) _ 0 [] rfl own ⟨G, 0, none⟩ N' cG (S1.map Value.string) rfl LN NWS.out ONE.out ?c3 ?c4 ?c5 ?_)
      case c3 => unfold maxLen; omega
      case c4 => omega
      case c5 => exact B2.size
      intro v' w4 hown hgr hiff
      have hown : w4.ownsRow w3.heap.size 9 1 v' N' (S1.map .string) := by simpa using hown
      have B3 : Below w3.heap.size w3 w4 := B2.grown hgr B2.size (fun k hk => by simp [Value.ownBlock] at hk; omega)
      obtain ⟨G2, cG2, rfl⟩ := own_form hown (by omega)
      have hG2 := hown.lt G2 rfl
      have hGG : G ≠ G2 := by omega
      have KO := Lib.hid (own_keep hr3.out (w' := w4) (fun j hj => by cases hj; exact B3.block _ hG3.2))
      have KL : Hid (w4.ownsRow w3.heap.size 9 1 (.slice (some ⟨G2, 0, none⟩) N' cG2) N' ((apk S1 (wlN g2 N' m2) (fun _ => true) 0).map .string)) := hown
      have D4 : Hid (D1 w w4 (fun b => b = G ∨ b = G2) (pS N' L X S1 (wlN g2 N' 0))) := D3.out.more B3 (fun b e => by
        rcases e with e | e
        · exact .inl e
        · exact .inr (by subst e; exact hG2))
      have hB0 : w.heap.size ≤ w3.heap.size := D3.out.bel.size
      clear hown hgr hiff B3 B2 NWS ONE LN own HI hG3 D3 hr3 hb3
      generalize w3.heap.size = B at *
      go_upto_region 19 with fail
      go_wp2_with fail
      go_loopw [17, 15, 16] (fun vi va vn wr => ∃ i : Nat, i ≤ m2 ∧ vi = .int .i64 i ∧ va = .bool (allB q qn i) ∧ vn = .bool (noneB q qn i) ∧ D1 w wr (fun b => b = G ∨ b = G2) (pS N' L X S1 (wlN g2 N' i)) ∧ wr.ownsRow w2.heap.size 9 1 (.slice (some ⟨G, 0, none⟩) N' cG) N' (S1.map .string) ∧ wr.ownsRow B 9 1 (.slice (some ⟨G2, 0, none⟩) N' cG2) N' ((apk S1 (wlN g2 N' m2) (fun _ => true) i).map .string)) (fun i _ _ _ => m2 - (intOf i).toNat)
      case atStart => exact ⟨0, Nat.zero_le _, rfl, rfl, rfl, D4.out, KO.out, KL.out⟩
      case round =>
        clear D4 KO KL
        obtain ⟨i, hi, rfl, rfl, rfl, D, KO, KL⟩ := hrel
        have D := Lib.hid D
        have KO := Lib.hid KO
        have KL := Lib.hid KL
        by_cases hlt : i < m2
        · rcases HG2.out.row with h0 | ⟨b, off, rfl, hb, hcl⟩
          · omega
          obtain ⟨-, u1, u2, -⟩ := hcl i hlt
          have ST := Lib.hid (pS_wr N' L X S1 g2 i (by omega))
          have LS := Lib.hid (last_step S1 g2 N' m2 i hlt)
          have LL : Hid ((apk S1 (wlN g2 N' m2) (fun _ => true) i).length = N') := by show _ = _; rw [apk_set, HL1.out]
          have hcn : (wlN g2 N' i).length ≤ 1000 := by rw [wlN_len]; omega
          have hat := (modOf_spec (g2 i).s N' (by omega) (by omega)).2
          have M3 := mod_any (g2 i).s N' (by omega) (by omega) wr
          have SEC := Lib.hid (fun W => sec_any (g2 i).d W)
          have AN : Hid (allB q qn (i + 1) = (allB q qn i && kq q qn i) ∧ noneB q qn (i + 1) = (noneB q qn i && !kq q qn i)) := ⟨rfl, rfl⟩
          clear hcl
          generalize modOf (g2 i).s N' = a at *
          generalize secS (g2 i).d = d at *
          generalize (g2 i).s = x at *
          generalize (g2 i).d = y at *
          generalize hAN : allB q qn (i + 1) = aN at *
          have HAN := Lib.hid hAN
          clear hAN
          generalize hNN : noneB q qn (i + 1) = nN at *
          have HNN := Lib.hid hNN
          clear hNN
          generalize allB q qn i = aI at *
          generalize noneB q qn i = nI at *
          have U1 : wr.cell? ⟨b, off + i * 5 + 1, none⟩ = some (.int .i64 x) := (D.out.bel.cell (by exact hb)).trans u1
          have U2 : wr.cell? ⟨b, off + i * 5 + 2, none⟩ = some (.int .i64 y) := (D.out.bel.cell (by exact hb)).trans u2
          have hbr : b < wr.heap.size := by have := D.out.bel.size; omega
          go_wp2_with (first
            | (go_at_call 11; refine M3.mono ?_; rintro e w5 ⟨rfl, rfl⟩)
            | (go_at_call 25; refine (SEC.out _).mono ?_; rintro e w5 ⟨rfl, hb5⟩))
          have P := (D.out.below hb5).call (fun F v Ka kc h _ _ => write_any h (a : Int) d hcn)
          rw [ST.out] at P
          have KO5 := own_keep KO.out (w' := w5) (fun k hk => by cases hk; exact hb5.block _ (KO.out.lt G rfl).2)
          have KL5 := own_keep KL.out (w' := w5) (fun k hk => by cases hk; exact hb5.block _ (KL.out.lt G2 rfl).2)
          clear U1 U2 M3
          refine P.mono ?_
          clear P
          rintro e w6 ⟨rfl, D6, hs6, hk6⟩
          have KO6 := Lib.hid (own_keep KO5 (w' := w6) (fun k hk => by cases hk; exact hk6 G (.inl rfl)))
          have KL6 := Lib.hid (own_keep KL5 (w' := w6) (fun k hk => by cases hk; exact hk6 G2 (.inr rfl)))
          have D6 := Lib.hid D6
          clear KO KL KO5 KL5 hb5 hk6 hs6 D hbr ST
          go_upto_region 25 with fail
          have U2 : w6.cell? ⟨b, off + i * 5 + 2, none⟩ = some (.int .i64 y) := (D6.out.bel.cell (by exact hb)).trans u2
          have hbr : b < w6.heap.size := by have := D6.out.bel.size; omega
          go_upto_region 26 with (go_at_call 25; refine (SEC.out _).mono ?_; rintro e w7 ⟨rfl, hb7⟩; have KL7 := own_keep KL6.out (w' := w7) (fun j hj => by cases hj; exact hb7.block _ (KL6.out.lt G2 rfl).2); have ca : w7.cell? ⟨G2, a, none⟩ = some (.string ((apk S1 (wlN g2 N' m2) (fun _ => true) i).getD a ByteArray.empty)) := (by rw [KL7.cellAt a (by omega), List.getElem?_map, List.getD_eq_getElem?_getD, List.getElem?_eq_getElem (by rw [LL.out]; exact hat)]; rfl); have fa := KL7.frozenAt a; have D7 := D6.out.below hb7; have KL8 := (KL7.stored a (.string d)).1; have KO7 := own_keep KO6.out (w' := w7) (fun j hj => by cases hj; exact hb7.block _ (KO6.out.lt G rfl).2); have KO8 := own_keep KO7 (w' := w7.setCell ⟨G2, a, none⟩ (.string d)) (fun j hj => by cases hj; exact heap_setCell_other w7 ⟨G2, a, none⟩ G (.string d) (fun e => hGG (by simpa using e))); have D8 := D7.setO (G := G2) (.inr rfl) (by omega) a (.string d); have KL8 := Lib.hid KL8; have KO8 := Lib.hid KO8; have D8 := Lib.hid D8; clear KL7 D7 hb7 KO7)
          clear ca fa U2 hbr KO6 KL6 D6
          generalize w7.setCell ⟨G2, a, none⟩ (.string d) = w8 at *
          go_cut [15] (fun v wx => v = .bool aN ∧ w8 = wx)
          case first =>
            cases aI with
            | false =>
              have e : aN = false := by rw [AN.out.1]; rfl
              clear AN
              subst e
              go_wp2
              go_meet
              exact ⟨rfl, rfl⟩
            | true =>
              by_cases hq : i < qn
              · rcases HQ.out.row with h0 | ⟨bk, ok, rfl, hbk, hck⟩
                · omega
                have ck := (D8.out.bel.cell (p := ⟨bk, ok + i, none⟩) (by exact hbk)).trans (hck i hq)
                have hb8 : bk < w8.heap.size := by have := D8.out.bel.size; omega
                have hql := HQL.out
                have e : aN = q i := by rw [AN.out.1]; simp [kq, hq]
                clear AN hck
                generalize q i = qi at *
                subst e
                have hqi : (i : Int) < (qn : Int) := by omega
                go_wp2
                go_meet
                exact ⟨rfl, rfl⟩
              · have e : aN = false := by rw [AN.out.1]; simp [kq, hq]
                clear AN
                subst e
                have hqi : ¬ (i : Int) < (qn : Int) := by omega
                go_wp2
                go_meet
                exact ⟨rfl, rfl⟩
          case rest =>
          obtain ⟨rfl, rfl⟩ := hcut
          have KL9 : Hid (w8.ownsRow B 9 1 (.slice (some ⟨G2, 0, none⟩) N' cG2) N' ((apk S1 (wlN g2 N' m2) (fun _ => true) (i + 1)).map .string)) := by
            show World.ownsRow _ _ _ _ _ _ _
            rw [LS.out, List.map_set]
            exact KL8.out
          clear KL8 LS LL SEC
          cases nI with
          | false =>
            have e : nN = false := by rw [AN.out.2]; rfl
            clear AN
            subst e
            go_wp2_with fail
            go_roundw
            case rel => exact ⟨i + 1, by omega, by go_num, by rw [HAN.out], by rw [HNN.out], D8.out, KO8.out, KL9.out⟩
            case measure => simp [intOf]; omega
          | true =>
            by_cases hq : i < qn
            · rcases HQ.out.row with h0 | ⟨bk, ok, rfl, hbk, hck⟩
              · omega
              have ck := (D8.out.bel.cell (p := ⟨bk, ok + i, none⟩) (by exact hbk)).trans (hck i hq)
              have hb8 : bk < w8.heap.size := by have := D8.out.bel.size; omega
              have hql := HQL.out
              have e : nN = !q i := by rw [AN.out.2]; simp [kq, hq]
              clear AN hck
              generalize q i = qi at *
              subst e
              have hqi : (i : Int) < (qn : Int) := by omega
              go_wp2_with fail
              go_roundw
              case rel => exact ⟨i + 1, by omega, by go_num, by rw [HAN.out], by rw [HNN.out, decide_eq_false (by omega)]; rfl, D8.out, KO8.out, KL9.out⟩
              case measure => simp [intOf]; omega
            · have e : nN = true := by rw [AN.out.2]; simp [kq, hq]
              clear AN
              subst e
              have hqi : ¬ (i : Int) < (qn : Int) := by omega
              go_wp2_with fail
              go_roundw
              case rel => exact ⟨i + 1, by omega, by go_num, by rw [HAN.out], by rw [HNN.out], D8.out, KO8.out, KL9.out⟩
              case measure => simp [intOf]; omega
        · obtain rfl : m2 = i := by omega
          clear hlt hi
          have P := D.out.call (fun F v Ka kc h hF _ => off_any h (HQ.out.below D.out.bel) (fun a e h0 => by
            have h1 := HQ.out.lt a e h0
            have h2 := hF _ h.FL
            have h3 := hF _ h.FX
            exact ⟨fun e => by rw [e] at h1; omega, fun e => by rw [e] at h1; omega⟩))
          rw [show offS (pS N' L X S1 (wlN g2 N' m2)) q qn = loS (pS N' L X S1 (wlN g2 N' m2)) q qn from rfl, show offR (pS N' L X S1 (wlN g2 N' m2)) = 0 from rfl] at P
          have hS2 : (loS (pS N' L X S1 (wlN g2 N' m2)) q qn).S = apk S1 (wlN g2 N' m2) (kq q qn) m2 := by
            show apk S1 (wlN g2 N' m2) (kq q qn) (wlN g2 N' m2).length = _
            rw [wlN_len]
          have EA : Hid (allB q qn m2 = true → apk S1 (wlN g2 N' m2) (kq q qn) m2 = apk S1 (wlN g2 N' m2) (fun _ => true) m2) := fun h => apk_all _ _ _ _ (allB_at h)
          have EN : Hid (noneB q qn m2 = true → apk S1 (wlN g2 N' m2) (kq q qn) m2 = S1) := fun h => apk_none _ _ _ _ (noneB_at h)
          have OKE := Lib.hid (fun j (hj : j < N') => okB_end S1 g2 N' m2 (kq q qn) j (by rw [HL1.out]; exact hj))
          have HL2 : Hid ((apk S1 (wlN g2 N' m2) (kq q qn) m2).length = N') := by show _ = _; rw [apk_set, HL1.out]
          have HLL : Hid ((apk S1 (wlN g2 N' m2) (fun _ => true) m2).length = N') := by show _ = _; rw [apk_set, HL1.out]
          generalize apk S1 (wlN g2 N' m2) (kq q qn) m2 = S2 at *
          generalize apk S1 (wlN g2 N' m2) (fun _ => true) m2 = SL at *
          obtain ⟨SO, hSO⟩ : ∃ SO, loS (pS N' L X S1 (wlN g2 N' m2)) q qn = SO := ⟨_, rfl⟩
          have f1 : onR SO = 0 := by rw [← hSO]; rfl
          have f2 : SO.L = L := by rw [← hSO]; rfl
          have f3 : (onS SO).L = L := by rw [← hSO]; rfl
          have f4 : (onS SO).S = S2 := by rw [← hS2, ← hSO]; rfl
          have RD : Hid (∀ j : Nat, j < N' → rdS (onS SO) j = (S2.getD j ByteArray.empty, 0)) := fun j hj => by
            rw [← hS2, ← hSO]
            unfold rdS
            rw [show hasB (onS (loS (pS N' L X S1 (wlN g2 N' m2)) q qn)) j = true by unfold hasB; rw [decide_eq_true (by omega), decide_eq_true (show (j : Int) < ((onS (loS (pS N' L X S1 (wlN g2 N' m2)) q qn)).n : Int) by show (j : Int) < ((N' : Nat) : Int); omega)]; rfl]
            rfl
          rw [hSO] at P
          have F1 := Lib.hid f1
          have F2 := Lib.hid f2
          have F3 := Lib.hid f3
          have F4 := Lib.hid f4
          have KOr := KO
          clear hSO hS2 f1 f2 f3 f4
          go_wp2_with fail
          refine P.mono ?_
          clear P
          rintro e w5 ⟨rfl, D5, hs5, hk5⟩
          have KO5 := own_keep KO.out (w' := w5) (fun k hk => by cases hk; exact hk5 G (.inl rfl))
          have KL5 := own_keep KL.out (w' := w5) (fun k hk => by cases hk; exact hk5 G2 (.inr rfl))
          have P := D5.call (fun F v Ka kc h _ _ => on_any h)
          rw [F1.out, F2.out] at P
          clear KO KL hk5 hs5 D
          go_wp2_with fail
          refine P.mono ?_
          clear P
          rintro e w6 ⟨rfl, D6, hs6, hk6⟩
          have KO6 := Lib.hid (own_keep KO5 (w' := w6) (fun k hk => by cases hk; exact hk6 G (.inl rfl)))
          have KL6 := Lib.hid (own_keep KL5 (w' := w6) (fun k hk => by cases hk; exact hk6 G2 (.inr rfl)))
          obtain ⟨F6, v6, Ka6, kc6, h6⟩ := D6.dk
          have P := cont_any h6
          rw [F3.out, F4.out] at P
          have D6 := Lib.hid D6
          clear h6 KO5 KL5 hk6 hs6 D5 KOr
          go_wp2_with fail
          refine P.mono ?_
          clear P
          rintro e w7 ⟨H, cH, rfl, hr7, hb7⟩
          rw [HL2.out] at hr7
          rw [HL2.out]
          have hH := hr7.lt H rfl
          have KO7 := own_keep KO6.out (w' := w7) (fun j hj => by cases hj; exact hb7.block _ (KO6.out.lt G rfl).2)
          have KL7 := own_keep KL6.out (w' := w7) (fun j hj => by cases hj; exact hb7.block _ (KL6.out.lt G2 rfl).2)
          have D7 : Hid (D1 w w7 (fun b => b = G ∨ b = H) (onS SO)) := D6.out.more hb7 (fun b e => by
            rcases e with e | e
            · exact .inl (.inl e)
            · exact .inr (by subst e; exact hH))
          obtain ⟨A9, c9, e9, T7⟩ := own_sl hr7 HL2.out
          injection e9 with e91 e92 e93
          subst e91 e93
          clear e92
          obtain ⟨A8, c8, e8, T8⟩ := own_sl KL7 HLL.out
          injection e8 with e81 e82 e83
          subst e81 e83
          clear e82
          obtain ⟨A8, c8, e8, T9⟩ := own_sl KO7 HL1.out
          injection e8 with e81 e82 e83
          subst e81 e83
          clear e82
          have PL : Hid (∀ W, Below w7.heap.size w7 W → Calls Try.prog 19 #[.slice (some ⟨H, 0, none⟩) N' cH, .slice (some ⟨G2, 0, none⟩) N' cG2] W (BPost W (decide (S2 = SL)))) := fun W hb => by
            have := eql_any _ _ cH cG2 _ _ W (T7.below hb) (T8.below hb)
            rw [HL2.out, HLL.out] at this
            exact this
          have PO : Hid (∀ W, Below w7.heap.size w7 W → Calls Try.prog 19 #[.slice (some ⟨H, 0, none⟩) N' cH, .slice (some ⟨G, 0, none⟩) N' cG] W (BPost W (decide (S2 = S1)))) := fun W hb => by
            have := eql_any _ _ cH cG _ _ W (T7.below hb) (T9.below hb)
            rw [HL2.out, HL1.out] at this
            exact this
          have KO7 := Lib.hid KO7
          have KN7 := Lib.hid hr7
          clear T7 T8 T9 KL7 KL6 KO6 D6 hr7 hb7
          generalize allB q qn m2 = aF at *
          generalize noneB q qn m2 = nF at *
          go_upto_region 31 with fail
          go_cut [173] (fun v wx => v = .bool false ∧ Below w7.heap.size w7 wx)
          case first =>
            have PL7 := PL.out w7 (Below.refl _ _)
            cases aF with
            | false =>
              cases nF with
              | false =>
                go_wp2
                go_meet
                exact ⟨rfl, Below.refl _ _⟩
              | true =>
                have PO7 := PO.out w7 (Below.refl _ _)
                rw [decide_eq_true (EN.out rfl)] at PO7
                clear PL7
                go_wp2_with (go_at_call 19; refine PO7.mono ?_; rintro e w8 ⟨rfl, hb8⟩)
                go_meet
                exact ⟨rfl, hb8⟩
            | true =>
              rw [decide_eq_true (EA.out rfl)] at PL7
              cases nF with
              | false =>
                go_wp2_with (go_at_call 19; refine PL7.mono ?_; rintro e w8 ⟨rfl, hb8⟩)
                go_meet
                exact ⟨rfl, hb8⟩
              | true =>
                have PO7 := Lib.hid (fun W hb => by have := PO.out W hb; rw [decide_eq_true (EN.out rfl)] at this; exact this)
                go_wp2_with fail
                refine PL7.mono ?_
                rintro e w8 ⟨rfl, hb8⟩
                have PO8 := PO7.out w8 hb8
                go_wp2_with (go_at_call 19; refine PO8.mono ?_; rintro e w9 ⟨rfl, hb9⟩)
                go_meet
                exact ⟨rfl, bel2 hb8 hb9⟩
          case rest =>
          obtain ⟨rfl, hb⟩ := hcut
          have D8 := Lib.hid (D7.out.below hb)
          have KO8 := Lib.hid (own_keep KO7.out (w' := wc) (fun j hj => by cases hj; exact hb.block _ (KO7.out.lt G rfl).2))
          have KN8 := Lib.hid (own_keep KN7.out (w' := wc) (fun j hj => by cases hj; exact hb.block _ (KN7.out.lt H rfl).2))
          clear PL PO KO7 KN7 D7 hb EA EN
          go_wp2_with fail
          go_loopw [20] (fun vj wr => ∃ j : Nat, j ≤ N' ∧ vj = .int .i64 j ∧ D1 w wr (fun b => b = G ∨ b = H) (onS SO) ∧ wr.ownsRow w2.heap.size 9 1 (.slice (some ⟨G, 0, none⟩) N' cG) N' (S1.map .string) ∧ wr.ownsRow w6.heap.size 9 1 (.slice (some ⟨H, 0, none⟩) N' cH) N' (S2.map .string)) (fun v _ => N' - (intOf v).toNat)
          case atStart => exact ⟨0, Nat.zero_le _, rfl, D8.out, KO8.out, KN8.out⟩
          case round =>
            clear D8 KO8 KN8
            obtain ⟨j, hj, rfl, D, KO, KN⟩ := hrel
            have D := Lib.hid D
            have KO := Lib.hid KO
            have KN := Lib.hid KN
            by_cases hjn : j < N'
            · have c2 : wr.cell? ⟨G, j, none⟩ = some (.string (S1.getD j ByteArray.empty)) := by
                rw [KO.out.cellAt j (by omega), List.getElem?_map, List.getD_eq_getElem?_getD, List.getElem?_eq_getElem (by rw [HL1.out]; exact hjn)]
                rfl
              have CH : Hid (∀ W : World, W.ownsRow w6.heap.size 9 1 (.slice (some ⟨H, 0, none⟩) N' cH) N' (S2.map .string) → W.cell? ⟨H, j, none⟩ = some (.string (S2.getD j ByteArray.empty))) := fun W h => by
                rw [h.cellAt j (by omega), List.getElem?_map, List.getD_eq_getElem?_getD, List.getElem?_eq_getElem (by rw [HL2.out]; exact hjn)]
                rfl
              have c1 := CH.out wr KN.out
              have hGl : G < wr.heap.size := (KO.out.lt G rfl).2
              have hHl : H < wr.heap.size := (KN.out.lt H rfl).2
              have E0 : Hid (((S2.getD j ByteArray.empty).toList == (S1.getD j ByteArray.empty).toList) = okB S1 S2 j g2 N' 0) := str_d _ _
              have ES : Hid (∀ i, okB S1 S2 j g2 N' (i + 1) = (okB S1 S2 j g2 N' i || (decide (modOf (g2 i).s N' = j) && decide (S2.getD j ByteArray.empty = secS (g2 i).d)))) := fun i => rfl
              have RDj := Lib.hid (RD.out j hjn)
              generalize S2.getD j ByteArray.empty = e2 at *
              generalize S1.getD j ByteArray.empty = e1 at *
              have E0' := E0.out
              go_upto_region 36 with fail
              generalize hok0 : okB S1 S2 j g2 N' 0 = ok0 at *
              have HOK0 := Lib.hid hok0
              clear hok0
              go_quiet (fail)
              clear E0' E0 c1 c2
              go_wp2_with fail
              go_loopw [22, 21] (fun vi vo wx => ∃ i : Nat, i ≤ m2 ∧ vi = .int .i64 i ∧ vo = .bool (okB S1 S2 j g2 N' i) ∧ D1 w wx (fun b => b = G ∨ b = H) (onS SO) ∧ wx.ownsRow w2.heap.size 9 1 (.slice (some ⟨G, 0, none⟩) N' cG) N' (S1.map .string) ∧ wx.ownsRow w6.heap.size 9 1 (.slice (some ⟨H, 0, none⟩) N' cH) N' (S2.map .string)) (fun v _ _ => m2 - (intOf v).toNat)
              case atStart => exact ⟨0, Nat.zero_le _, rfl, by rw [HOK0.out], D.out.below (below_drewN (Below.refl _ _) _), KO.out, KN.out⟩
              case round =>
                clear D KO KN hGl hHl HOK0
                obtain ⟨i, hi, rfl, rfl, D, KO, KN⟩ := hrel
                have D := Lib.hid D
                have KO := Lib.hid KO
                have KN := Lib.hid KN
                have c1 := CH.out _ KN.out
                have hGl := (KO.out.lt G rfl).2
                have hHl := (KN.out.lt H rfl).2
                by_cases hlt : i < m2
                · rcases HG2.out.row with h0 | ⟨b, off, rfl, hb, hcl⟩
                  · omega
                  obtain ⟨-, u1, u2, -⟩ := hcl i hlt
                  have M3 := Lib.hid (fun W => mod_any (g2 i).s N' (by omega) (by omega) W)
                  have SEC := Lib.hid (fun W => sec_any (g2 i).d W)
                  have ESi := Lib.hid (ES.out i)
                  have QD : Hid ((e2.toList == (secS (g2 i).d).toList) = decide (e2 = secS (g2 i).d)) := str_d _ _
                  clear hcl
                  have U1 := (D.out.bel.cell (p := ⟨b, off + i * 5 + 1, none⟩) (by exact hb)).trans u1
                  have U2 := (D.out.bel.cell (p := ⟨b, off + i * 5 + 2, none⟩) (by exact hb)).trans u2
                  have hbr : b < wr.heap.size := by have := D.out.bel.size; omega
                  generalize modOf (g2 i).s N' = a at *
                  generalize decide (e2 = secS (g2 i).d) = od at *
                  generalize secS (g2 i).d = d at *
                  generalize (g2 i).s = x at *
                  generalize (g2 i).d = y at *
                  have QD' := QD.out
                  generalize hok : okB S1 S2 j g2 N' i = ok at *
                  clear hok
                  generalize hokn : okB S1 S2 j g2 N' (i + 1) = okn at *
                  have HOKN := Lib.hid hokn
                  clear hokn
                  have KP : Hid (∀ W, Below wr.heap.size wr W → W.cell? ⟨b, off + i * 5 + 1, none⟩ = some (.int .i64 x) ∧ W.cell? ⟨b, off + i * 5 + 2, none⟩ = some (.int .i64 y) ∧ W.cell? ⟨H, j, none⟩ = some (.string e2)) := fun W hw => ⟨(hw.cell (by exact hbr)).trans U1, (hw.cell (by exact hbr)).trans U2, (hw.cell (by exact hHl)).trans c1⟩
                  have KEEP : Hid (∀ W : World, Below wr.heap.size wr W → D1 w W (fun b => b = G ∨ b = H) (onS SO) ∧ W.ownsRow w2.heap.size 9 1 (.slice (some ⟨G, 0, none⟩) N' cG) N' (S1.map .string) ∧ W.ownsRow w6.heap.size 9 1 (.slice (some ⟨H, 0, none⟩) N' cH) N' (S2.map .string)) := fun W hw => ⟨D.out.below hw, own_keep KO.out (fun k hk => by cases hk; exact hw.block _ hGl), own_keep KN.out (fun k hk => by cases hk; exact hw.block _ hHl)⟩
                  cases ok with
                  | true =>
                    have e : okn = true := by rw [ESi.out]; rfl
                    clear U1 U2 c1 QD' ESi
                    subst e
                    go_upto_region 40 with fail
                    refine wp_region_noPanic ?_
                    refine wp_region_held_drew (S := fun W => W.cell? ⟨b, off + i * 5 + 1, none⟩ = some (.int .i64 x) ∧ W.cell? ⟨b, off + i * 5 + 2, none⟩ = some (.int .i64 y) ∧ W.cell? ⟨H, j, none⟩ = some (.string e2)) (by kernel_rfl) (KP.out _ (Below.refl _ _).drew) (fun hHeld => ?_)
                    refine wpAnyH_take (i := 0) (v := ?vp0) (by simp only [List.getElem?_toArray, List.getElem?_cons_zero]; rfl) (by kernel_rfl) (by kernel_rfl) (by kernel_rfl) (fun _ _ _ h => h) (Or.inl ⟨by rfl, ?yp0⟩) hHeld ?_
                    case yp0 => (intro w hSw; go_simp <;> with_reducible rfl)
                    simp only [Act.put, List.setIfInBounds_toArray, List.set_cons_zero, List.set_cons_succ]
                    refine wpAnyH_take (i := 1) (v := ?vp1) (by simp only [List.getElem?_toArray, List.getElem?_cons_succ, List.getElem?_cons_zero]; rfl) (by kernel_rfl) (by kernel_rfl) (by kernel_rfl) (fun _ _ _ h => h) (Or.inl ⟨by rfl, ?yp1⟩) hHeld ?_
                    case yp1 => (intro w hSw; go_simp <;> with_reducible rfl)
                    simp only [Act.put, List.setIfInBounds_toArray, List.set_cons_zero, List.set_cons_succ]
                    refine wpAnyH_take (i := 2) (by simp only [List.getElem?_toArray, List.getElem?_cons_succ, List.getElem?_cons_zero]; rfl) (by kernel_rfl) (by kernel_rfl) (by kernel_rfl) (fun _ _ _ h => h) (Or.inr ⟨by rfl, rfl⟩) hHeld ?_
                    simp only [Act.put, List.setIfInBounds_toArray, List.set_cons_zero, List.set_cons_succ]
                    refine wpAnyH_take (i := 3) (by simp only [List.getElem?_toArray, List.getElem?_cons_succ, List.getElem?_cons_zero]; rfl) (by kernel_rfl) (by kernel_rfl) (by kernel_rfl) (fun _ _ _ h => h) (Or.inr ⟨by rfl, rfl⟩) hHeld ?_
                    simp only [Act.put, List.setIfInBounds_toArray, List.set_cons_zero, List.set_cons_succ]
                    refine wpAnyH_take (i := 4) (by simp only [List.getElem?_toArray, List.getElem?_cons_succ, List.getElem?_cons_zero]; rfl) (by kernel_rfl) (by kernel_rfl) (by kernel_rfl) (fun _ _ _ h => h) (Or.inr ⟨by rfl, rfl⟩) hHeld ?_
                    simp only [Act.put, List.setIfInBounds_toArray, List.set_cons_zero, List.set_cons_succ]
                    refine wpAnyH_take (i := 5) (by simp only [List.getElem?_toArray, List.getElem?_cons_succ, List.getElem?_cons_zero]; rfl) (by kernel_rfl) (by kernel_rfl) (by kernel_rfl) (fun _ _ _ h => h) (Or.inr ⟨by rfl, rfl⟩) hHeld ?_
                    simp only [Act.put, List.setIfInBounds_toArray, List.set_cons_zero, List.set_cons_succ]
                    refine wpAnyH_take (i := 6) (by simp only [List.getElem?_toArray, List.getElem?_cons_succ, List.getElem?_cons_zero]; rfl) (by kernel_rfl) (by kernel_rfl) (by kernel_rfl) (fun _ _ _ h => h) (Or.inr ⟨by rfl, rfl⟩) hHeld ?_
                    simp only [Act.put, List.setIfInBounds_toArray, List.set_cons_zero, List.set_cons_succ]
                    refine wpAnyH_take (i := 7) (by simp only [List.getElem?_toArray, List.getElem?_cons_succ, List.getElem?_cons_zero]; rfl) (by kernel_rfl) (by kernel_rfl) (by kernel_rfl) (fun _ _ _ h => h) (Or.inr ⟨by rfl, rfl⟩) hHeld ?_
                    simp only [Act.put, List.setIfInBounds_toArray, List.set_cons_zero, List.set_cons_succ]
                    refine wpAnyH_take (i := 8) (by simp only [List.getElem?_toArray, List.getElem?_cons_succ, List.getElem?_cons_zero]; rfl) (by kernel_rfl) (by kernel_rfl) (by kernel_rfl) (fun _ _ _ h => h) (Or.inr ⟨by rfl, rfl⟩) hHeld ?_
                    simp only [Act.put, List.setIfInBounds_toArray, List.set_cons_zero, List.set_cons_succ]
                    refine wpAnyH_take (i := 9) (by simp only [List.getElem?_toArray, List.getElem?_cons_succ, List.getElem?_cons_zero]; rfl) (by kernel_rfl) (by kernel_rfl) (by kernel_rfl) (fun _ _ _ h => h) (Or.inr ⟨by rfl, rfl⟩) hHeld ?_
                    simp only [Act.put, List.setIfInBounds_toArray, List.set_cons_zero, List.set_cons_succ]
                    refine wpAnyH_take (i := 10) (by simp only [List.getElem?_toArray, List.getElem?_cons_succ, List.getElem?_cons_zero]; rfl) (by kernel_rfl) (by kernel_rfl) (by kernel_rfl) (fun _ _ _ h => h) (Or.inr ⟨by rfl, rfl⟩) hHeld ?_
                    simp only [Act.put, List.setIfInBounds_toArray, List.set_cons_zero, List.set_cons_succ]
                    refine wpAnyH_take (i := 11) (by simp only [List.getElem?_toArray, List.getElem?_cons_succ, List.getElem?_cons_zero]; rfl) (by kernel_rfl) (by kernel_rfl) (by kernel_rfl) (fun _ _ _ h => h) (Or.inr ⟨by rfl, rfl⟩) hHeld ?_
                    simp only [Act.put, List.setIfInBounds_toArray, List.set_cons_zero, List.set_cons_succ]
                    refine wpAnyH_take (i := 12) (by simp only [List.getElem?_toArray, List.getElem?_cons_succ, List.getElem?_cons_zero]; rfl) (by kernel_rfl) (by kernel_rfl) (by kernel_rfl) (fun _ _ _ h => h) (Or.inr ⟨by rfl, rfl⟩) hHeld ?_
                    simp only [Act.put, List.setIfInBounds_toArray, List.set_cons_zero, List.set_cons_succ]
                    refine wpAnyH_take (i := 13) (by simp only [List.getElem?_toArray, List.getElem?_cons_succ, List.getElem?_cons_zero]; rfl) (by kernel_rfl) (by kernel_rfl) (by kernel_rfl) (fun _ _ _ h => h) (Or.inr ⟨by rfl, rfl⟩) hHeld ?_
                    simp only [Act.put, List.setIfInBounds_toArray, List.set_cons_zero, List.set_cons_succ]
                    refine wpAnyH_take (i := 14) (by simp only [List.getElem?_toArray, List.getElem?_cons_succ, List.getElem?_cons_zero]; rfl) (by kernel_rfl) (by kernel_rfl) (by kernel_rfl) (fun _ _ _ h => h) (Or.inr ⟨by rfl, rfl⟩) hHeld ?_
                    simp only [Act.put, List.setIfInBounds_toArray, List.set_cons_zero, List.set_cons_succ]
                    refine wpAnyH_take (i := 15) (by simp only [List.getElem?_toArray, List.getElem?_cons_succ, List.getElem?_cons_zero]; rfl) (by kernel_rfl) (by kernel_rfl) (by kernel_rfl) (fun _ _ _ h => h) (Or.inr ⟨by rfl, rfl⟩) hHeld ?_
                    simp only [Act.put, List.setIfInBounds_toArray, List.set_cons_zero, List.set_cons_succ]
                    refine wpAnyH_take (i := 16) (by simp only [List.getElem?_toArray, List.getElem?_cons_succ, List.getElem?_cons_zero]; rfl) (by kernel_rfl) (by kernel_rfl) (by kernel_rfl) (fun _ _ _ h => h) (Or.inr ⟨by rfl, rfl⟩) hHeld ?_
                    simp only [Act.put, List.setIfInBounds_toArray, List.set_cons_zero, List.set_cons_succ]
                    refine wpAnyH_take (i := 17) (by simp only [List.getElem?_toArray, List.getElem?_cons_succ, List.getElem?_cons_zero]; rfl) (by kernel_rfl) (by kernel_rfl) (by kernel_rfl) (fun _ _ _ h => h) (Or.inr ⟨by rfl, rfl⟩) hHeld ?_
                    simp only [Act.put, List.setIfInBounds_toArray, List.set_cons_zero, List.set_cons_succ]
                    refine wpAnyH_take (i := 18) (by simp only [List.getElem?_toArray, List.getElem?_cons_succ, List.getElem?_cons_zero]; rfl) (by kernel_rfl) (by kernel_rfl) (by kernel_rfl) (fun _ _ _ h => h) (Or.inr ⟨by rfl, rfl⟩) hHeld ?_
                    simp only [Act.put, List.setIfInBounds_toArray, List.set_cons_zero, List.set_cons_succ]
                    refine wpAnyH_take (i := 19) (by simp only [List.getElem?_toArray, List.getElem?_cons_succ, List.getElem?_cons_zero]; rfl) (by kernel_rfl) (by kernel_rfl) (by kernel_rfl) (fun _ _ _ h => h) (Or.inr ⟨by rfl, rfl⟩) hHeld ?_
                    simp only [Act.put, List.setIfInBounds_toArray, List.set_cons_zero, List.set_cons_succ]
                    refine wpAnyH_take (i := 20) (by simp only [List.getElem?_toArray, List.getElem?_cons_succ, List.getElem?_cons_zero]; rfl) (by kernel_rfl) (by kernel_rfl) (by kernel_rfl) (fun _ _ _ h => h) (Or.inr ⟨by rfl, rfl⟩) hHeld ?_
                    simp only [Act.put, List.setIfInBounds_toArray, List.set_cons_zero, List.set_cons_succ]
                    refine wpAnyH_take (i := 21) (by simp only [List.getElem?_toArray, List.getElem?_cons_succ, List.getElem?_cons_zero]; rfl) (by kernel_rfl) (by kernel_rfl) (by kernel_rfl) (fun _ _ _ h => h) (Or.inr ⟨by rfl, rfl⟩) hHeld ?_
                    simp only [Act.put, List.setIfInBounds_toArray, List.set_cons_zero, List.set_cons_succ]
                    refine wpAnyH_take (i := 22) (by simp only [List.getElem?_toArray, List.getElem?_cons_succ, List.getElem?_cons_zero]; rfl) (by kernel_rfl) (by kernel_rfl) (by kernel_rfl) (fun _ _ _ h => h) (Or.inr ⟨by rfl, rfl⟩) hHeld ?_
                    simp only [Act.put, List.setIfInBounds_toArray, List.set_cons_zero, List.set_cons_succ]
                    refine wpAnyH_take (i := 23) (by simp only [List.getElem?_toArray, List.getElem?_cons_succ, List.getElem?_cons_zero]; rfl) (by kernel_rfl) (by kernel_rfl) (by kernel_rfl) (fun _ _ _ h => h) (Or.inr ⟨by rfl, rfl⟩) hHeld ?_
                    simp only [Act.put, List.setIfInBounds_toArray, List.set_cons_zero, List.set_cons_succ]
                    refine wpAnyH_take (i := 24) (v := ?vp24) (by simp only [List.getElem?_toArray, List.getElem?_cons_succ, List.getElem?_cons_zero]; rfl) (by kernel_rfl) (by kernel_rfl) (by kernel_rfl) (fun _ _ _ h => h) (Or.inl ⟨by rfl, ?yp24⟩) hHeld ?_
                    case yp24 => (intro w hSw; go_simp <;> with_reducible rfl)
                    simp only [Act.put, List.setIfInBounds_toArray, List.set_cons_zero, List.set_cons_succ]
                    refine wpAnyH_take (i := 25) (v := ?vp25) (by simp only [List.getElem?_toArray, List.getElem?_cons_succ, List.getElem?_cons_zero]; rfl) (by kernel_rfl) (by kernel_rfl) (by kernel_rfl) (fun _ _ _ h => h) (Or.inl ⟨by rfl, ?yp25⟩) hHeld ?_
                    case yp25 => (intro w hSw; go_simp <;> with_reducible rfl)
                    simp only [Act.put, List.setIfInBounds_toArray]
                    refine wpAnyH_done (by kernel_rfl) ?_ _
                    refine NoPanic.normal ?_
                    clear hHeld
                    go_wp2_with fail
                    go_roundw
                    case rel => exact ⟨i + 1, by omega, by go_num, by rw [HOKN.out], KEEP.out _ (Below.refl _ _).drew⟩
                    case measure => simp [intOf]; omega
                  | false =>
                    by_cases haj : a = j
                    · have e : okn = od := by rw [ESi.out, decide_eq_true haj]; simp
                      have qa : ((a : Int) == (j : Int)) = true := by simp [haj]
                      clear U1 U2 c1 ESi haj
                      subst e
                      go_upto_region 40 with fail
                      refine wp_region_noPanic ?_
                      refine wp_region_held_drew (S := fun W => W.cell? ⟨b, off + i * 5 + 1, none⟩ = some (.int .i64 x) ∧ W.cell? ⟨b, off + i * 5 + 2, none⟩ = some (.int .i64 y) ∧ W.cell? ⟨H, j, none⟩ = some (.string e2)) (by kernel_rfl) (KP.out _ (Below.refl _ _).drew) (fun hHeld => ?_)
                      refine wpAnyH_take (i := 0) (v := ?vs0) (by simp only [List.getElem?_toArray, List.getElem?_cons_zero]; rfl) (by kernel_rfl) (by kernel_rfl) (by kernel_rfl) (fun _ _ _ h => h) (Or.inl ⟨by rfl, ?ys0⟩) hHeld ?_
                      case ys0 => (intro w hSw; go_simp <;> with_reducible rfl)
                      simp only [Act.put, List.setIfInBounds_toArray, List.set_cons_zero, List.set_cons_succ]
                      refine wpAnyH_take (i := 1) (v := ?vs1) (by simp only [List.getElem?_toArray, List.getElem?_cons_succ, List.getElem?_cons_zero]; rfl) (by kernel_rfl) (by kernel_rfl) (by kernel_rfl) (fun _ _ _ h => h) (Or.inl ⟨by rfl, ?ys1⟩) hHeld ?_
                      case ys1 => (intro w hSw; go_simp <;> with_reducible rfl)
                      simp only [Act.put, List.setIfInBounds_toArray, List.set_cons_zero, List.set_cons_succ]
                      refine wpAnyH_take (i := 2) (v := ?vs2) (by simp only [List.getElem?_toArray, List.getElem?_cons_succ, List.getElem?_cons_zero]; rfl) (by kernel_rfl) (by kernel_rfl) (by kernel_rfl) (fun _ _ _ h => h) (Or.inl ⟨by rfl, ?ys2⟩) hHeld ?_
                      case ys2 => (intro w hSw; go_simp <;> with_reducible rfl)
                      simp only [Act.put, List.setIfInBounds_toArray, List.set_cons_zero, List.set_cons_succ]
                      refine wpAnyH_take (i := 3) (v := ?vs3) (by simp only [List.getElem?_toArray, List.getElem?_cons_succ, List.getElem?_cons_zero]; rfl) (by kernel_rfl) (by kernel_rfl) (by kernel_rfl) (fun _ _ _ h => h) (Or.inl ⟨by rfl, ?ys3⟩) hHeld ?_
                      case ys3 => (intro w hSw; go_simp <;> with_reducible rfl)
                      simp only [Act.put, List.setIfInBounds_toArray, List.set_cons_zero, List.set_cons_succ]
                      refine wpAnyH_take (i := 4) (v := ?vs4) (by simp only [List.getElem?_toArray, List.getElem?_cons_succ, List.getElem?_cons_zero]; rfl) (by kernel_rfl) (by kernel_rfl) (by kernel_rfl) (fun _ _ _ h => h) (Or.inl ⟨by rfl, ?ys4⟩) hHeld ?_
                      case ys4 => (intro w hSw; go_simp <;> with_reducible rfl)
                      simp only [Act.put, List.setIfInBounds_toArray, List.set_cons_zero, List.set_cons_succ]
                      refine wpAnyH_take (i := 5) (v := ?vs5) (by simp only [List.getElem?_toArray, List.getElem?_cons_succ, List.getElem?_cons_zero]; rfl) (by kernel_rfl) (by kernel_rfl) (by kernel_rfl) (fun _ _ _ h => h) (Or.inl ⟨by rfl, ?ys5⟩) hHeld ?_
                      case ys5 => (intro w hSw; go_simp <;> with_reducible rfl)
                      simp only [Act.put, List.setIfInBounds_toArray, List.set_cons_zero, List.set_cons_succ]
                      refine wpAnyH_take (i := 6) (v := ?vs6) (by simp only [List.getElem?_toArray, List.getElem?_cons_succ, List.getElem?_cons_zero]; rfl) (by kernel_rfl) (by kernel_rfl) (by kernel_rfl) (fun _ _ _ h => h) (Or.inl ⟨by rfl, ?ys6⟩) hHeld ?_
                      case ys6 => (intro w hSw; go_simp <;> with_reducible rfl)
                      simp only [Act.put, List.setIfInBounds_toArray, List.set_cons_zero, List.set_cons_succ]
                      refine wpAnyH_take (i := 7) (v := ?vs7) (by simp only [List.getElem?_toArray, List.getElem?_cons_succ, List.getElem?_cons_zero]; rfl) (by kernel_rfl) (by kernel_rfl) (by kernel_rfl) (fun _ _ _ h => h) (Or.inl ⟨by rfl, ?ys7⟩) hHeld ?_
                      case ys7 => (intro w hSw; go_simp <;> with_reducible rfl)
                      simp only [Act.put, List.setIfInBounds_toArray, List.set_cons_zero, List.set_cons_succ]
                      refine wpAnyH_take (i := 9) (v := ?vs9) (by simp only [List.getElem?_toArray, List.getElem?_cons_succ, List.getElem?_cons_zero]; rfl) (by kernel_rfl) (by kernel_rfl) (by kernel_rfl) (fun _ _ _ h => h) (Or.inl ⟨by rfl, ?ys9⟩) hHeld ?_
                      case ys9 => (intro w hSw; go_simp <;> with_reducible rfl)
                      simp only [Act.put, List.setIfInBounds_toArray, List.set_cons_zero, List.set_cons_succ]
                      refine wpAnyH_ready (rs := [8]) (by kernel_rfl) (by simp) ?_
                      refine AllReadyH.cons (by simp only [List.getElem?_toArray, List.getElem?_cons_succ, List.getElem?_cons_zero]; rfl) (fun K hK => ?_) ?_
                      rotate_left
                      · exact AllReadyH.nil
                      go_simp
                      go_at_call 11
                      refine (M3.out _).mono ?_
                      rintro e w9 ⟨rfl, rfl⟩
                      go_wp2_with fail
                      refine hK.out _ _ ?_ (fun hHeld => ?_)
                      · exact KP.out _ (Below.refl _ _).drew
                      clear hK K
                      refine wpAnyH_take (i := 10) (v := ?vs10) (by simp only [List.getElem?_toArray, List.getElem?_cons_succ, List.getElem?_cons_zero]; rfl) (by kernel_rfl) (by kernel_rfl) (by kernel_rfl) (fun _ _ _ h => h) (Or.inl ⟨by rfl, ?ys10⟩) hHeld ?_
                      case ys10 => (intro w hSw; go_simp <;> with_reducible rfl)
                      simp only [Act.put, List.setIfInBounds_toArray, List.set_cons_zero, List.set_cons_succ]
                      refine wpAnyH_take (i := 11) (v := ?vs11) (by simp only [List.getElem?_toArray, List.getElem?_cons_succ, List.getElem?_cons_zero]; rfl) (by kernel_rfl) (by kernel_rfl) (by kernel_rfl) (fun _ _ _ h => h) (Or.inl ⟨by rfl, ?ys11⟩) hHeld ?_
                      case ys11 => (intro w hSw; go_simp <;> with_reducible rfl)
                      simp only [Act.put, List.setIfInBounds_toArray, List.set_cons_zero, List.set_cons_succ]
                      refine wpAnyH_take (i := 12) (v := ?vs12) (by simp only [List.getElem?_toArray, List.getElem?_cons_succ, List.getElem?_cons_zero]; rfl) (by kernel_rfl) (by kernel_rfl) (by kernel_rfl) (fun _ _ _ h => h) (Or.inl ⟨by rfl, ?ys12⟩) hHeld ?_
                      case ys12 => (intro w hSw; go_simp <;> with_reducible rfl)
                      simp only [Act.put, List.setIfInBounds_toArray, List.set_cons_zero, List.set_cons_succ]
                      refine wpAnyH_take (i := 13) (v := ?vs13) (by simp only [List.getElem?_toArray, List.getElem?_cons_succ, List.getElem?_cons_zero]; rfl) (by kernel_rfl) (by kernel_rfl) (by kernel_rfl) (fun _ _ _ h => h) (Or.inl ⟨by rfl, ?ys13⟩) hHeld ?_
                      case ys13 => (intro w hSw; go_simp <;> with_reducible rfl)
                      simp only [Act.put, List.setIfInBounds_toArray, List.set_cons_zero, List.set_cons_succ]
                      refine wpAnyH_take (i := 14) (v := ?vs14) (by simp only [List.getElem?_toArray, List.getElem?_cons_succ, List.getElem?_cons_zero]; rfl) (by kernel_rfl) (by kernel_rfl) (by kernel_rfl) (fun _ _ _ h => h) (Or.inl ⟨by rfl, ?ys14⟩) hHeld ?_
                      case ys14 => (intro w hSw; go_simp <;> with_reducible rfl)
                      simp only [Act.put, List.setIfInBounds_toArray, List.set_cons_zero, List.set_cons_succ]
                      refine wpAnyH_take (i := 15) (v := ?vs15) (by simp only [List.getElem?_toArray, List.getElem?_cons_succ, List.getElem?_cons_zero]; rfl) (by kernel_rfl) (by kernel_rfl) (by kernel_rfl) (fun _ _ _ h => h) (Or.inl ⟨by rfl, ?ys15⟩) hHeld ?_
                      case ys15 => (intro w hSw; go_simp <;> with_reducible rfl)
                      simp only [Act.put, List.setIfInBounds_toArray, List.set_cons_zero, List.set_cons_succ]
                      refine wpAnyH_take (i := 16) (v := ?vs16) (by simp only [List.getElem?_toArray, List.getElem?_cons_succ, List.getElem?_cons_zero]; rfl) (by kernel_rfl) (by kernel_rfl) (by kernel_rfl) (fun _ _ _ h => h) (Or.inl ⟨by rfl, ?ys16⟩) hHeld ?_
                      case ys16 => (intro w hSw; go_simp <;> with_reducible rfl)
                      simp only [Act.put, List.setIfInBounds_toArray, List.set_cons_zero, List.set_cons_succ]
                      refine wpAnyH_take (i := 17) (v := ?vs17) (by simp only [List.getElem?_toArray, List.getElem?_cons_succ, List.getElem?_cons_zero]; rfl) (by kernel_rfl) (by kernel_rfl) (by kernel_rfl) (fun _ _ _ h => h) (Or.inl ⟨by rfl, ?ys17⟩) hHeld ?_
                      case ys17 => (intro w hSw; go_simp <;> with_reducible rfl)
                      simp only [Act.put, List.setIfInBounds_toArray, List.set_cons_zero, List.set_cons_succ]
                      refine wpAnyH_take (i := 18) (v := ?vs18) (by simp only [List.getElem?_toArray, List.getElem?_cons_succ, List.getElem?_cons_zero]; rfl) (by kernel_rfl) (by kernel_rfl) (by kernel_rfl) (fun _ _ _ h => h) (Or.inl ⟨by rfl, ?ys18⟩) hHeld ?_
                      case ys18 => (intro w hSw; go_simp <;> with_reducible rfl)
                      simp only [Act.put, List.setIfInBounds_toArray, List.set_cons_zero, List.set_cons_succ]
                      refine wpAnyH_take (i := 19) (v := ?vs19) (by simp only [List.getElem?_toArray, List.getElem?_cons_succ, List.getElem?_cons_zero]; rfl) (by kernel_rfl) (by kernel_rfl) (by kernel_rfl) (fun _ _ _ h => h) (Or.inl ⟨by rfl, ?ys19⟩) hHeld ?_
                      case ys19 => (intro w hSw; go_simp <;> with_reducible rfl)
                      simp only [Act.put, List.setIfInBounds_toArray, List.set_cons_zero, List.set_cons_succ]
                      refine wpAnyH_take (i := 20) (v := ?vs20) (by simp only [List.getElem?_toArray, List.getElem?_cons_succ, List.getElem?_cons_zero]; rfl) (by kernel_rfl) (by kernel_rfl) (by kernel_rfl) (fun _ _ _ h => h) (Or.inl ⟨by rfl, ?ys20⟩) hHeld ?_
                      case ys20 => (intro w hSw; go_simp <;> with_reducible rfl)
                      simp only [Act.put, List.setIfInBounds_toArray, List.set_cons_zero, List.set_cons_succ]
                      refine wpAnyH_ready (rs := [21]) (by kernel_rfl) (by simp) ?_
                      refine AllReadyH.cons (by simp only [List.getElem?_toArray, List.getElem?_cons_succ, List.getElem?_cons_zero]; rfl) (fun K hK => ?_) ?_
                      rotate_left
                      · exact AllReadyH.nil
                      go_simp
                      go_at_call 25
                      refine (SEC.out _).mono ?_
                      rintro e w9 ⟨rfl, hb9⟩
                      go_wp2_with fail
                      refine hK.out _ _ ?_ (fun hHeld => ?_)
                      · exact KP.out _ ((Below.refl _ wr).drew.trans (hb9.mono (Nat.le_refl _)))
                      clear hK K
                      refine wpAnyH_take (i := 22) (v := ?vs22) (by simp only [List.getElem?_toArray, List.getElem?_cons_succ, List.getElem?_cons_zero]; rfl) (by kernel_rfl) (by kernel_rfl) (by kernel_rfl) (fun _ _ _ h => h) (Or.inl ⟨by rfl, ?ys22⟩) hHeld ?_
                      case ys22 => (intro w hSw; go_simp <;> with_reducible rfl)
                      simp only [Act.put, List.setIfInBounds_toArray, List.set_cons_zero, List.set_cons_succ]
                      refine wpAnyH_take (i := 23) (v := ?vs23) (by simp only [List.getElem?_toArray, List.getElem?_cons_succ, List.getElem?_cons_zero]; rfl) (by kernel_rfl) (by kernel_rfl) (by kernel_rfl) (fun _ _ _ h => h) (Or.inl ⟨by rfl, ?ys23⟩) hHeld ?_
                      case ys23 => (intro w hSw; go_simp <;> with_reducible rfl)
                      simp only [Act.put, List.setIfInBounds_toArray, List.set_cons_zero, List.set_cons_succ]
                      refine wpAnyH_take (i := 24) (v := ?vs24) (by simp only [List.getElem?_toArray, List.getElem?_cons_succ, List.getElem?_cons_zero]; rfl) (by kernel_rfl) (by kernel_rfl) (by kernel_rfl) (fun _ _ _ h => h) (Or.inl ⟨by rfl, ?ys24⟩) hHeld ?_
                      case ys24 => (intro w hSw; go_simp <;> with_reducible rfl)
                      simp only [Act.put, List.setIfInBounds_toArray, List.set_cons_zero, List.set_cons_succ]
                      refine wpAnyH_take (i := 25) (v := ?vs25) (by simp only [List.getElem?_toArray, List.getElem?_cons_succ, List.getElem?_cons_zero]; rfl) (by kernel_rfl) (by kernel_rfl) (by kernel_rfl) (fun _ _ _ h => h) (Or.inl ⟨by rfl, ?ys25⟩) hHeld ?_
                      case ys25 => (intro w hSw; go_simp <;> with_reducible rfl)
                      simp only [Act.put, List.setIfInBounds_toArray]
                      refine wpAnyH_done (by kernel_rfl) ?_ _
                      refine NoPanic.normal ?_
                      clear hHeld
                      go_wp2_with fail
                      go_roundw
                      case rel => exact ⟨i + 1, by omega, by go_num, by rw [HOKN.out], KEEP.out _ ((Below.refl _ wr).drew.trans (hb9.mono (Nat.le_refl _)))⟩
                      case measure => simp [intOf]; omega
                    · have e : okn = false := by rw [ESi.out, decide_eq_false haj]; simp
                      have qa : ((a : Int) == (j : Int)) = false := by simp; omega
                      clear U1 U2 c1 QD' ESi
                      subst e
                      go_upto_region 40 with fail
                      refine wp_region_noPanic ?_
                      refine wp_region_held_drew (S := fun W => W.cell? ⟨b, off + i * 5 + 1, none⟩ = some (.int .i64 x) ∧ W.cell? ⟨b, off + i * 5 + 2, none⟩ = some (.int .i64 y) ∧ W.cell? ⟨H, j, none⟩ = some (.string e2)) (by kernel_rfl) (KP.out _ (Below.refl _ _).drew) (fun hHeld => ?_)
                      refine wpAnyH_take (i := 0) (v := ?vq0) (by simp only [List.getElem?_toArray, List.getElem?_cons_zero]; rfl) (by kernel_rfl) (by kernel_rfl) (by kernel_rfl) (fun _ _ _ h => h) (Or.inl ⟨by rfl, ?yq0⟩) hHeld ?_
                      case yq0 => (intro w hSw; go_simp <;> with_reducible rfl)
                      simp only [Act.put, List.setIfInBounds_toArray, List.set_cons_zero, List.set_cons_succ]
                      refine wpAnyH_take (i := 1) (v := ?vq1) (by simp only [List.getElem?_toArray, List.getElem?_cons_succ, List.getElem?_cons_zero]; rfl) (by kernel_rfl) (by kernel_rfl) (by kernel_rfl) (fun _ _ _ h => h) (Or.inl ⟨by rfl, ?yq1⟩) hHeld ?_
                      case yq1 => (intro w hSw; go_simp <;> with_reducible rfl)
                      simp only [Act.put, List.setIfInBounds_toArray, List.set_cons_zero, List.set_cons_succ]
                      refine wpAnyH_take (i := 2) (v := ?vq2) (by simp only [List.getElem?_toArray, List.getElem?_cons_succ, List.getElem?_cons_zero]; rfl) (by kernel_rfl) (by kernel_rfl) (by kernel_rfl) (fun _ _ _ h => h) (Or.inl ⟨by rfl, ?yq2⟩) hHeld ?_
                      case yq2 => (intro w hSw; go_simp <;> with_reducible rfl)
                      simp only [Act.put, List.setIfInBounds_toArray, List.set_cons_zero, List.set_cons_succ]
                      refine wpAnyH_take (i := 3) (v := ?vq3) (by simp only [List.getElem?_toArray, List.getElem?_cons_succ, List.getElem?_cons_zero]; rfl) (by kernel_rfl) (by kernel_rfl) (by kernel_rfl) (fun _ _ _ h => h) (Or.inl ⟨by rfl, ?yq3⟩) hHeld ?_
                      case yq3 => (intro w hSw; go_simp <;> with_reducible rfl)
                      simp only [Act.put, List.setIfInBounds_toArray, List.set_cons_zero, List.set_cons_succ]
                      refine wpAnyH_take (i := 4) (v := ?vq4) (by simp only [List.getElem?_toArray, List.getElem?_cons_succ, List.getElem?_cons_zero]; rfl) (by kernel_rfl) (by kernel_rfl) (by kernel_rfl) (fun _ _ _ h => h) (Or.inl ⟨by rfl, ?yq4⟩) hHeld ?_
                      case yq4 => (intro w hSw; go_simp <;> with_reducible rfl)
                      simp only [Act.put, List.setIfInBounds_toArray, List.set_cons_zero, List.set_cons_succ]
                      refine wpAnyH_take (i := 5) (v := ?vq5) (by simp only [List.getElem?_toArray, List.getElem?_cons_succ, List.getElem?_cons_zero]; rfl) (by kernel_rfl) (by kernel_rfl) (by kernel_rfl) (fun _ _ _ h => h) (Or.inl ⟨by rfl, ?yq5⟩) hHeld ?_
                      case yq5 => (intro w hSw; go_simp <;> with_reducible rfl)
                      simp only [Act.put, List.setIfInBounds_toArray, List.set_cons_zero, List.set_cons_succ]
                      refine wpAnyH_take (i := 6) (v := ?vq6) (by simp only [List.getElem?_toArray, List.getElem?_cons_succ, List.getElem?_cons_zero]; rfl) (by kernel_rfl) (by kernel_rfl) (by kernel_rfl) (fun _ _ _ h => h) (Or.inl ⟨by rfl, ?yq6⟩) hHeld ?_
                      case yq6 => (intro w hSw; go_simp <;> with_reducible rfl)
                      simp only [Act.put, List.setIfInBounds_toArray, List.set_cons_zero, List.set_cons_succ]
                      refine wpAnyH_take (i := 7) (v := ?vq7) (by simp only [List.getElem?_toArray, List.getElem?_cons_succ, List.getElem?_cons_zero]; rfl) (by kernel_rfl) (by kernel_rfl) (by kernel_rfl) (fun _ _ _ h => h) (Or.inl ⟨by rfl, ?yq7⟩) hHeld ?_
                      case yq7 => (intro w hSw; go_simp <;> with_reducible rfl)
                      simp only [Act.put, List.setIfInBounds_toArray, List.set_cons_zero, List.set_cons_succ]
                      refine wpAnyH_take (i := 9) (v := ?vq9) (by simp only [List.getElem?_toArray, List.getElem?_cons_succ, List.getElem?_cons_zero]; rfl) (by kernel_rfl) (by kernel_rfl) (by kernel_rfl) (fun _ _ _ h => h) (Or.inl ⟨by rfl, ?yq9⟩) hHeld ?_
                      case yq9 => (intro w hSw; go_simp <;> with_reducible rfl)
                      simp only [Act.put, List.setIfInBounds_toArray, List.set_cons_zero, List.set_cons_succ]
                      refine wpAnyH_ready (rs := [8]) (by kernel_rfl) (by simp) ?_
                      refine AllReadyH.cons (by simp only [List.getElem?_toArray, List.getElem?_cons_succ, List.getElem?_cons_zero]; rfl) (fun K hK => ?_) ?_
                      rotate_left
                      · exact AllReadyH.nil
                      go_simp
                      go_at_call 11
                      refine (M3.out _).mono ?_
                      rintro e w9 ⟨rfl, rfl⟩
                      go_wp2_with fail
                      refine hK.out _ _ ?_ (fun hHeld => ?_)
                      · exact KP.out _ (Below.refl _ _).drew
                      clear hK K
                      refine wpAnyH_take (i := 10) (v := ?vq10) (by simp only [List.getElem?_toArray, List.getElem?_cons_succ, List.getElem?_cons_zero]; rfl) (by kernel_rfl) (by kernel_rfl) (by kernel_rfl) (fun _ _ _ h => h) (Or.inl ⟨by rfl, ?yq10⟩) hHeld ?_
                      case yq10 => (intro w hSw; go_simp <;> with_reducible rfl)
                      simp only [Act.put, List.setIfInBounds_toArray, List.set_cons_zero, List.set_cons_succ]
                      refine wpAnyH_take (i := 11) (v := ?vq11) (by simp only [List.getElem?_toArray, List.getElem?_cons_succ, List.getElem?_cons_zero]; rfl) (by kernel_rfl) (by kernel_rfl) (by kernel_rfl) (fun _ _ _ h => h) (Or.inl ⟨by rfl, ?yq11⟩) hHeld ?_
                      case yq11 => (intro w hSw; go_simp <;> with_reducible rfl)
                      simp only [Act.put, List.setIfInBounds_toArray, List.set_cons_zero, List.set_cons_succ]
                      refine wpAnyH_take (i := 12) (by simp only [List.getElem?_toArray, List.getElem?_cons_succ, List.getElem?_cons_zero]; rfl) (by kernel_rfl) (by kernel_rfl) (by kernel_rfl) (fun _ _ _ h => h) (Or.inr ⟨by rfl, rfl⟩) hHeld ?_
                      simp only [Act.put, List.setIfInBounds_toArray, List.set_cons_zero, List.set_cons_succ]
                      refine wpAnyH_take (i := 13) (by simp only [List.getElem?_toArray, List.getElem?_cons_succ, List.getElem?_cons_zero]; rfl) (by kernel_rfl) (by kernel_rfl) (by kernel_rfl) (fun _ _ _ h => h) (Or.inr ⟨by rfl, rfl⟩) hHeld ?_
                      simp only [Act.put, List.setIfInBounds_toArray, List.set_cons_zero, List.set_cons_succ]
                      refine wpAnyH_take (i := 14) (by simp only [List.getElem?_toArray, List.getElem?_cons_succ, List.getElem?_cons_zero]; rfl) (by kernel_rfl) (by kernel_rfl) (by kernel_rfl) (fun _ _ _ h => h) (Or.inr ⟨by rfl, rfl⟩) hHeld ?_
                      simp only [Act.put, List.setIfInBounds_toArray, List.set_cons_zero, List.set_cons_succ]
                      refine wpAnyH_take (i := 15) (by simp only [List.getElem?_toArray, List.getElem?_cons_succ, List.getElem?_cons_zero]; rfl) (by kernel_rfl) (by kernel_rfl) (by kernel_rfl) (fun _ _ _ h => h) (Or.inr ⟨by rfl, rfl⟩) hHeld ?_
                      simp only [Act.put, List.setIfInBounds_toArray, List.set_cons_zero, List.set_cons_succ]
                      refine wpAnyH_take (i := 16) (by simp only [List.getElem?_toArray, List.getElem?_cons_succ, List.getElem?_cons_zero]; rfl) (by kernel_rfl) (by kernel_rfl) (by kernel_rfl) (fun _ _ _ h => h) (Or.inr ⟨by rfl, rfl⟩) hHeld ?_
                      simp only [Act.put, List.setIfInBounds_toArray, List.set_cons_zero, List.set_cons_succ]
                      refine wpAnyH_take (i := 17) (by simp only [List.getElem?_toArray, List.getElem?_cons_succ, List.getElem?_cons_zero]; rfl) (by kernel_rfl) (by kernel_rfl) (by kernel_rfl) (fun _ _ _ h => h) (Or.inr ⟨by rfl, rfl⟩) hHeld ?_
                      simp only [Act.put, List.setIfInBounds_toArray, List.set_cons_zero, List.set_cons_succ]
                      refine wpAnyH_take (i := 18) (by simp only [List.getElem?_toArray, List.getElem?_cons_succ, List.getElem?_cons_zero]; rfl) (by kernel_rfl) (by kernel_rfl) (by kernel_rfl) (fun _ _ _ h => h) (Or.inr ⟨by rfl, rfl⟩) hHeld ?_
                      simp only [Act.put, List.setIfInBounds_toArray, List.set_cons_zero, List.set_cons_succ]
                      refine wpAnyH_take (i := 19) (by simp only [List.getElem?_toArray, List.getElem?_cons_succ, List.getElem?_cons_zero]; rfl) (by kernel_rfl) (by kernel_rfl) (by kernel_rfl) (fun _ _ _ h => h) (Or.inr ⟨by rfl, rfl⟩) hHeld ?_
                      simp only [Act.put, List.setIfInBounds_toArray, List.set_cons_zero, List.set_cons_succ]
                      refine wpAnyH_take (i := 20) (by simp only [List.getElem?_toArray, List.getElem?_cons_succ, List.getElem?_cons_zero]; rfl) (by kernel_rfl) (by kernel_rfl) (by kernel_rfl) (fun _ _ _ h => h) (Or.inr ⟨by rfl, rfl⟩) hHeld ?_
                      simp only [Act.put, List.setIfInBounds_toArray, List.set_cons_zero, List.set_cons_succ]
                      refine wpAnyH_take (i := 21) (by simp only [List.getElem?_toArray, List.getElem?_cons_succ, List.getElem?_cons_zero]; rfl) (by kernel_rfl) (by kernel_rfl) (by kernel_rfl) (fun _ _ _ h => h) (Or.inr ⟨by rfl, rfl⟩) hHeld ?_
                      simp only [Act.put, List.setIfInBounds_toArray, List.set_cons_zero, List.set_cons_succ]
                      refine wpAnyH_take (i := 22) (by simp only [List.getElem?_toArray, List.getElem?_cons_succ, List.getElem?_cons_zero]; rfl) (by kernel_rfl) (by kernel_rfl) (by kernel_rfl) (fun _ _ _ h => h) (Or.inr ⟨by rfl, rfl⟩) hHeld ?_
                      simp only [Act.put, List.setIfInBounds_toArray, List.set_cons_zero, List.set_cons_succ]
                      refine wpAnyH_take (i := 23) (v := ?vq23) (by simp only [List.getElem?_toArray, List.getElem?_cons_succ, List.getElem?_cons_zero]; rfl) (by kernel_rfl) (by kernel_rfl) (by kernel_rfl) (fun _ _ _ h => h) (Or.inl ⟨by rfl, ?yq23⟩) hHeld ?_
                      case yq23 => (intro w hSw; go_simp <;> with_reducible rfl)
                      simp only [Act.put, List.setIfInBounds_toArray, List.set_cons_zero, List.set_cons_succ]
                      refine wpAnyH_take (i := 24) (v := ?vq24) (by simp only [List.getElem?_toArray, List.getElem?_cons_succ, List.getElem?_cons_zero]; rfl) (by kernel_rfl) (by kernel_rfl) (by kernel_rfl) (fun _ _ _ h => h) (Or.inl ⟨by rfl, ?yq24⟩) hHeld ?_
                      case yq24 => (intro w hSw; go_simp <;> with_reducible rfl)
                      simp only [Act.put, List.setIfInBounds_toArray, List.set_cons_zero, List.set_cons_succ]
                      refine wpAnyH_take (i := 25) (v := ?vq25) (by simp only [List.getElem?_toArray, List.getElem?_cons_succ, List.getElem?_cons_zero]; rfl) (by kernel_rfl) (by kernel_rfl) (by kernel_rfl) (fun _ _ _ h => h) (Or.inl ⟨by rfl, ?yq25⟩) hHeld ?_
                      case yq25 => (intro w hSw; go_simp <;> with_reducible rfl)
                      simp only [Act.put, List.setIfInBounds_toArray]
                      refine wpAnyH_done (by kernel_rfl) ?_ _
                      refine NoPanic.normal ?_
                      clear hHeld
                      go_wp2_with fail
                      go_roundw
                      case rel => exact ⟨i + 1, by omega, by go_num, by rw [HOKN.out], KEEP.out _ (Below.refl _ _).drew⟩
                      case measure => simp [intOf]; omega
                · obtain rfl : m2 = i := by omega
                  have OK := Lib.hid (OKE.out j hjn)
                  have OK' := OK.out
                  obtain ⟨F9, v9, Ka9, kc9, h9⟩ := D.out.dk
                  have P := read_any h9 j
                  rw [RDj.out, F3.out] at P
                  have qe : (e2.toList == e2.toList) = true := by simp
                  have qe2 : (e2.toList != e2.toList) = false := by simp
                  generalize okB S1 S2 j g2 N' m2 = ok at *
                  subst OK'
                  clear h9 hlt hi
                  go_wp2_with fail
                  refine P.mono ?_
                  clear P
                  rintro e9 w9 ⟨rfl, rfl⟩
                  go_wp2_with fail
                  go_roundw
                  case rel => exact ⟨j + 1, by omega, by go_num, D.out, KO.out, KN.out⟩
                  case measure => simp [intOf]; omega
            · have B7 := Lib.hid D.out.bel
              clear D KO KN
              go_wp2_with (go_at_call 10; refine (AW.out _).mono ?_; rintro e w8 ⟨rfl, hb8⟩)
              go_ret
              exact ⟨rfl, bel2 B7.out hb8⟩
theorem pls_walk (n : Int) (A : Option Addr) (m cc : Nat) (g : Nat → Cl) (A2 : Option Addr) (m2 cc2 : Nat) (g2 : Nat → Cl) (Ak : Option Addr) (qn kcc : Nat) (q : Nat → Bool) (w : World) (_ : (Lit.int .i64 n).wf = true) (hg : Cs w A m g) (hg2 : Cs w A2 m2 g2) (hq : Bs w Ak qn kcc q ∧ qn ≤ 140737488355328) :
    Calls Try.prog 6 #[.int .i64 n, .slice A m cc, .slice A2 m2 cc2, .slice Ak qn kcc] w (LawPost w) := pls_rest n A m cc g A2 m2 cc2 g2 Ak qn kcc q w hg hg2 hq.1
end Go.Proofs.Ytoafoikphpdimaa
