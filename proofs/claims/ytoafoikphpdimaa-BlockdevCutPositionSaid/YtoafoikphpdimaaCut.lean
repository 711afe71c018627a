/- BlockdevCutPosition: the walk. -/
import Derived.Test.YtoafoikphpdimaaSeq
namespace Go.Proofs.Ytoafoikphpdimaa
open Go.ChangeShapes Go.WideShapes Go.ChangeAt Go.RowKit Go.Deep Go.Joins

set_option maxRecDepth 20000 in
set_option maxHeartbeats 16000000 in
theorem cut_rest (n cut : Int) (A : Option Addr) (m cc : Nat) (g : Nat → Cl) (Ak : Option Addr) (qn kcc : Nat) (q : Nat → Bool) (w : World) (hg : Cs w A m g) (hq : Bs w Ak qn kcc q) (hqn : qn ≤ 140737488355328) :
    Calls Try.prog 7 #[.int .i64 n, .slice A m cc, .int .i64 cut, .slice Ak qn kcc] w (LawP w) := by
  have AW := Lib.hid (fun W => awake_any W)
  by_cases hm : 30 < m
  · have hm2 : (30 : Int) < (m : Int) := by omega
    clear hg hq
    go_enter Try.func7, Try.ntmps7
    go_wp2_with (go_at_call 10; refine (AW.out _).mono ?_; rintro e w5 ⟨rfl, hb5⟩)
    go_ret
    exact ⟨rfl, hb5⟩
  have hN := modOf_spec n 5 (by omega) (by omega)
  have M1 := mod_any n 5 (by omega) (by omega) w
  have hC := modOf_spec cut 20 (by omega) (by omega)
  have M2 := Lib.hid (fun W => mod_any cut 20 (by omega) (by omega) W)
  have NW := Lib.hid (fun k W => new_any k W)
  generalize modOf n 5 = N0 at *
  generalize modOf cut 20 = c at *
  have HG := Lib.hid hg
  have HQ := Lib.hid hq
  have hc20 := hC.2
  have hN5 := hN.2
  clear hg hq hN hC
  go_enter Try.func7, Try.ntmps7
  go_upto_region 4 with (go_at_call 11; refine M1.mono ?_; rintro e w5 ⟨rfl, rfl⟩)
  clear M1
  obtain ⟨N, hNN⟩ : ∃ N : Nat, N = N0 + 1 := ⟨_, rfl⟩
  have j1 : (1 : Int) + (N0 : Int) = (N : Int) := by omega
  rw [j1]
  have hN6 : 1 ≤ N ∧ N ≤ 5 := by omega
  clear hN5 hNN j1
  go_wp2_with fail
  refine (NW.out _ _).mono ?_
  rintro e w1 (⟨N', L, X, hm', -, -, rfl, v, Ka, kc, D⟩ | ⟨h, -, -⟩)
  case inr => omega
  have hm3 : N' = N := by omega
  subst hm3
  clear hm' NW
  have P := D.call' (fun F hF h => cut_any h (HQ.out.below D.bel) (fun a e h0 hFa => by
    have := HQ.out.lt a e h0
    rcases hF _ hFa with h | h
    · exact h
    · omega) hqn (c : Int) (by omega))
  rw [cp_0 N' L X c q qn g] at P
  clear HQ D
  go_wp2_with (go_at_call 11; refine (M2.out _).mono ?_; rintro e w5 ⟨rfl, rfl⟩)
  refine P.mono ?_
  clear P M2
  rintro e w2 ⟨rfl, v2, Ka2, kc2, D2⟩
  have D2 := Lib.hid D2
  go_wp2_with fail
  go_loopw [13] (fun vi wr => ∃ i : Nat, i ≤ m ∧ vi = .int .i64 i ∧ ∃ v Ka kc, Dw w (fun _ => False) wr (cpS N' L X c q qn g i) v Ka kc) (fun i _ => m - (intOf i).toNat)
  case atStart => exact ⟨0, Nat.zero_le _, rfl, _, _, _, D2.out⟩
  case round =>
    clear D2
    obtain ⟨i, hi, rfl, v3, Ka3, kc3, D3⟩ := hrel
    have D := Lib.hid D3
    clear D3
    by_cases hlt : i < m
    · rcases HG.out.row with h0 | ⟨b, off, rfl, hb, hcl⟩
      · omega
      obtain ⟨-, u1, u2, -⟩ := hcl i hlt
      have ST := Lib.hid (cp_step N' L X c q qn g i (by omega))
      have hcn : (cpS N' L X c q qn g i).C.length ≤ 1000 := by have := cp_len N' L X c q qn g i; omega
      have HL : Hid ((cpS N' L X c q qn g i).L = L) := by show _ = _; unfold cpS; split <;> rfl
      clear hcl
      generalize (g i).s = x at *
      generalize (g i).d = y at *
      have KP : Hid (∀ W, Below w.heap.size w W → W.cell? ⟨b, off + i * 5 + 1, none⟩ = some (.int .i64 x) ∧ W.cell? ⟨b, off + i * 5 + 2, none⟩ = some (.int .i64 y)) := fun W hw => ⟨(hw.cell (by exact hb)).trans u1, (hw.cell (by exact hb)).trans u2⟩
      by_cases hic : i < c
      · rw [if_pos hic] at ST
        go_upto_region 15 with fail
        refine wp_region_noPanic ?_
        refine wp_region_held_drew (S := fun W => W.cell? ⟨b, off + i * 5 + 1, none⟩ = some (.int .i64 x) ∧ W.cell? ⟨b, off + i * 5 + 2, none⟩ = some (.int .i64 y)) (by kernel_rfl) (KP.out _ D.out.bel.drew) (fun hHeld => ?_)
        refine wpAnyH_take (i := 0) (v := ?v0) (by simp only [List.getElem?_toArray, List.getElem?_cons_zero]; rfl) (by kernel_rfl) (by kernel_rfl) (by kernel_rfl) (fun _ _ _ h => h) (Or.inl ⟨by rfl, ?y0⟩) hHeld ?_
        case y0 => (intro w hSw; go_simp <;> with_reducible rfl)
        simp only [Act.put, List.setIfInBounds_toArray, List.set_cons_zero, List.set_cons_succ]
        refine wpAnyH_take (i := 1) (v := ?v1) (by simp only [List.getElem?_toArray, List.getElem?_cons_succ, List.getElem?_cons_zero]; rfl) (by kernel_rfl) (by kernel_rfl) (by kernel_rfl) (fun _ _ _ h => h) (Or.inl ⟨by rfl, ?y1⟩) hHeld ?_
        case y1 => (intro w hSw; go_simp <;> with_reducible rfl)
        simp only [Act.put, List.setIfInBounds_toArray, List.set_cons_zero, List.set_cons_succ]
        refine wpAnyH_take (i := 2) (v := ?v2) (by simp only [List.getElem?_toArray, List.getElem?_cons_succ, List.getElem?_cons_zero]; rfl) (by kernel_rfl) (by kernel_rfl) (by kernel_rfl) (fun _ _ _ h => h) (Or.inl ⟨by rfl, ?y2⟩) hHeld ?_
        case y2 => (intro w hSw; go_simp <;> with_reducible rfl)
        simp only [Act.put, List.setIfInBounds_toArray, List.set_cons_zero, List.set_cons_succ]
        refine wpAnyH_take (i := 3) (v := ?v3) (by simp only [List.getElem?_toArray, List.getElem?_cons_succ, List.getElem?_cons_zero]; rfl) (by kernel_rfl) (by kernel_rfl) (by kernel_rfl) (fun _ _ _ h => h) (Or.inl ⟨by rfl, ?y3⟩) hHeld ?_
        case y3 => (intro w hSw; go_simp <;> with_reducible rfl)
        simp only [Act.put, List.setIfInBounds_toArray, List.set_cons_zero, List.set_cons_succ]
        refine wpAnyH_take (i := 4) (v := ?v4) (by simp only [List.getElem?_toArray, List.getElem?_cons_succ, List.getElem?_cons_zero]; rfl) (by kernel_rfl) (by kernel_rfl) (by kernel_rfl) (fun _ _ _ h => h) (Or.inl ⟨by rfl, ?y4⟩) hHeld ?_
        case y4 => (intro w hSw; go_simp <;> with_reducible rfl)
        simp only [Act.put, List.setIfInBounds_toArray, List.set_cons_zero, List.set_cons_succ]
        refine wpAnyH_take (i := 5) (v := ?v5) (by simp only [List.getElem?_toArray, List.getElem?_cons_succ, List.getElem?_cons_zero]; rfl) (by kernel_rfl) (by kernel_rfl) (by kernel_rfl) (fun _ _ _ h => h) (Or.inl ⟨by rfl, ?y5⟩) hHeld ?_
        case y5 => (intro w hSw; go_simp <;> with_reducible rfl)
        simp only [Act.put, List.setIfInBounds_toArray, List.set_cons_zero, List.set_cons_succ]
        refine wpAnyH_take (i := 6) (v := ?v6) (by simp only [List.getElem?_toArray, List.getElem?_cons_succ, List.getElem?_cons_zero]; rfl) (by kernel_rfl) (by kernel_rfl) (by kernel_rfl) (fun _ _ _ h => h) (Or.inl ⟨by rfl, ?y6⟩) hHeld ?_
        case y6 => (intro w hSw; go_simp <;> with_reducible rfl)
        simp only [Act.put, List.setIfInBounds_toArray, List.set_cons_zero, List.set_cons_succ]
        refine wpAnyH_take (i := 8) (v := ?v8) (by simp only [List.getElem?_toArray, List.getElem?_cons_succ, List.getElem?_cons_zero]; rfl) (by kernel_rfl) (by kernel_rfl) (by kernel_rfl) (fun _ _ _ h => h) (Or.inl ⟨by rfl, ?y8⟩) hHeld ?_
        case y8 => (intro w hSw; go_simp <;> with_reducible rfl)
        simp only [Act.put, List.setIfInBounds_toArray, List.set_cons_zero, List.set_cons_succ]
        refine wpAnyH_take (i := 9) (v := ?v9) (by simp only [List.getElem?_toArray, List.getElem?_cons_succ, List.getElem?_cons_zero]; rfl) (by kernel_rfl) (by kernel_rfl) (by kernel_rfl) (fun _ _ _ h => h) (Or.inl ⟨by rfl, ?y9⟩) hHeld ?_
        case y9 => (intro w hSw; go_simp <;> with_reducible rfl)
        simp only [Act.put, List.setIfInBounds_toArray, List.set_cons_zero, List.set_cons_succ]
        refine wpAnyH_take (i := 10) (v := ?v10) (by simp only [List.getElem?_toArray, List.getElem?_cons_succ, List.getElem?_cons_zero]; rfl) (by kernel_rfl) (by kernel_rfl) (by kernel_rfl) (fun _ _ _ h => h) (Or.inl ⟨by rfl, ?y10⟩) hHeld ?_
        case y10 => (intro w hSw; go_simp <;> with_reducible rfl)
        simp only [Act.put, List.setIfInBounds_toArray, List.set_cons_zero, List.set_cons_succ]
        refine wpAnyH_take (i := 11) (v := ?v11) (by simp only [List.getElem?_toArray, List.getElem?_cons_succ, List.getElem?_cons_zero]; rfl) (by kernel_rfl) (by kernel_rfl) (by kernel_rfl) (fun _ _ _ h => h) (Or.inl ⟨by rfl, ?y11⟩) hHeld ?_
        case y11 => (intro w hSw; go_simp <;> with_reducible rfl)
        simp only [Act.put, List.setIfInBounds_toArray, List.set_cons_zero, List.set_cons_succ]
        refine wpAnyH_take (i := 12) (v := ?v12) (by simp only [List.getElem?_toArray, List.getElem?_cons_succ, List.getElem?_cons_zero]; rfl) (by kernel_rfl) (by kernel_rfl) (by kernel_rfl) (fun _ _ _ h => h) (Or.inl ⟨by rfl, ?y12⟩) hHeld ?_
        case y12 => (intro w hSw; go_simp <;> with_reducible rfl)
        simp only [Act.put, List.setIfInBounds_toArray, List.set_cons_zero, List.set_cons_succ]
        refine wpAnyH_take (i := 15) (v := ?v15) (by simp only [List.getElem?_toArray, List.getElem?_cons_succ, List.getElem?_cons_zero]; rfl) (by kernel_rfl) (by kernel_rfl) (by kernel_rfl) (fun _ _ _ h => h) (Or.inl ⟨by rfl, ?y15⟩) hHeld ?_
        case y15 => (intro w hSw; go_simp <;> with_reducible rfl)
        simp only [Act.put, List.setIfInBounds_toArray, List.set_cons_zero, List.set_cons_succ]
        refine wpAnyH_ready (rs := [7]) (by kernel_rfl) (by simp) ?_
        refine AllReadyH.cons (by simp only [List.getElem?_toArray, List.getElem?_cons_succ, List.getElem?_cons_zero]; rfl) (fun K hK => ?_) ?_
        rotate_left
        · exact AllReadyH.nil
        go_simp
        go_at_call 11
        refine (mod_any x N' (by omega) (by omega) _).mono ?_
        rintro e w9 ⟨rfl, rfl⟩
        go_wp2_with fail
        refine hK.out _ _ ?_ (fun hHeld => ?_)
        · exact KP.out _ D.out.bel.drew
        clear hK K
        refine wpAnyH_ready (rs := [13]) (by kernel_rfl) (by simp) ?_
        refine AllReadyH.cons (by simp only [List.getElem?_toArray, List.getElem?_cons_succ, List.getElem?_cons_zero]; rfl) (fun K hK => ?_) ?_
        rotate_left
        · exact AllReadyH.nil
        go_simp
        go_at_call 25
        refine (sec_any y _).mono ?_
        rintro e w9 ⟨rfl, hb9⟩
        go_wp2_with fail
        refine hK.out _ _ ?_ (fun hHeld => ?_)
        · exact KP.out _ (D.out.bel.drew.trans (hb9.mono D.out.bel.size))
        clear hK K
        have D9 := (dw_drew D.out).below hb9
        have P9 := D9.call (fun F h => write_any h (modOf x N' : Nat) (secS y) hcn)
        rw [ST.out, HL.out] at P9
        clear D9
        refine wpAnyH_ready (rs := [14]) (by kernel_rfl) (by simp) ?_
        refine AllReadyH.cons (by simp only [List.getElem?_toArray, List.getElem?_cons_succ, List.getElem?_cons_zero]; rfl) (fun K hK => ?_) ?_
        rotate_left
        · exact AllReadyH.nil
        go_simp
        go_at_call 23
        refine P9.mono ?_
        clear P9
        rintro e w10 ⟨rfl, v10, Ka10, kc10, D10⟩
        go_wp2_with fail
        refine hK.out _ _ ?_ (fun hHeld => ?_)
        · exact KP.out _ D10.bel
        clear hK K
        refine wpAnyH_take (i := 16) (v := ?v16) (by simp only [List.getElem?_toArray, List.getElem?_cons_succ, List.getElem?_cons_zero]; rfl) (by kernel_rfl) (by kernel_rfl) (by kernel_rfl) (fun _ _ _ h => h) (Or.inl ⟨by rfl, ?y16⟩) hHeld ?_
        case y16 => (intro w hSw; go_simp <;> with_reducible rfl)
        simp only [Act.put, List.setIfInBounds_toArray]
        refine wpAnyH_done (by kernel_rfl) ?_ _
        refine NoPanic.normal ?_
        have D11 := Lib.hid D10
        clear D10 hHeld
        go_wp2_with fail
        go_roundw
        case rel => exact ⟨i + 1, by omega, by go_num, _, _, _, D11.out⟩
        case measure => simp [intOf]; omega
      · rw [if_neg hic] at ST
        go_upto_region 15 with fail
        refine wp_region_noPanic ?_
        refine wp_region_held_drew (S := fun W => W.cell? ⟨b, off + i * 5 + 1, none⟩ = some (.int .i64 x) ∧ W.cell? ⟨b, off + i * 5 + 2, none⟩ = some (.int .i64 y)) (by kernel_rfl) (KP.out _ D.out.bel.drew) (fun hHeld => ?_)
        refine wpAnyH_take (i := 0) (v := ?vb0) (by simp only [List.getElem?_toArray, List.getElem?_cons_zero]; rfl) (by kernel_rfl) (by kernel_rfl) (by kernel_rfl) (fun _ _ _ h => h) (Or.inl ⟨by rfl, ?yb0⟩) hHeld ?_
        case yb0 => (intro w hSw; go_simp <;> with_reducible rfl)
        simp only [Act.put, List.setIfInBounds_toArray, List.set_cons_zero, List.set_cons_succ]
        refine wpAnyH_take (i := 1) (v := ?vb1) (by simp only [List.getElem?_toArray, List.getElem?_cons_succ, List.getElem?_cons_zero]; rfl) (by kernel_rfl) (by kernel_rfl) (by kernel_rfl) (fun _ _ _ h => h) (Or.inl ⟨by rfl, ?yb1⟩) hHeld ?_
        case yb1 => (intro w hSw; go_simp <;> with_reducible rfl)
        simp only [Act.put, List.setIfInBounds_toArray, List.set_cons_zero, List.set_cons_succ]
        refine wpAnyH_take (i := 2) (v := ?vb2) (by simp only [List.getElem?_toArray, List.getElem?_cons_succ, List.getElem?_cons_zero]; rfl) (by kernel_rfl) (by kernel_rfl) (by kernel_rfl) (fun _ _ _ h => h) (Or.inl ⟨by rfl, ?yb2⟩) hHeld ?_
        case yb2 => (intro w hSw; go_simp <;> with_reducible rfl)
        simp only [Act.put, List.setIfInBounds_toArray, List.set_cons_zero, List.set_cons_succ]
        refine wpAnyH_take (i := 3) (v := ?vb3) (by simp only [List.getElem?_toArray, List.getElem?_cons_succ, List.getElem?_cons_zero]; rfl) (by kernel_rfl) (by kernel_rfl) (by kernel_rfl) (fun _ _ _ h => h) (Or.inl ⟨by rfl, ?yb3⟩) hHeld ?_
        case yb3 => (intro w hSw; go_simp <;> with_reducible rfl)
        simp only [Act.put, List.setIfInBounds_toArray, List.set_cons_zero, List.set_cons_succ]
        refine wpAnyH_take (i := 4) (v := ?vb4) (by simp only [List.getElem?_toArray, List.getElem?_cons_succ, List.getElem?_cons_zero]; rfl) (by kernel_rfl) (by kernel_rfl) (by kernel_rfl) (fun _ _ _ h => h) (Or.inl ⟨by rfl, ?yb4⟩) hHeld ?_
        case yb4 => (intro w hSw; go_simp <;> with_reducible rfl)
        simp only [Act.put, List.setIfInBounds_toArray, List.set_cons_zero, List.set_cons_succ]
        refine wpAnyH_take (i := 5) (v := ?vb5) (by simp only [List.getElem?_toArray, List.getElem?_cons_succ, List.getElem?_cons_zero]; rfl) (by kernel_rfl) (by kernel_rfl) (by kernel_rfl) (fun _ _ _ h => h) (Or.inl ⟨by rfl, ?yb5⟩) hHeld ?_
        case yb5 => (intro w hSw; go_simp <;> with_reducible rfl)
        simp only [Act.put, List.setIfInBounds_toArray, List.set_cons_zero, List.set_cons_succ]
        refine wpAnyH_take (i := 6) (v := ?vb6) (by simp only [List.getElem?_toArray, List.getElem?_cons_succ, List.getElem?_cons_zero]; rfl) (by kernel_rfl) (by kernel_rfl) (by kernel_rfl) (fun _ _ _ h => h) (Or.inl ⟨by rfl, ?yb6⟩) hHeld ?_
        case yb6 => (intro w hSw; go_simp <;> with_reducible rfl)
        simp only [Act.put, List.setIfInBounds_toArray, List.set_cons_zero, List.set_cons_succ]
        refine wpAnyH_take (i := 8) (v := ?vb8) (by simp only [List.getElem?_toArray, List.getElem?_cons_succ, List.getElem?_cons_zero]; rfl) (by kernel_rfl) (by kernel_rfl) (by kernel_rfl) (fun _ _ _ h => h) (Or.inl ⟨by rfl, ?yb8⟩) hHeld ?_
        case yb8 => (intro w hSw; go_simp <;> with_reducible rfl)
        simp only [Act.put, List.setIfInBounds_toArray, List.set_cons_zero, List.set_cons_succ]
        refine wpAnyH_take (i := 9) (v := ?vb9) (by simp only [List.getElem?_toArray, List.getElem?_cons_succ, List.getElem?_cons_zero]; rfl) (by kernel_rfl) (by kernel_rfl) (by kernel_rfl) (fun _ _ _ h => h) (Or.inl ⟨by rfl, ?yb9⟩) hHeld ?_
        case yb9 => (intro w hSw; go_simp <;> with_reducible rfl)
        simp only [Act.put, List.setIfInBounds_toArray, List.set_cons_zero, List.set_cons_succ]
        refine wpAnyH_take (i := 10) (v := ?vb10) (by simp only [List.getElem?_toArray, List.getElem?_cons_succ, List.getElem?_cons_zero]; rfl) (by kernel_rfl) (by kernel_rfl) (by kernel_rfl) (fun _ _ _ h => h) (Or.inl ⟨by rfl, ?yb10⟩) hHeld ?_
        case yb10 => (intro w hSw; go_simp <;> with_reducible rfl)
        simp only [Act.put, List.setIfInBounds_toArray, List.set_cons_zero, List.set_cons_succ]
        refine wpAnyH_take (i := 11) (v := ?vb11) (by simp only [List.getElem?_toArray, List.getElem?_cons_succ, List.getElem?_cons_zero]; rfl) (by kernel_rfl) (by kernel_rfl) (by kernel_rfl) (fun _ _ _ h => h) (Or.inl ⟨by rfl, ?yb11⟩) hHeld ?_
        case yb11 => (intro w hSw; go_simp <;> with_reducible rfl)
        simp only [Act.put, List.setIfInBounds_toArray, List.set_cons_zero, List.set_cons_succ]
        refine wpAnyH_take (i := 12) (v := ?vb12) (by simp only [List.getElem?_toArray, List.getElem?_cons_succ, List.getElem?_cons_zero]; rfl) (by kernel_rfl) (by kernel_rfl) (by kernel_rfl) (fun _ _ _ h => h) (Or.inl ⟨by rfl, ?yb12⟩) hHeld ?_
        case yb12 => (intro w hSw; go_simp <;> with_reducible rfl)
        simp only [Act.put, List.setIfInBounds_toArray, List.set_cons_zero, List.set_cons_succ]
        refine wpAnyH_take (i := 15) (v := ?vb15) (by simp only [List.getElem?_toArray, List.getElem?_cons_succ, List.getElem?_cons_zero]; rfl) (by kernel_rfl) (by kernel_rfl) (by kernel_rfl) (fun _ _ _ h => h) (Or.inl ⟨by rfl, ?yb15⟩) hHeld ?_
        case yb15 => (intro w hSw; go_simp <;> with_reducible rfl)
        simp only [Act.put, List.setIfInBounds_toArray, List.set_cons_zero, List.set_cons_succ]
        refine wpAnyH_ready (rs := [7]) (by kernel_rfl) (by simp) ?_
        refine AllReadyH.cons (by simp only [List.getElem?_toArray, List.getElem?_cons_succ, List.getElem?_cons_zero]; rfl) (fun K hK => ?_) ?_
        rotate_left
        · exact AllReadyH.nil
        go_simp
        go_at_call 11
        refine (mod_any x N' (by omega) (by omega) _).mono ?_
        rintro e w9 ⟨rfl, rfl⟩
        go_wp2_with fail
        refine hK.out _ _ ?_ (fun hHeld => ?_)
        · exact KP.out _ D.out.bel.drew
        clear hK K
        refine wpAnyH_ready (rs := [13]) (by kernel_rfl) (by simp) ?_
        refine AllReadyH.cons (by simp only [List.getElem?_toArray, List.getElem?_cons_succ, List.getElem?_cons_zero]; rfl) (fun K hK => ?_) ?_
        rotate_left
        · exact AllReadyH.nil
        go_simp
        go_at_call 25
        refine (sec_any y _).mono ?_
        rintro e w9 ⟨rfl, hb9⟩
        go_wp2_with fail
        refine hK.out _ _ ?_ (fun hHeld => ?_)
        · exact KP.out _ (D.out.bel.drew.trans (hb9.mono D.out.bel.size))
        clear hK K
        have D9 := (dw_drew D.out).below hb9
        have P9 := D9.call (fun F h => write_any h (modOf x N' : Nat) (secS y) hcn)
        rw [ST.out, HL.out] at P9
        clear D9
        refine wpAnyH_ready (rs := [14]) (by kernel_rfl) (by simp) ?_
        refine AllReadyH.cons (by simp only [List.getElem?_toArray, List.getElem?_cons_succ, List.getElem?_cons_zero]; rfl) (fun K hK => ?_) ?_
        rotate_left
        · exact AllReadyH.nil
        go_simp
        go_at_call 23
        refine P9.mono ?_
        clear P9
        rintro e w10 ⟨rfl, v10, Ka10, kc10, D10⟩
        go_wp2_with fail
        refine hK.out _ _ ?_ (fun hHeld => ?_)
        · exact KP.out _ D10.bel
        clear hK K
        refine wpAnyH_take (i := 16) (v := ?vb16) (by simp only [List.getElem?_toArray, List.getElem?_cons_succ, List.getElem?_cons_zero]; rfl) (by kernel_rfl) (by kernel_rfl) (by kernel_rfl) (fun _ _ _ h => h) (Or.inl ⟨by rfl, ?yb16⟩) hHeld ?_
        case yb16 => (intro w hSw; go_simp <;> with_reducible rfl)
        simp only [Act.put, List.setIfInBounds_toArray]
        refine wpAnyH_done (by kernel_rfl) ?_ _
        refine NoPanic.normal ?_
        have D11 := Lib.hid D10
        clear D10 hHeld
        go_wp2_with fail
        go_roundw
        case rel => exact ⟨i + 1, by omega, by go_num, _, _, _, D11.out⟩
        case measure => simp [intOf]; omega
    · have him : i = m := by omega
      subst him
      clear hlt
      by_cases hic : i ≤ c
      · have E : cpS N' L X c q qn g i = cpA N' L X c q qn g i := by unfold cpS; rw [if_pos hic]
        rw [E] at D
        clear E
        have P := D.out.call (fun F h => on_any h)
        rw [show onS (cpA N' L X c q qn g i) = cpA N' L X c q qn g i from rfl, show onR (cpA N' L X c q qn g i) = 9 from rfl] at P
        have hic2 : (i : Int) ≤ (c : Int) := by omega
        go_wp2_with fail
        refine P.mono ?_
        clear P
        rintro e w4 ⟨rfl, v4, Ka4, kc4, D4⟩
        have B4 := Lib.hid D4.bel
        obtain ⟨F4, hk4⟩ := D4.dk
        have P := pend_any hk4
        rw [show (cpA N' L X c q qn g i).C.length = i from wlN_len _ _ _] at P
        clear hk4 D4
        go_wp2_with fail
        refine P.mono ?_
        clear P
        rintro e w5 ⟨rfl, rfl⟩
        go_wp2_with (go_at_call 10; refine (AW.out _).mono ?_; rintro e w6 ⟨rfl, hb6⟩)
        go_ret
        exact ⟨rfl, bel2 B4.out hb6⟩
      · have E : cpS N' L X c q qn g i = loS (cpA N' L X c q qn g c) q qn := by unfold cpS; rw [if_neg hic]
        rw [E] at D
        have hic2 : ¬ (i : Int) ≤ (c : Int) := by omega
        obtain ⟨SB, hSB⟩ : ∃ SB, loS (cpA N' L X c q qn g c) q qn = SB := ⟨_, rfl⟩
        have f1 : SB.off = true := by rw [← hSB]; rfl
        have f2 : SB.C = [] := by rw [← hSB]; rfl
        have f3 : SB.L = L := by rw [← hSB]; rfl
        have f4 : SB.pl = false := by rw [← hSB]; rfl
        have f5 : SB.n = N' := by rw [← hSB]; rfl
        rw [hSB] at D
        clear E hSB
        have P := D.out.call (fun F h => flush_any h)
        rw [show flS SB = SB by unfold flS; rw [f1]; rfl, show flR SB = 16 by unfold flR; rw [f1]; rfl, f3] at P
        go_wp2_with fail
        refine P.mono ?_
        clear P D
        rintro e w4 ⟨rfl, v4, Ka4, kc4, D4⟩
        obtain ⟨F4, hk4⟩ := D4.dk
        have P := pend_any hk4
        rw [show SB.C.length = 0 by rw [f2]; rfl, f3] at P
        clear hk4
        have D4 := Lib.hid D4
        go_wp2_with fail
        refine P.mono ?_
        clear P
        rintro e w5 ⟨rfl, rfl⟩
        have P := D4.out.call (fun F h => off_any h (bs_nil w4 (fun _ => false)) (fun a e => by cases e))
        rw [show offS SB (fun _ => false) 0 = SB by unfold offS; rw [f1]; rfl, show offR SB = 9 by unfold offR; rw [f1]; rfl, f3] at P
        clear D4
        go_wp2_with fail
        refine P.mono ?_
        clear P
        rintro e w6 ⟨rfl, v6, Ka6, kc6, D6⟩
        have P := D6.call (fun F h => on_any h)
        rw [show onS SB = { SB with C := wlN g N' 0, off := false } by unfold onS; rw [f1, if_pos rfl, f2]; rfl, show onR SB = 0 by unfold onR; rw [f1]; rfl, f3] at P
        clear D6
        go_wp2_with fail
        refine P.mono ?_
        clear P
        rintro e w7 ⟨rfl, v7, Ka7, kc7, D7⟩
        have D7 := Lib.hid D7
        go_wp2_with fail
        go_loopw [15] (fun vi wr => ∃ k : Nat, k ≤ i ∧ vi = .int .i64 k ∧ ∃ v Ka kc, Dw w (fun _ => False) wr { SB with C := wlN g N' k, off := false } v Ka kc) (fun v _ => i - (intOf v).toNat)
        case atStart => exact ⟨0, Nat.zero_le _, rfl, v7, Ka7, kc7, by rw [f3]; exact D7.out⟩
        case round =>
          clear D7
          obtain ⟨k, hk, rfl, v3, Ka3, kc3, D3⟩ := hrel
          have D := Lib.hid D3
          clear D3
          by_cases hlt : k < i
          · rcases HG.out.row with h0 | ⟨b, off, rfl, hb, hcl⟩
            · omega
            obtain ⟨-, u1, u2, -⟩ := hcl k hlt
            have ST := Lib.hid (wr_plain (s := { SB with off := false }) (g := g) (N := N') (i := k) f5 (by omega) rfl f4)
            have hcn : (wlN g N' k).length ≤ 1000 := by rw [wlN_len]; omega
            clear hcl
            generalize (g k).s = x at *
            generalize (g k).d = y at *
            have KP : Hid (∀ W, Below w.heap.size w W → W.cell? ⟨b, off + k * 5 + 1, none⟩ = some (.int .i64 x) ∧ W.cell? ⟨b, off + k * 5 + 2, none⟩ = some (.int .i64 y)) := fun W hw => ⟨(hw.cell (by exact hb)).trans u1, (hw.cell (by exact hb)).trans u2⟩
            go_upto_region 24 with fail
            refine wp_region_noPanic ?_
            refine wp_region_held_drew (S := fun W => W.cell? ⟨b, off + k * 5 + 1, none⟩ = some (.int .i64 x) ∧ W.cell? ⟨b, off + k * 5 + 2, none⟩ = some (.int .i64 y)) (by kernel_rfl) (KP.out _ D.out.bel.drew) (fun hHeld => ?_)
            refine wpAnyH_take (i := 0) (v := ?vc0) (by simp only [List.getElem?_toArray, List.getElem?_cons_zero]; rfl) (by kernel_rfl) (by kernel_rfl) (by kernel_rfl) (fun _ _ _ h => h) (Or.inl ⟨by rfl, ?yc0⟩) hHeld ?_
            case yc0 => (intro w hSw; go_simp <;> with_reducible rfl)
            simp only [Act.put, List.setIfInBounds_toArray, List.set_cons_zero, List.set_cons_succ]
            refine wpAnyH_take (i := 1) (v := ?vc1) (by simp only [List.getElem?_toArray, List.getElem?_cons_succ, List.getElem?_cons_zero]; rfl) (by kernel_rfl) (by kernel_rfl) (by kernel_rfl) (fun _ _ _ h => h) (Or.inl ⟨by rfl, ?yc1⟩) hHeld ?_
            case yc1 => (intro w hSw; go_simp <;> with_reducible rfl)
            simp only [Act.put, List.setIfInBounds_toArray, List.set_cons_zero, List.set_cons_succ]
            refine wpAnyH_take (i := 2) (v := ?vc2) (by simp only [List.getElem?_toArray, List.getElem?_cons_succ, List.getElem?_cons_zero]; rfl) (by kernel_rfl) (by kernel_rfl) (by kernel_rfl) (fun _ _ _ h => h) (Or.inl ⟨by rfl, ?yc2⟩) hHeld ?_
            case yc2 => (intro w hSw; go_simp <;> with_reducible rfl)
            simp only [Act.put, List.setIfInBounds_toArray, List.set_cons_zero, List.set_cons_succ]
            refine wpAnyH_take (i := 3) (v := ?vc3) (by simp only [List.getElem?_toArray, List.getElem?_cons_succ, List.getElem?_cons_zero]; rfl) (by kernel_rfl) (by kernel_rfl) (by kernel_rfl) (fun _ _ _ h => h) (Or.inl ⟨by rfl, ?yc3⟩) hHeld ?_
            case yc3 => (intro w hSw; go_simp <;> with_reducible rfl)
            simp only [Act.put, List.setIfInBounds_toArray, List.set_cons_zero, List.set_cons_succ]
            refine wpAnyH_take (i := 4) (v := ?vc4) (by simp only [List.getElem?_toArray, List.getElem?_cons_succ, List.getElem?_cons_zero]; rfl) (by kernel_rfl) (by kernel_rfl) (by kernel_rfl) (fun _ _ _ h => h) (Or.inl ⟨by rfl, ?yc4⟩) hHeld ?_
            case yc4 => (intro w hSw; go_simp <;> with_reducible rfl)
            simp only [Act.put, List.setIfInBounds_toArray, List.set_cons_zero, List.set_cons_succ]
            refine wpAnyH_take (i := 5) (v := ?vc5) (by simp only [List.getElem?_toArray, List.getElem?_cons_succ, List.getElem?_cons_zero]; rfl) (by kernel_rfl) (by kernel_rfl) (by kernel_rfl) (fun _ _ _ h => h) (Or.inl ⟨by rfl, ?yc5⟩) hHeld ?_
            case yc5 => (intro w hSw; go_simp <;> with_reducible rfl)
            simp only [Act.put, List.setIfInBounds_toArray, List.set_cons_zero, List.set_cons_succ]
            refine wpAnyH_take (i := 6) (v := ?vc6) (by simp only [List.getElem?_toArray, List.getElem?_cons_succ, List.getElem?_cons_zero]; rfl) (by kernel_rfl) (by kernel_rfl) (by kernel_rfl) (fun _ _ _ h => h) (Or.inl ⟨by rfl, ?yc6⟩) hHeld ?_
            case yc6 => (intro w hSw; go_simp <;> with_reducible rfl)
            simp only [Act.put, List.setIfInBounds_toArray, List.set_cons_zero, List.set_cons_succ]
            refine wpAnyH_take (i := 8) (v := ?vc8) (by simp only [List.getElem?_toArray, List.getElem?_cons_succ, List.getElem?_cons_zero]; rfl) (by kernel_rfl) (by kernel_rfl) (by kernel_rfl) (fun _ _ _ h => h) (Or.inl ⟨by rfl, ?yc8⟩) hHeld ?_
            case yc8 => (intro w hSw; go_simp <;> with_reducible rfl)
            simp only [Act.put, List.setIfInBounds_toArray, List.set_cons_zero, List.set_cons_succ]
            refine wpAnyH_take (i := 9) (v := ?vc9) (by simp only [List.getElem?_toArray, List.getElem?_cons_succ, List.getElem?_cons_zero]; rfl) (by kernel_rfl) (by kernel_rfl) (by kernel_rfl) (fun _ _ _ h => h) (Or.inl ⟨by rfl, ?yc9⟩) hHeld ?_
            case yc9 => (intro w hSw; go_simp <;> with_reducible rfl)
            simp only [Act.put, List.setIfInBounds_toArray, List.set_cons_zero, List.set_cons_succ]
            refine wpAnyH_take (i := 10) (v := ?vc10) (by simp only [List.getElem?_toArray, List.getElem?_cons_succ, List.getElem?_cons_zero]; rfl) (by kernel_rfl) (by kernel_rfl) (by kernel_rfl) (fun _ _ _ h => h) (Or.inl ⟨by rfl, ?yc10⟩) hHeld ?_
            case yc10 => (intro w hSw; go_simp <;> with_reducible rfl)
            simp only [Act.put, List.setIfInBounds_toArray, List.set_cons_zero, List.set_cons_succ]
            refine wpAnyH_take (i := 11) (v := ?vc11) (by simp only [List.getElem?_toArray, List.getElem?_cons_succ, List.getElem?_cons_zero]; rfl) (by kernel_rfl) (by kernel_rfl) (by kernel_rfl) (fun _ _ _ h => h) (Or.inl ⟨by rfl, ?yc11⟩) hHeld ?_
            case yc11 => (intro w hSw; go_simp <;> with_reducible rfl)
            simp only [Act.put, List.setIfInBounds_toArray, List.set_cons_zero, List.set_cons_succ]
            refine wpAnyH_take (i := 12) (v := ?vc12) (by simp only [List.getElem?_toArray, List.getElem?_cons_succ, List.getElem?_cons_zero]; rfl) (by kernel_rfl) (by kernel_rfl) (by kernel_rfl) (fun _ _ _ h => h) (Or.inl ⟨by rfl, ?yc12⟩) hHeld ?_
            case yc12 => (intro w hSw; go_simp <;> with_reducible rfl)
            simp only [Act.put, List.setIfInBounds_toArray, List.set_cons_zero, List.set_cons_succ]
            refine wpAnyH_ready (rs := [7]) (by kernel_rfl) (by simp) ?_
            refine AllReadyH.cons (by simp only [List.getElem?_toArray, List.getElem?_cons_succ, List.getElem?_cons_zero]; rfl) (fun K hK => ?_) ?_
            rotate_left
            · exact AllReadyH.nil
            go_simp
            go_at_call 11
            refine (mod_any x N' (by omega) (by omega) _).mono ?_
            rintro e w9 ⟨rfl, rfl⟩
            go_wp2_with fail
            refine hK.out _ _ ?_ (fun hHeld => ?_)
            · exact KP.out _ D.out.bel.drew
            clear hK K
            refine wpAnyH_ready (rs := [13]) (by kernel_rfl) (by simp) ?_
            refine AllReadyH.cons (by simp only [List.getElem?_toArray, List.getElem?_cons_succ, List.getElem?_cons_zero]; rfl) (fun K hK => ?_) ?_
            rotate_left
            · exact AllReadyH.nil
            go_simp
            go_at_call 25
            refine (sec_any y _).mono ?_
            rintro e w9 ⟨rfl, hb9⟩
            go_wp2_with fail
            refine hK.out _ _ ?_ (fun hHeld => ?_)
            · exact KP.out _ (D.out.bel.drew.trans (hb9.mono D.out.bel.size))
            clear hK K
            have D9 := (dw_drew D.out).below hb9
            have P9 := D9.call (fun F h => write_any h (modOf x N' : Nat) (secS y) hcn)
            rw [ST.out, show ({ SB with C := wlN g N' k, off := false } : DkS).L = L from f3] at P9
            clear D9
            refine wpAnyH_ready (rs := [14]) (by kernel_rfl) (by simp) ?_
            refine AllReadyH.cons (by simp only [List.getElem?_toArray, List.getElem?_cons_succ, List.getElem?_cons_zero]; rfl) (fun K hK => ?_) ?_
            rotate_left
            · exact AllReadyH.nil
            go_simp
            go_at_call 23
            refine P9.mono ?_
            clear P9
            rintro e w10 ⟨rfl, v10, Ka10, kc10, D10⟩
            go_wp2_with fail
            refine hK.out _ _ ?_ (fun hHeld => ?_)
            · exact KP.out _ D10.bel
            clear hK K
            refine wpAnyH_take (i := 15) (v := ?vc15) (by simp only [List.getElem?_toArray, List.getElem?_cons_succ, List.getElem?_cons_zero]; rfl) (by kernel_rfl) (by kernel_rfl) (by kernel_rfl) (fun _ _ _ h => h) (Or.inl ⟨by rfl, ?yc15⟩) hHeld ?_
            case yc15 => (intro w hSw; go_simp <;> with_reducible rfl)
            simp only [Act.put, List.setIfInBounds_toArray]
            refine wpAnyH_done (by kernel_rfl) ?_ _
            refine NoPanic.normal ?_
            have D11 := Lib.hid D10
            clear D10 hHeld
            go_wp2_with fail
            go_roundw
            case rel => exact ⟨k + 1, by omega, by go_num, v10, Ka10, kc10, by rw [f3]; exact D11.out⟩
            case measure => simp [intOf]; omega
          · have B7 := Lib.hid D.out.bel
            clear D
            go_wp2_with (go_at_call 10; refine (AW.out _).mono ?_; rintro e w8 ⟨rfl, hb8⟩)
            go_ret
            exact ⟨rfl, bel2 B7.out hb8⟩
theorem cut_walk (n : Int) (A : Option Addr) (m cc : Nat) (g : Nat → Cl) (cut : Int) (Ak : Option Addr) (qn kcc : Nat) (q : Nat → Bool) (w : World) (_ : (Lit.int .i64 n).wf = true) (hg : Cs w A m g) (_ : (Lit.int .i64 cut).wf = true) (hq : Bs w Ak qn kcc q ∧ qn ≤ 140737488355328) :
    Calls Try.prog 7 #[.int .i64 n, .slice A m cc, .int .i64 cut, .slice Ak qn kcc] w (LawPost w) := cut_rest n cut A m cc g Ak qn kcc q w hg hq.1 hq.2
end Go.Proofs.Ytoafoikphpdimaa
