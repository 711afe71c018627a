/- BlockdevContentsAreCopies: the walk. -/
import Derived.Test.YtoafoikphpdimaaKpp
import Derived.Laws.AppendOwnNone
namespace Go.Proofs.Ytoafoikphpdimaa
open Go.ChangeShapes Go.WideShapes Go.ChangeAt Go.RowKit Go.Deep Go.Joins

def bools (n : Nat) (q : Nat → Bool) : List Value := (List.range n).map fun i => .bool (q i)
theorem bools_set (n : Nat) (q : Nat → Bool) (i : Nat) (h : i < n) (b : Bool) : (bools n q).set i (.bool b) = bools n (fun j => if j = i then b else q j) := by
  apply List.ext_getElem?
  intro j
  rw [List.getElem?_set]
  unfold bools
  simp only [List.getElem?_map, List.length_map, List.length_range]
  by_cases hj : i = j
  · subst hj
    rw [if_pos rfl, if_pos h, List.getElem?_range h]
    simp
  · rw [if_neg hj]
    by_cases hjn : j < n
    · rw [List.getElem?_range hjn]
      simp only [Option.map_some]
      rw [if_neg (fun e => hj e.symm)]
    · rw [List.getElem?_eq_none (by simp; omega)]
      rfl
theorem cp_S (N L X L2 X2 c : Nat) (q : Nat → Bool) (qn : Nat) (g : Nat → Cl) (i : Nat) : (cpS N L X c q qn g i).S = (cpS N L2 X2 c q qn g i).S := by
  unfold cpS
  split <;> rfl
/-- The copy of the list. -/
def MR (B qn : Nat) (q : Nat → Bool) (w : World) (v : Value) (wx : World) : Prop := ∃ A c, v = .slice A qn c ∧ Bs wx A qn c q ∧ (∀ a, A = some a → B ≤ a.block ∧ a.block < wx.heap.size) ∧ wx.ownsRow B 4 1 (.slice A qn c) qn (bools qn q) ∧ Below B w wx
theorem mr_own {B qn : Nat} {q : Nat → Bool} {w wx : World} {v : Value} (h : wx.ownsRow B 4 1 v qn (bools qn q)) (hb : Below B w wx) (hB : B ≤ w.heap.size) : MR B qn q w v wx := by
  obtain ⟨A, c, rfl, h1, h2⟩ := own_bs h (by have := hb.size; omega)
  exact ⟨A, c, rfl, h1, fun a e => ⟨h2 a e, by
    subst e
    rcases h.2 with ⟨h0, _⟩ | ⟨g, cap, cur, h3, _, hg, _⟩
    · cases h0
    · injection h3 with h3 _ _
      injection h3 with h3
      rw [h3]
      exact blk_lt hg⟩, h, hb⟩
set_option maxRecDepth 20000 in
set_option maxHeartbeats 16000000 in
theorem cop_rest (A : Option Addr) (m cc : Nat) (g : Nat → Cl) (Ak : Option Addr) (qn kcc : Nat) (q : Nat → Bool) (w : World) (hg : Cs w A m g) (hq : Bs w Ak qn kcc q) (hqn : qn ≤ 140737488355328) :
    Calls Try.prog 8 #[.slice A m cc, .slice Ak qn kcc] w (LawP w) := by
  have AW := Lib.hid (fun W => awake_any W)
  by_cases hm : 20 < m
  · have hm2 : (20 : Int) < (m : Int) := by omega
    clear hg hq
    go_enter Try.func8, Try.ntmps8
    go_wp2_with (go_at_call 10; refine (AW.out _).mono ?_; rintro e w5 ⟨rfl, hb5⟩)
    go_ret
    exact ⟨rfl, hb5⟩
  by_cases hm0 : m = 0
  · subst hm0
    clear hg hq
    go_enter Try.func8, Try.ntmps8
    go_wp2_with (go_at_call 10; refine (AW.out _).mono ?_; rintro e w5 ⟨rfl, hb5⟩)
    go_ret
    exact ⟨rfl, hb5⟩
  obtain ⟨c, hcm⟩ : ∃ c, c + 1 = m := ⟨m - 1, by omega⟩
  have jz : ((m : Int) == 0) = false := beq_eq_false_iff_ne.2 (by omega)
  have HC := Lib.hid hcm
  clear hcm
  have NW := Lib.hid (fun k W => new_any k W)
  have HG := Lib.hid hg
  have HQ := Lib.hid hq
  clear hg hq hm0
  go_enter Try.func8, Try.ntmps8
  go_wp2_with fail
  refine (NW.out _ _).mono ?_
  rintro e w1 (⟨N', L, X, hm', -, -, rfl, v, Ka, kc, D⟩ | ⟨h, -, -⟩)
  case inr => omega
  have hm3 : N' = 3 := by omega
  subst hm3
  clear hm'
  have D := Lib.hid (D1.of_dw D)
  go_wp2_with fail
  refine (NW.out _ _).mono ?_
  rintro e w2 (⟨N2, L2, X2, hm', -, -, rfl, v2, Ka2, kc2, E⟩ | ⟨h, -, -⟩)
  case inr => omega
  have hm3 : N2 = 3 := by omega
  subst hm3
  clear hm' NW
  have D := Lib.hid (D.out.pair E)
  clear E
  obtain ⟨i0, hi0, hzz⟩ := Option.map_eq_some_iff.1 info4
  simp only [Prod.mk.injEq] at hzz
  obtain ⟨hz0, hs0, hb0⟩ := hzz
  have HI := Lib.hid (And.intro hi0 (And.intro hz0 (And.intro hs0 hb0)))
  clear hi0 hz0 hs0 hb0
  have HQ2 := Lib.hid (HQ.out.below D.out.bel)
  go_upto_region 7 with fail
  go_cut [9] (fun v wx => MR w2.heap.size qn q w2 v wx)
  case first =>
    have B2 : Below w2.heap.size w2 (w2.alloc (.cells #[] 4)) := (Below.refl _ w2).alloc (Nat.le_refl _) _
    have own : (w2.alloc (.cells #[] 4)).ownsRow w2.heap.size 4 1 (.slice (some ⟨w2.heap.size, 0, none⟩) 0 0) 0 [] :=
      ⟨rfl, .inr ⟨w2.heap.size, 0, #[], rfl, Nat.le_refl _, heap_alloc_new w2 _, Nat.le_refl _, by omega, rfl, rfl⟩⟩
    cases Ak with
    | none =>
      obtain ⟨rfl, rfl⟩ := HQ.out.nil rfl
      go_wp2_with (at_builtin; refine wpList_append_own_none rfl (.tmp 44) (.tmp 45) 34 rfl w2.heap.size 4 i0 1 Try.underlying34 HI.out.1 _ 0 [] rfl own rfl ?_)
      go_meet
      exact mr_own own B2 (Nat.le_refl _)
    | some T =>
      have NWS : Hid (∀ (j : Nat) (u : Value), (bools qn q)[j]? = some u → (w2.alloc (.cells #[] 4)).cell? (T.add j) = some u) := fun j u hu => by
        have hj : j < qn := by
          have := (List.getElem?_eq_some_iff.1 hu).1
          simpa [bools] using this
        unfold bools at hu
        rw [List.getElem?_map, List.getElem?_range hj] at hu
        rcases (HQ2.out.below B2).row with h0 | ⟨b, off, hT, _, hc⟩
        · omega
        · injection hT with hT
          subst hT
          rw [add_plain, hc j hj]
          exact hu
      have ONE : Hid (∀ u ∈ bools qn q, u.oneCell' = true) := fun u hu => by
        obtain ⟨i, _, rfl⟩ := List.mem_map.1 hu
        rfl
      have LN : (bools qn q).length = qn * 1 := by simp [bools]
      go_wp2_with (at_builtin; refine wpList_append_own _ rfl (.tmp 44) (.tmp 45) 34 rfl w2.heap.size 4 i0 _ 1 1 Try.underlying34 HI.out.1 HI.out.2.1 HI.out.2.2.1 HI.out.2.2.2 rfl (by decide) _ 0 [] rfl own T qn kcc (bools qn q) rfl LN NWS.out ONE.out ?c3 ?c4 ?c5 ?_)
      case c3 => unfold maxLen; omega
      case c4 => omega
      case c5 => exact B2.size
      intro v' w3 hown hgr hiff
      have hown : w3.ownsRow w2.heap.size 4 1 v' qn (bools qn q) := by simpa using hown
      have B3 : Below w2.heap.size w2 w3 := B2.grown hgr B2.size (fun k hk => by simp [Value.ownBlock] at hk; omega)
      have M := Lib.hid (mr_own hown B3 (Nat.le_refl _))
      clear hown hgr hiff B3 B2 NWS ONE LN own
      go_wp2
      go_meet
      exact M.out
  case rest =>
  obtain ⟨Am, cm, rfl, MB, hAm, MO, hb3⟩ := hcut
  have hB0 : w.heap.size ≤ w2.heap.size := D.out.bel.size
  have hK := Lib.hid (HQ.out.below (bel2 D.out.bel hb3))
  have D3 : Hid (D2 w wc (fun b => ∃ a, Am = some a ∧ b = a.block) (s0 3 L X) (s0 3 L2 X2)) := D.out.more hb3 (fun b e => by
    obtain ⟨a, e1, rfl⟩ := e
    exact .inr (hAm a e1))
  clear D HI HQ2
  have jc : (m : Int) - 1 = (c : Int) := by have := HC.out; omega
  have P := D3.out.callA (fun F v Ka kc h hF hO => cut_any h MB (fun a e h0 => hO _ ⟨a, e, rfl⟩) hqn (c : Int) (by have := HC.out; omega))
  rw [cp_0 3 L X c q qn g, ← jc] at P
  have MOK := Lib.hid MO
  have JC := Lib.hid jc
  clear jc
  have hKL := hK.out.lt
  clear MO MB hAm
  go_wp2_with fail
  refine P.mono ?_
  clear P
  rintro e w4 ⟨rfl, D4, hs4, hk4⟩
  have hK2 : Hid (Bs w4 Ak qn kcc q) := HQ.out.below D4.bel
  have MO4 := Lib.hid (own_keep MOK.out (w' := w4) (fun k hk => hk4 k (by
    cases Am with
    | none => cases hk
    | some a => exact ⟨a, rfl, by injection hk with hk; exact hk.symm⟩)))
  have P := D4.callB (fun F v Ka kc h hF hO => cut_any h hK2.out (fun a e h0 hf => by
    have := HQ.out.lt a e h0
    have := hF _ hf
    omega) hqn (c : Int) (by have := HC.out; omega))
  rw [cp_0 3 L2 X2 c q qn g, ← JC.out] at P
  clear D4 hs4 hk4 hK2 MOK D3 hK hKL hb3
  go_wp2_with fail
  refine P.mono ?_
  clear P
  rintro e w5 ⟨rfl, D5, hs5, hk5⟩
  have MO5 := Lib.hid (own_keep MO4.out (w' := w5) (fun k hk => hk5 k (by
    cases Am with
    | none => cases hk
    | some a => exact ⟨a, rfl, by injection hk with hk; exact hk.symm⟩)))
  have D5 := Lib.hid D5
  clear MO4 hk5 hs5
  generalize w2.heap.size = B at *
  go_wp2_with fail
  go_loopw [10] (fun vi wr => ∃ i : Nat, i ≤ qn ∧ vi = .int .i64 i ∧ D2 w wr (fun b => ∃ a, Am = some a ∧ b = a.block) (cpS 3 L X c q qn g 0) (cpS 3 L2 X2 c q qn g 0) ∧ ∃ q', wr.ownsRow B 4 1 (.slice Am qn cm) qn (bools qn q')) (fun i _ => qn - (intOf i).toNat)
  case atStart => exact ⟨0, Nat.zero_le _, rfl, D5.out, q, MO5.out⟩
  case round =>
    clear D5 MO5
    obtain ⟨i, hi, rfl, D, q', MO⟩ := hrel
    have D := Lib.hid D
    by_cases hlt : i < qn
    · obtain ⟨G, cx, e⟩ := own_form MO (by omega)
      injection e with e1 e2 e3
      subst e1 e3
      clear e2
      have hlG := MO.lt G rfl
      have ck : wr.cell? ⟨G, i, none⟩ = some (.bool (q' i)) := by
        rw [MO.cellAt i (by omega)]
        unfold bools
        rw [List.getElem?_map, List.getElem?_range hlt]
        rfl
      have fk := MO.frozenAt i
      have NX := Lib.hid (MO.stored i (.bool (!q' i))).1
      rw [bools_set qn q' i hlt] at NX
      have ND := Lib.hid (D.out.setO (G := G) ⟨_, rfl, rfl⟩ (by omega) i (.bool (!q' i)))
      clear MO D
      go_wp2_with fail
      go_roundw
      case rel => exact ⟨i + 1, by omega, by go_num, ND.out, _, NX.out⟩
      case measure => simp [intOf]; omega
    · have D0 : Hid (D2 w wr (fun _ => False) (cpS 3 L X c q qn g 0) (cpS 3 L2 X2 c q qn g 0)) := D.out.more (Below.refl _ _) (fun b h => h.elim)
      clear D MO
      go_wp2_with fail
      go_loopw [11] (fun vi wr => ∃ i : Nat, i ≤ m ∧ vi = .int .i64 i ∧ D2 w wr (fun _ => False) (cpS 3 L X c q qn g i) (cpS 3 L2 X2 c q qn g i)) (fun i _ => m - (intOf i).toNat)
      case atStart => exact ⟨0, Nat.zero_le _, rfl, D0.out⟩
      case round =>
        clear D0
        obtain ⟨i, hi, rfl, D⟩ := hrel
        have HLA : Hid ((cpS 3 L X c q qn g i).L = L) := by show _ = _; unfold cpS; split <;> rfl
        have HLB : Hid ((cpS 3 L2 X2 c q qn g i).L = L2) := by show _ = _; unfold cpS; split <;> rfl
        by_cases hlt : i < m
        · rcases HG.out.row with h0 | ⟨b, off, rfl, hb, hcl⟩
          · omega
          obtain ⟨-, u1, u2, -⟩ := hcl i hlt
          have STA := Lib.hid (cp_step 3 L X c q qn g i (by omega))
          have STB := Lib.hid (cp_step 3 L2 X2 c q qn g i (by omega))
          generalize (if i < c then (0 : Int) else 16) = rr at STA STB
          have jr : (rr != rr) = false := by simp
          have hcna : (cpS 3 L X c q qn g i).C.length ≤ 1000 := by have := cp_len 3 L X c q qn g i; omega
          have hcnb : (cpS 3 L2 X2 c q qn g i).C.length ≤ 1000 := by have := cp_len 3 L2 X2 c q qn g i; omega
          clear hcl
          generalize (g i).s = x at *
          generalize (g i).d = y at *
          have KP : Hid (∀ W, Below w.heap.size w W → W.cell? ⟨b, off + i * 5 + 1, none⟩ = some (.int .i64 x) ∧ W.cell? ⟨b, off + i * 5 + 2, none⟩ = some (.int .i64 y)) := fun W hw => ⟨(hw.cell (by exact hb)).trans u1, (hw.cell (by exact hb)).trans u2⟩
          obtain ⟨F5, v5, Ka5, kc5, h5⟩ := D.one.dk
          have hl3 : (cpS 3 L X c q qn g i).S.length = 3 := by rw [h5.len]; unfold cpS; split <;> rfl
          have P := cont_any h5
          rw [HLA.out] at P
          clear h5
          have D := Lib.hid D
          go_wp2_with fail
          refine P.mono ?_
          clear P
          rintro e w6 ⟨g6, c6, rfl, hr6, hb6⟩
          rw [hl3] at hr6
          rw [hl3]
          clear hl3
          have hg6 := hr6.lt g6 rfl
          have D6 := Lib.hid (D.out.more hb6 (O' := fun b => b = g6) (fun b e => .inr (by subst e; exact hg6)))
          have i3 : (i : Int).tmod 3 = ((i % 3 : Nat) : Int) := by rw [Int.tmod_eq_emod_of_nonneg (by omega)]; omega
          have hi3 : i % 3 < 3 := Nat.mod_lt _ (by omega)
          generalize i % 3 = r at *
          obtain ⟨ck, hck⟩ : ∃ ck, w6.cell? ⟨g6, r, none⟩ = some ck := ⟨_, by rw [hr6.cellAt r (by omega)]; exact List.getElem?_eq_getElem (by rw [hr6.1]; omega)⟩
          have fk := hr6.frozenAt r
          have D7 : Hid (D2 w (w6.setCell ⟨g6, r, none⟩ (.string { data := #[99, 104, 97, 110, 103, 101, 100] })) (fun _ => False) (cpS 3 L X c q qn g i) (cpS 3 L2 X2 c q qn g i)) :=
            (D6.out.setO (G := g6) rfl (by have := D.out.bel.size; omega) r _).more (Below.refl _ _) (fun b h => h.elim)
          have hw6 : g6 < w6.heap.size := hg6.2
          clear hr6 hb6 hg6 D6 D
          go_upto_region 20 with fail
          clear hck fk i3 hi3 hw6
          generalize w6.setCell ⟨g6, r, none⟩ (.string { data := #[99, 104, 97, 110, 103, 101, 100] }) = wr at *
          have D := D7
          clear D7
          refine wp_region_noPanic ?_
          refine wp_region_held_drew (S := fun W => W.cell? ⟨b, off + i * 5 + 1, none⟩ = some (.int .i64 x) ∧ W.cell? ⟨b, off + i * 5 + 2, none⟩ = some (.int .i64 y)) (by kernel_rfl) (KP.out _ D.out.bel.drew) (fun hHeld => ?_)
          refine wpAnyH_take (i := 0) (v := ?v0) (by simp only [List.getElem?_toArray, List.getElem?_cons_zero]; rfl) (by kernel_rfl) (by kernel_rfl) (by kernel_rfl) (fun _ _ _ h => h) (Or.inl ⟨by rfl, ?y0⟩) hHeld ?_
          case y0 => (intro w hSw; go_simp <;> with_reducible rfl)
          simp only [Act.put, List.setIfInBounds_toArray, List.set_cons_zero, List.set_cons_succ]
          refine wpAnyH_take (i := 1) (v := ?v1) (by simp only [List.getElem?_toArray, List.getElem?_cons_succ, List.getElem?_cons_zero]; rfl) (by kernel_rfl) (by kernel_rfl) (by kernel_rfl) (fun _ _ _ h => h) (Or.inl ⟨by rfl, ?y1⟩) hHeld ?_
          case y1 => (intro w hSw; go_simp <;> with_reducible rfl)
          simp only [Act.put, List.setIfInBounds_toArray, List.set_cons_zero, List.set_cons_succ]
          refine wpAnyH_take (i := 2) (v := ?v2) (by simp only [List.getElem?_toArray, List.getElem?_cons_succ, List.getElem?_cons_zero]; rfl) (by kernel_rfl) (by kernel_rfl) (by kernel_rfl) (fun _ _ _ h => h) (Or.inl ⟨by rfl, ?y2⟩) hHeld ?_
          case y2 => (intro w hSw; go_simp <;> with_reducible rfl)
          simp only [Act.put, List.setIfInBounds_toArray, List.set_cons_zero, List.set_cons_succ]
          refine wpAnyH_take (i := 3) (v := ?v3) (by simp only [List.getElem?_toArray, List.getElem?_cons_succ, List.getElem?_cons_zero]; rfl) (by kernel_rfl) (by kernel_rfl) (by kernel_rfl) (fun _ _ _ h => h) (Or.inl ⟨by rfl, ?y3⟩) hHeld ?_
          case y3 => (intro w hSw; go_simp <;> with_reducible rfl)
          simp only [Act.put, List.setIfInBounds_toArray, List.set_cons_zero, List.set_cons_succ]
          refine wpAnyH_take (i := 4) (v := ?v4) (by simp only [List.getElem?_toArray, List.getElem?_cons_succ, List.getElem?_cons_zero]; rfl) (by kernel_rfl) (by kernel_rfl) (by kernel_rfl) (fun _ _ _ h => h) (Or.inl ⟨by rfl, ?y4⟩) hHeld ?_
          case y4 => (intro w hSw; go_simp <;> with_reducible rfl)
          simp only [Act.put, List.setIfInBounds_toArray, List.set_cons_zero, List.set_cons_succ]
          refine wpAnyH_take (i := 5) (v := ?v5) (by simp only [List.getElem?_toArray, List.getElem?_cons_succ, List.getElem?_cons_zero]; rfl) (by kernel_rfl) (by kernel_rfl) (by kernel_rfl) (fun _ _ _ h => h) (Or.inl ⟨by rfl, ?y5⟩) hHeld ?_
          case y5 => (intro w hSw; go_simp <;> with_reducible rfl)
          simp only [Act.put, List.setIfInBounds_toArray, List.set_cons_zero, List.set_cons_succ]
          refine wpAnyH_take (i := 7) (v := ?v7) (by simp only [List.getElem?_toArray, List.getElem?_cons_succ, List.getElem?_cons_zero]; rfl) (by kernel_rfl) (by kernel_rfl) (by kernel_rfl) (fun _ _ _ h => h) (Or.inl ⟨by rfl, ?y7⟩) hHeld ?_
          case y7 => (intro w hSw; go_simp <;> with_reducible rfl)
          simp only [Act.put, List.setIfInBounds_toArray, List.set_cons_zero, List.set_cons_succ]
          refine wpAnyH_take (i := 8) (v := ?v8) (by simp only [List.getElem?_toArray, List.getElem?_cons_succ, List.getElem?_cons_zero]; rfl) (by kernel_rfl) (by kernel_rfl) (by kernel_rfl) (fun _ _ _ h => h) (Or.inl ⟨by rfl, ?y8⟩) hHeld ?_
          case y8 => (intro w hSw; go_simp <;> with_reducible rfl)
          simp only [Act.put, List.setIfInBounds_toArray, List.set_cons_zero, List.set_cons_succ]
          refine wpAnyH_take (i := 9) (v := ?v9) (by simp only [List.getElem?_toArray, List.getElem?_cons_succ, List.getElem?_cons_zero]; rfl) (by kernel_rfl) (by kernel_rfl) (by kernel_rfl) (fun _ _ _ h => h) (Or.inl ⟨by rfl, ?y9⟩) hHeld ?_
          case y9 => (intro w hSw; go_simp <;> with_reducible rfl)
          simp only [Act.put, List.setIfInBounds_toArray, List.set_cons_zero, List.set_cons_succ]
          refine wpAnyH_take (i := 10) (v := ?v10) (by simp only [List.getElem?_toArray, List.getElem?_cons_succ, List.getElem?_cons_zero]; rfl) (by kernel_rfl) (by kernel_rfl) (by kernel_rfl) (fun _ _ _ h => h) (Or.inl ⟨by rfl, ?y10⟩) hHeld ?_
          case y10 => (intro w hSw; go_simp <;> with_reducible rfl)
          simp only [Act.put, List.setIfInBounds_toArray, List.set_cons_zero, List.set_cons_succ]
          refine wpAnyH_take (i := 11) (v := ?v11) (by simp only [List.getElem?_toArray, List.getElem?_cons_succ, List.getElem?_cons_zero]; rfl) (by kernel_rfl) (by kernel_rfl) (by kernel_rfl) (fun _ _ _ h => h) (Or.inl ⟨by rfl, ?y11⟩) hHeld ?_
          case y11 => (intro w hSw; go_simp <;> with_reducible rfl)
          simp only [Act.put, List.setIfInBounds_toArray, List.set_cons_zero, List.set_cons_succ]
          refine wpAnyH_take (i := 14) (v := ?v14) (by simp only [List.getElem?_toArray, List.getElem?_cons_succ, List.getElem?_cons_zero]; rfl) (by kernel_rfl) (by kernel_rfl) (by kernel_rfl) (fun _ _ _ h => h) (Or.inl ⟨by rfl, ?y14⟩) hHeld ?_
          case y14 => (intro w hSw; go_simp <;> with_reducible rfl)
          simp only [Act.put, List.setIfInBounds_toArray, List.set_cons_zero, List.set_cons_succ]
          refine wpAnyH_take (i := 15) (v := ?v15) (by simp only [List.getElem?_toArray, List.getElem?_cons_succ, List.getElem?_cons_zero]; rfl) (by kernel_rfl) (by kernel_rfl) (by kernel_rfl) (fun _ _ _ h => h) (Or.inl ⟨by rfl, ?y15⟩) hHeld ?_
          case y15 => (intro w hSw; go_simp <;> with_reducible rfl)
          simp only [Act.put, List.setIfInBounds_toArray, List.set_cons_zero, List.set_cons_succ]
          refine wpAnyH_take (i := 16) (v := ?v16) (by simp only [List.getElem?_toArray, List.getElem?_cons_succ, List.getElem?_cons_zero]; rfl) (by kernel_rfl) (by kernel_rfl) (by kernel_rfl) (fun _ _ _ h => h) (Or.inl ⟨by rfl, ?y16⟩) hHeld ?_
          case y16 => (intro w hSw; go_simp <;> with_reducible rfl)
          simp only [Act.put, List.setIfInBounds_toArray, List.set_cons_zero, List.set_cons_succ]
          refine wpAnyH_take (i := 17) (v := ?v17) (by simp only [List.getElem?_toArray, List.getElem?_cons_succ, List.getElem?_cons_zero]; rfl) (by kernel_rfl) (by kernel_rfl) (by kernel_rfl) (fun _ _ _ h => h) (Or.inl ⟨by rfl, ?y17⟩) hHeld ?_
          case y17 => (intro w hSw; go_simp <;> with_reducible rfl)
          simp only [Act.put, List.setIfInBounds_toArray, List.set_cons_zero, List.set_cons_succ]
          refine wpAnyH_take (i := 18) (v := ?v18) (by simp only [List.getElem?_toArray, List.getElem?_cons_succ, List.getElem?_cons_zero]; rfl) (by kernel_rfl) (by kernel_rfl) (by kernel_rfl) (fun _ _ _ h => h) (Or.inl ⟨by rfl, ?y18⟩) hHeld ?_
          case y18 => (intro w hSw; go_simp <;> with_reducible rfl)
          simp only [Act.put, List.setIfInBounds_toArray, List.set_cons_zero, List.set_cons_succ]
          refine wpAnyH_take (i := 19) (v := ?v19) (by simp only [List.getElem?_toArray, List.getElem?_cons_succ, List.getElem?_cons_zero]; rfl) (by kernel_rfl) (by kernel_rfl) (by kernel_rfl) (fun _ _ _ h => h) (Or.inl ⟨by rfl, ?y19⟩) hHeld ?_
          case y19 => (intro w hSw; go_simp <;> with_reducible rfl)
          simp only [Act.put, List.setIfInBounds_toArray, List.set_cons_zero, List.set_cons_succ]
          refine wpAnyH_take (i := 21) (v := ?v21) (by simp only [List.getElem?_toArray, List.getElem?_cons_succ, List.getElem?_cons_zero]; rfl) (by kernel_rfl) (by kernel_rfl) (by kernel_rfl) (fun _ _ _ h => h) (Or.inl ⟨by rfl, ?y21⟩) hHeld ?_
          case y21 => (intro w hSw; go_simp <;> with_reducible rfl)
          simp only [Act.put, List.setIfInBounds_toArray, List.set_cons_zero, List.set_cons_succ]
          refine wpAnyH_take (i := 22) (v := ?v22) (by simp only [List.getElem?_toArray, List.getElem?_cons_succ, List.getElem?_cons_zero]; rfl) (by kernel_rfl) (by kernel_rfl) (by kernel_rfl) (fun _ _ _ h => h) (Or.inl ⟨by rfl, ?y22⟩) hHeld ?_
          case y22 => (intro w hSw; go_simp <;> with_reducible rfl)
          simp only [Act.put, List.setIfInBounds_toArray, List.set_cons_zero, List.set_cons_succ]
          refine wpAnyH_take (i := 23) (v := ?v23) (by simp only [List.getElem?_toArray, List.getElem?_cons_succ, List.getElem?_cons_zero]; rfl) (by kernel_rfl) (by kernel_rfl) (by kernel_rfl) (fun _ _ _ h => h) (Or.inl ⟨by rfl, ?y23⟩) hHeld ?_
          case y23 => (intro w hSw; go_simp <;> with_reducible rfl)
          simp only [Act.put, List.setIfInBounds_toArray, List.set_cons_zero, List.set_cons_succ]
          refine wpAnyH_take (i := 24) (v := ?v24) (by simp only [List.getElem?_toArray, List.getElem?_cons_succ, List.getElem?_cons_zero]; rfl) (by kernel_rfl) (by kernel_rfl) (by kernel_rfl) (fun _ _ _ h => h) (Or.inl ⟨by rfl, ?y24⟩) hHeld ?_
          case y24 => (intro w hSw; go_simp <;> with_reducible rfl)
          simp only [Act.put, List.setIfInBounds_toArray, List.set_cons_zero, List.set_cons_succ]
          refine wpAnyH_take (i := 25) (v := ?v25) (by simp only [List.getElem?_toArray, List.getElem?_cons_succ, List.getElem?_cons_zero]; rfl) (by kernel_rfl) (by kernel_rfl) (by kernel_rfl) (fun _ _ _ h => h) (Or.inl ⟨by rfl, ?y25⟩) hHeld ?_
          case y25 => (intro w hSw; go_simp <;> with_reducible rfl)
          simp only [Act.put, List.setIfInBounds_toArray, List.set_cons_zero, List.set_cons_succ]
          refine wpAnyH_ready (rs := [6]) (by kernel_rfl) (by simp) ?_
          refine AllReadyH.cons (by simp only [List.getElem?_toArray, List.getElem?_cons_succ, List.getElem?_cons_zero]; rfl) (fun K hK => ?_) ?_
          rotate_left
          · exact AllReadyH.nil
          go_simp
          go_at_call 11
          refine (mod_any x 3 (by omega) (by omega) _).mono ?_
          rintro e w9 ⟨rfl, rfl⟩
          go_wp2_with fail
          refine hK.out _ _ ?_ (fun hHeld => ?_)
          · exact KP.out _ D.out.bel.drew
          clear hK K
          refine wpAnyH_ready (rs := [12]) (by kernel_rfl) (by simp) ?_
          refine AllReadyH.cons (by simp only [List.getElem?_toArray, List.getElem?_cons_succ, List.getElem?_cons_zero]; rfl) (fun K hK => ?_) ?_
          rotate_left
          · exact AllReadyH.nil
          go_simp
          go_at_call 25
          refine (sec_any y _).mono ?_
          rintro e w9 ⟨rfl, hb9⟩
          go_wp2_with fail
          refine hK.out _ _ ?_ (fun hHeld => ?_)
          · exact KP.out _ (D.out.bel.drew.trans (hb9.mono D.out.bel.size))
          clear hK K
          have D9 := (D.out.below (Below.refl _ wr).drew).below hb9
          have P9 := D9.callA (fun F v Ka kc h _ _ => write_any h (modOf x 3 : Nat) (secS y) hcna)
          rw [STA.out, HLA.out] at P9
          clear D9
          refine wpAnyH_ready (rs := [13]) (by kernel_rfl) (by simp) ?_
          refine AllReadyH.cons (by simp only [List.getElem?_toArray, List.getElem?_cons_succ, List.getElem?_cons_zero]; rfl) (fun K hK => ?_) ?_
          rotate_left
          · exact AllReadyH.nil
          go_simp
          go_at_call 23
          refine P9.mono ?_
          clear P9
          rintro e w10 ⟨rfl, D10, -, -⟩
          go_wp2_with fail
          refine hK.out _ _ ?_ (fun hHeld => ?_)
          · exact KP.out _ D10.bel
          clear hK K
          refine wpAnyH_ready (rs := [20]) (by kernel_rfl) (by simp) ?_
          refine AllReadyH.cons (by simp only [List.getElem?_toArray, List.getElem?_cons_succ, List.getElem?_cons_zero]; rfl) (fun K hK => ?_) ?_
          rotate_left
          · exact AllReadyH.nil
          go_simp
          go_at_call 11
          refine (mod_any x 3 (by omega) (by omega) _).mono ?_
          rintro e w9 ⟨rfl, rfl⟩
          go_wp2_with fail
          refine hK.out _ _ ?_ (fun hHeld => ?_)
          · exact KP.out _ D10.bel
          clear hK K
          refine wpAnyH_ready (rs := [26]) (by kernel_rfl) (by simp) ?_
          refine AllReadyH.cons (by simp only [List.getElem?_toArray, List.getElem?_cons_succ, List.getElem?_cons_zero]; rfl) (fun K hK => ?_) ?_
          rotate_left
          · exact AllReadyH.nil
          go_simp
          go_at_call 25
          refine (sec_any y _).mono ?_
          rintro e w11 ⟨rfl, hb11⟩
          go_wp2_with fail
          refine hK.out _ _ ?_ (fun hHeld => ?_)
          · exact KP.out _ (bel2 D10.bel hb11)
          clear hK K
          have D11 := D10.below hb11
          have P9 := D11.callB (fun F v Ka kc h _ _ => write_any h (modOf x 3 : Nat) (secS y) hcnb)
          rw [STB.out, HLB.out] at P9
          clear D11 D10
          refine wpAnyH_ready (rs := [27]) (by kernel_rfl) (by simp) ?_
          refine AllReadyH.cons (by simp only [List.getElem?_toArray, List.getElem?_cons_succ, List.getElem?_cons_zero]; rfl) (fun K hK => ?_) ?_
          rotate_left
          · exact AllReadyH.nil
          go_simp
          go_at_call 23
          refine P9.mono ?_
          clear P9
          rintro e w12 ⟨rfl, D12, -, -⟩
          go_wp2_with fail
          refine hK.out _ _ ?_ (fun hHeld => ?_)
          · exact KP.out _ D12.bel
          clear hK K
          refine wpAnyH_take (i := 28) (v := ?v28) (by simp only [List.getElem?_toArray, List.getElem?_cons_succ, List.getElem?_cons_zero]; rfl) (by kernel_rfl) (by kernel_rfl) (by kernel_rfl) (fun _ _ _ h => h) (Or.inl ⟨by rfl, ?y28⟩) hHeld ?_
          case y28 => (intro w hSw; go_simp <;> with_reducible rfl)
          simp only [Act.put, List.setIfInBounds_toArray]
          refine wpAnyH_done (by kernel_rfl) ?_ _
          refine NoPanic.normal ?_
          have D13 := Lib.hid D12
          clear D12 hHeld
          go_wp2_with fail
          go_roundw
          case rel => exact ⟨i + 1, by omega, by go_num, D13.out⟩
          case measure => simp [intOf]; omega
        · have him : i = m := by omega
          subst him
          have SAME := Lib.hid (cp_S 3 L X L2 X2 c q qn g i)
          clear hlt
          obtain ⟨F5, v5, Ka5, kc5, h5⟩ := D.one.dk
          have P := cont_any h5
          rw [HLA.out] at P
          clear h5
          have D5 := Lib.hid D
          go_wp2_with fail
          refine P.mono ?_
          clear P D
          rintro e w6 ⟨g6, c6, rfl, hr6, hb6⟩
          have D6 := D5.out.below hb6
          obtain ⟨A6, c6', e6, S6⟩ := own_sl hr6 rfl
          injection e6 with e61 e62 e63
          subst e61 e63
          clear e62
          obtain ⟨F6, v6, Ka6, kc6, h6⟩ := D6.swap.one.dk
          have P := cont_any h6
          rw [HLB.out] at P
          have B6 := Lib.hid D6.bel
          clear h6 D6 hr6 hb6 D5
          go_wp2_with fail
          refine P.mono ?_
          clear P
          rintro e w7 ⟨g7, c7, rfl, hr7, hb7⟩
          obtain ⟨A7, c7', e7, S7⟩ := own_sl hr7 rfl
          injection e7 with e71 e72 e73
          subst e71 e73
          clear e72
          have P := eql_any _ _ c6 c7 _ _ w7 (S6.below hb7) S7
          rw [decide_eq_true SAME.out] at P
          have B7 := Lib.hid (bel2 B6.out hb7)
          clear S6 S7 hr7 hb7 B6
          go_wp2_with (first
            | (go_at_call 19; refine P.mono ?_; rintro e w8 ⟨rfl, hb8⟩)
            | (go_at_call 10; refine (AW.out _).mono ?_; rintro e w9 ⟨rfl, hb9⟩))
          go_ret
          exact ⟨rfl, bel2 B7.out (bel2 hb8 hb9)⟩
theorem cop_walk (A : Option Addr) (m cc : Nat) (g : Nat → Cl) (Ak : Option Addr) (qn kcc : Nat) (q : Nat → Bool) (w : World) (hg : Cs w A m g) (hq : Bs w Ak qn kcc q ∧ qn ≤ 140737488355328) :
    Calls Try.prog 8 #[.slice A m cc, .slice Ak qn kcc] w (LawPost w) := cop_rest A m cc g Ak qn kcc q w hg hq.1 hq.2
end Go.Proofs.Ytoafoikphpdimaa
