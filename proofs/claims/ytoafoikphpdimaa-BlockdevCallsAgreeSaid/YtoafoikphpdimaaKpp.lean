/- BlockdevKeepPrefix: what is kept, and the walk. -/
import Derived.Test.YtoafoikphpdimaaTwo
namespace Go.Proofs.Ytoafoikphpdimaa
open Go.ChangeShapes Go.WideShapes Go.ChangeAt Go.RowKit Go.Deep Go.Joins

theorem wlN_get (g : Nat → Cl) (N : Nat) : ∀ (m k : Nat), k < m → (wlN g N m)[k]? = some ⟨modOf (g k).s N, secS (g k).d⟩ := by
  intro m
  induction m with
  | zero => intro k hk; omega
  | succ m ih =>
    intro k hk
    show (wlN g N m ++ [_])[k]? = _
    rcases Nat.lt_or_ge k m with h | h
    · rw [List.getElem?_append_left (by rw [wlN_len]; exact h), ih k h]
    · have : k = m := by omega
      subst this
      rw [List.getElem?_append_right (by rw [wlN_len]; exact Nat.le_refl _), wlN_len]
      simp
theorem apk_step (S : List ByteArray) (C : List CW) (q : Nat → Bool) (k : Nat) : apk S C q (k + 1) = if q k then (match C[k]? with | some c => (apk S C q k).set c.k c.d | none => apk S C q k) else apk S C q k := rfl
/-- Keeping the first n writes is making them alone. -/
theorem apk_pre (S : List ByteArray) (g : Nat → Cl) (N m n : Nat) (q : Nat → Bool) (hq : ∀ k, k < n → q k = true) : ∀ k, k ≤ m → apk S (wlN g N m) (kq q n) k = apk S (wlN g N n) (fun _ => true) (min k n) := by
  intro k
  induction k with
  | zero => intro _; rw [Nat.zero_min]; rfl
  | succ k ih =>
    intro hk
    have ih := ih (by omega)
    rcases Nat.lt_or_ge k n with h | h
    · rw [show min (k + 1) n = min k n + 1 by omega, show min k n = k by omega] at *
      rw [apk_step, apk_step, if_pos (show kq q n k = true by simp [kq, h, hq k h]), if_pos rfl, wlN_get g N m k (by omega), wlN_get g N n k h, ih]
    · rw [show min (k + 1) n = min k n by omega, apk_step, if_neg (by simp [kq]; omega), ih]
/-- The list of what is kept, in the course of the loop. -/
def kpL (n i : Nat) : List Value := (List.range n).map fun j => .bool (decide (j < i))
theorem kpL_len (n i : Nat) : (kpL n i).length = n := by simp [kpL]
theorem kpL_set (n i : Nat) (h : i < n) : (kpL n i).set i (.bool true) = kpL n (i + 1) := by
  apply List.ext_getElem?
  intro j
  rw [List.getElem?_set]
  unfold kpL
  simp only [List.getElem?_map, List.length_map, List.length_range]
  by_cases hj : i = j
  · subst hj
    rw [if_pos rfl, if_pos h, List.getElem?_range h]
    simp
  · rw [if_neg hj]
    by_cases hjn : j < n
    · rw [List.getElem?_range hjn]
      simp only [Option.map_some, Option.some.injEq, Value.bool.injEq, decide_eq_decide]
      omega
    · rw [List.getElem?_eq_none (by simp; omega)]
      rfl
theorem kpL_0 (n : Nat) : kpL n 0 = List.replicate n (.bool false) := by
  unfold kpL
  apply List.ext_getElem <;> simp
theorem kp_made (w : World) (n : Nat) (hn : n ≤ 1000) : (w.alloc (.cells (madeCells #[.bool false] n) 4)).ownsRow w.heap.size 4 1 (.slice (some ⟨w.heap.size, 0, none⟩) n n) n (kpL n 0) := by
  have := World.ownsRow_lit (base := w.heap.size) (e := 4) (size := 1) w (madeCells #[Value.bool false] n) n (Nat.le_refl _) (by unfold maxLen; omega) (by rw [← Array.length_toList, toList_madeCells_one]; simp)
  rw [toList_madeCells_one] at this
  rw [kpL_0]
  exact this
theorem kp_bs {w : World} {B G n i : Nat} (h : w.ownsRow B 4 1 (.slice (some ⟨G, 0, none⟩) n n) n (kpL n i)) : Bs w (some ⟨G, 0, none⟩) n n (fun j => decide (j < i)) := by
  have hl := (h.lt G rfl).2
  rcases h.2 with ⟨h0, _⟩ | ⟨g, cap, cur, h1, hbg, hg, hnc, hcm, _⟩
  · cases h0
  · injection h1 with h1 h2 h3
    subst h3
    refine ⟨⟨Nat.le_refl _, by unfold maxLen at hcm; omega⟩, (fun e => by cases e), .inr ⟨G, 0, rfl, hl, fun j hj => ?_⟩⟩
    rw [Nat.zero_add, h.cellAt j (by omega)]
    unfold kpL
    rw [List.getElem?_map, List.getElem?_range hj]
    rfl
theorem kp_same (N L X L2 X2 m c : Nat) (g : Nat → Cl) (hc : c ≤ m) :
    (loS { s0 N L X with C := wlN g N m } (fun j => decide (j < c)) c).S = (flS { s0 N L2 X2 with C := wlN g N c }).S := by
  show apk (List.replicate N zs) (wlN g N m) (kq (fun j => decide (j < c)) c) (wlN g N m).length = apk (List.replicate N zs) (wlN g N c) (fun _ => true) (wlN g N c).length
  rw [wlN_len, wlN_len, apk_pre _ g N m c _ (fun k hk => decide_eq_true hk) m (Nat.le_refl _), show min m c = c by omega]
set_option maxRecDepth 20000 in
set_option maxHeartbeats 16000000 in
theorem kpp_rest (n kk : Int) (A : Option Addr) (m cc : Nat) (g : Nat → Cl) (w : World) (hg : Cs w A m g) :
    Calls Try.prog 9 #[.int .i64 n, .slice A m cc, .int .i64 kk] w (LawP w) := by
  have AW := Lib.hid (fun W => awake_any W)
  by_cases hm : 40 < m
  · have hm2 : (40 : Int) < (m : Int) := by omega
    clear hg
    go_enter Try.func9, Try.ntmps9
    go_wp2_with (go_at_call 10; refine (AW.out _).mono ?_; rintro e w5 ⟨rfl, hb5⟩)
    go_ret
    exact ⟨rfl, hb5⟩
  have hN := modOf_spec n 5 (by omega) (by omega)
  have M1 := mod_any n 5 (by omega) (by omega) w
  have hC := modOf_spec kk (m + 1) (by omega) (by omega)
  have M2 := Lib.hid (fun W => mod_any kk (m + 1) (by omega) (by omega) W)
  have NW := Lib.hid (fun k W => new_any k W)
  generalize modOf n 5 = N0 at *
  generalize modOf kk (m + 1) = c at *
  have HG := Lib.hid hg
  have hc20 := hC.2
  have hN5 := hN.2
  clear hg hN hC
  go_enter Try.func9, Try.ntmps9
  go_upto_region 4 with (go_at_call 11; refine M1.mono ?_; rintro e w5 ⟨rfl, rfl⟩)
  clear M1
  obtain ⟨N, hNN⟩ : ∃ N : Nat, N = N0 + 1 := ⟨_, rfl⟩
  have j1 : (1 : Int) + (N0 : Int) = (N : Int) := by omega
  rw [j1]
  have hN6 : 1 ≤ N ∧ N ≤ 5 := by omega
  clear hN5 hNN j1
  go_wp2_with fail
  refine (NW.out _ _).mono ?_
  rintro e w1 (⟨N', L, X, hm', -, -, rfl, v, Ka, kc, D⟩ | ⟨h, -, -⟩)
  case inr => omega
  have hm3 : N' = N := by omega
  subst hm3
  clear hm'
  have D := Lib.hid (D1.of_dw D)
  go_wp2_with fail
  refine (NW.out _ _).mono ?_
  rintro e w2 (⟨N2, L2, X2, hm', -, -, rfl, v2, Ka2, kc2, E⟩ | ⟨h, -, -⟩)
  case inr => omega
  have hm3 : N2 = N' := by omega
  subst hm3
  clear hm' NW
  have D := Lib.hid (D.out.pair E)
  clear E
  have MK := run_make_row' (P := Try.prog) 34 4 (.bool false) 1 Try.underlying34 info4 rfl .i64 .i64 c (by omega) (by omega) w2
  have KR0 := Lib.hid (kp_made w2 c (by omega))
  have D0 : Hid (D2 w (w2.alloc (.cells (madeCells #[.bool false] c) 4)) (fun b => b = w2.heap.size) (s0 N2 L X) (s0 N2 L2 X2)) := D.out.more (bal (Below.refl _ _) _) (fun b e => .inr (by subst e; exact ⟨Nat.le_refl _, by simp⟩))
  have hG0 : w.heap.size ≤ w2.heap.size := D.out.bel.size
  clear D
  go_upto_region 10 with (go_at_call 11; refine (M2.out _).mono ?_; rintro e w5 ⟨rfl, rfl⟩)
  clear MK M2
  generalize w2.alloc (.cells (madeCells #[.bool false] c) 4) = w3 at *
  generalize w2.heap.size = G at *
  go_wp2_with fail
  go_loopw [14] (fun vi wr => ∃ i : Nat, i ≤ m ∧ vi = .int .i64 i ∧ D2 w wr (fun b => b = G) { s0 N2 L X with C := wlN g N2 i } { s0 N2 L2 X2 with C := wlN g N2 (min i c) } ∧ wr.ownsRow G 4 1 (.slice (some ⟨G, 0, none⟩) c c) c (kpL c (min i c))) (fun i _ => m - (intOf i).toNat)
  case atStart => exact ⟨0, Nat.zero_le _, rfl, by rw [Nat.zero_min]; exact D0.out, by rw [Nat.zero_min]; exact KR0.out⟩
  case round =>
    clear D0 KR0
    obtain ⟨i, hi, rfl, D, KR⟩ := hrel
    have D := Lib.hid D
    have KR := Lib.hid KR
    by_cases hlt : i < m
    · rcases HG.out.row with h0 | ⟨b, off, rfl, hb, hcl⟩
      · omega
      obtain ⟨-, u1, u2, -⟩ := hcl i hlt
      have ST := Lib.hid (wr_plain (s := s0 N2 L X) (g := g) (N := N2) (i := i) rfl (by omega) rfl rfl)
      have ST2 : Hid (i < c → wrS { s0 N2 L2 X2 with C := wlN g N2 i } (modOf (g i).s N2 : Nat) (secS (g i).d) = ({ s0 N2 L2 X2 with C := wlN g N2 (i + 1) }, 0)) := fun _ => wr_plain (s := s0 N2 L2 X2) (g := g) (N := N2) (i := i) rfl (by omega) rfl rfl
      have hcn : ∀ j, j ≤ m → (wlN g N2 j).length ≤ 1000 := fun j hj => by rw [wlN_len]; omega
      clear hcl
      generalize (g i).s = x at *
      generalize (g i).d = y at *
      have U1 : wr.cell? ⟨b, off + i * 5 + 1, none⟩ = some (.int .i64 x) := (D.out.bel.cell (by exact hb)).trans u1
      have U2 : wr.cell? ⟨b, off + i * 5 + 2, none⟩ = some (.int .i64 y) := (D.out.bel.cell (by exact hb)).trans u2
      have hbr : b < wr.heap.size := by have := D.out.bel.size; omega
      have M3 := mod_any x N2 (by omega) (by omega) wr
      go_wp2_with (first
        | (go_at_call 11; refine M3.mono ?_; rintro e w5 ⟨rfl, rfl⟩)
        | (go_at_call 25; refine (sec_any y _).mono ?_; rintro e w5 ⟨rfl, hb5⟩))
      have P := (D.out.below hb5).callA (fun F v Ka kc h _ _ => write_any h (modOf x N2 : Nat) (secS y) (hcn i hi))
      rw [ST.out] at P
      have KR5 := own_keep KR.out (w' := w5) (fun k hk => by cases hk; exact hb5.block _ (KR.out.lt G rfl).2)
      clear U1 U2 M3
      refine P.mono ?_
      clear P
      rintro e w6 ⟨rfl, D6, hs6, hk6⟩
      have KR6 := Lib.hid (own_keep KR5 (w' := w6) (fun k hk => by cases hk; exact hk6 G rfl))
      have D6 := Lib.hid D6
      clear KR KR5 hb5 hk6 hs6 D hbr
      by_cases hic : i < c
      · have hic2 : (i : Int) < (c : Int) := by omega
        obtain ⟨vk, hvk⟩ : ∃ vk, w6.cell? ⟨G, i, none⟩ = some vk := ⟨_, by rw [KR6.out.cellAt i (by omega)]; exact List.getElem?_eq_getElem (by rw [kpL_len]; exact hic)⟩
        have fk := KR6.out.frozenAt i
        have KR7 : Hid ((w6.setCell ⟨G, i, none⟩ (.bool true)).ownsRow G 4 1 (.slice (some ⟨G, 0, none⟩) c c) c (kpL c (i + 1))) := by
          have := (KR6.out.stored i (.bool true)).1
          rw [show min i c = i by omega, kpL_set c i hic] at this
          exact this
        have D7 := Lib.hid (D6.out.setO (G := G) rfl hG0 i (.bool true))
        go_upto_region 18 with fail
        clear hvk fk KR6 D6
        generalize w6.setCell ⟨G, i, none⟩ (.bool true) = w7 at *
        have U2 : w7.cell? ⟨b, off + i * 5 + 2, none⟩ = some (.int .i64 y) := (D7.out.bel.cell (by exact hb)).trans u2
        have hbr : b < w7.heap.size := by have := D7.out.bel.size; omega
        go_wp2_with (go_at_call 25; refine (sec_any y _).mono ?_; rintro e w8 ⟨rfl, hb8⟩)
        have P := (D7.out.below hb8).callB (fun F v Ka kc h _ _ => write_any h (modOf x N2 : Nat) (secS y) (hcn _ (by omega)))
        rw [show min i c = i by omega, ST2.out hic] at P
        have KR8 := own_keep KR7.out (w' := w8) (fun k hk => by cases hk; exact hb8.block _ (KR7.out.lt G rfl).2)
        clear U2
        refine P.mono ?_
        clear P
        rintro e w9 ⟨rfl, D9, hs9, hk9⟩
        have KR9 := Lib.hid (own_keep KR8 (w' := w9) (fun k hk => by cases hk; exact hk9 G rfl))
        have D9 := Lib.hid D9
        clear KR8 hb8 hk9 hs9 D7 KR7 hbr
        go_wp2_with fail
        go_roundw
        case rel => exact ⟨i + 1, by omega, by go_num, by rw [show min (i + 1) c = i + 1 by omega]; exact D9.out, by rw [show min (i + 1) c = i + 1 by omega]; exact KR9.out⟩
        case measure => simp [intOf]; omega
      · have hic2 : ¬ (i : Int) < (c : Int) := by omega
        go_wp2_with fail
        go_roundw
        case rel => exact ⟨i + 1, by omega, by go_num, by rw [show min (i + 1) c = min i c by omega]; exact D6.out, by rw [show min (i + 1) c = min i c by omega]; exact KR6.out⟩
        case measure => simp [intOf]; omega
    · have him : i = m := by omega
      subst him
      clear hlt
      have hmc : min i c = c := by omega
      rw [hmc] at D KR
      have SAME := Lib.hid (kp_same N2 L X L2 X2 i c g (by omega))
      have hle : ∀ s : DkS, ∀ F v Ka kc W, Dk F W s v Ka kc → 1 ≤ s.S.length ∧ s.S.length ≤ 4096 := fun s F v Ka kc W h => by rw [h.len]; exact h.hn
      have P := D.out.callA (fun F v Ka kc h _ hO => off_any h (kp_bs KR.out) (fun a e _ => by
        cases e
        exact ⟨fun e => hO G rfl (by have e : G = _ := e; rw [e]; exact h.FL), fun e => hO G rfl (by have e : G = _ := e; rw [e]; exact h.FX)⟩))
      rw [show offS { s0 N2 L X with C := wlN g N2 i } (fun j => decide (j < c)) c = loS { s0 N2 L X with C := wlN g N2 i } (fun j => decide (j < c)) c from rfl, show offR { s0 N2 L X with C := wlN g N2 i } = 0 from rfl] at P
      clear D KR
      obtain ⟨SA, hSA⟩ : ∃ SA, loS { s0 N2 L X with C := wlN g N2 i } (fun j => decide (j < c)) c = SA := ⟨_, rfl⟩
      have f1 : SA.L = L := by rw [← hSA]; rfl
      rw [hSA] at P SAME
      clear hSA
      go_wp2_with fail
      refine P.mono ?_
      clear P
      rintro e w4 ⟨rfl, D4, -, -⟩
      have P := D4.callB (fun F v Ka kc h _ _ => flush_any h)
      rw [show flR { s0 N2 L2 X2 with C := wlN g N2 c } = 0 from rfl] at P
      clear D4
      obtain ⟨SB, hSB⟩ : ∃ SB, flS { s0 N2 L2 X2 with C := wlN g N2 c } = SB := ⟨_, rfl⟩
      have f2 : SB.L = L2 := by rw [← hSB]; rfl
      rw [hSB] at P SAME
      clear hSB
      go_wp2_with fail
      refine P.mono ?_
      clear P
      rintro e w5 ⟨rfl, D5, -, -⟩
      obtain ⟨F5, v5, Ka5, kc5, h5⟩ := D5.one.dk
      have hl5 := hle _ _ _ _ _ _ h5
      have P := cont_any h5
      rw [f1] at P
      clear h5
      have D5 := Lib.hid D5
      go_wp2_with fail
      refine P.mono ?_
      clear P
      rintro e w6 ⟨g6, c6, rfl, hr6, hb6⟩
      have D6 := D5.out.below hb6
      obtain ⟨A6, c6', e6, S6⟩ := own_sl hr6 rfl
      injection e6 with e61 e62 e63
      subst e61 e63
      clear e62
      obtain ⟨F6, v6, Ka6, kc6, h6⟩ := D6.swap.one.dk
      have P := cont_any h6
      rw [f2] at P
      have B6 := Lib.hid D6.bel
      clear h6 D6 hr6 hb6 D5
      go_wp2_with fail
      refine P.mono ?_
      clear P
      rintro e w7 ⟨g7, c7, rfl, hr7, hb7⟩
      obtain ⟨A7, c7', e7, S7⟩ := own_sl hr7 rfl
      injection e7 with e71 e72 e73
      subst e71 e73
      clear e72
      have P := eql_any _ _ c6 c7 _ _ w7 (S6.below hb7) S7
      rw [decide_eq_true SAME.out] at P
      have B7 := Lib.hid (bel2 B6.out hb7)
      clear S6 S7 hr7 hb7 B6 hl5
      clear hmc f1 f2 hle SAME
      go_wp2_with (first
        | (go_at_call 19; refine P.mono ?_; rintro e w8 ⟨rfl, hb8⟩)
        | (go_at_call 10; refine (AW.out _).mono ?_; rintro e w9 ⟨rfl, hb9⟩))
      go_ret
      exact ⟨rfl, bel2 B7.out (bel2 hb8 hb9)⟩
theorem kpp_walk (n : Int) (A : Option Addr) (m cc : Nat) (g : Nat → Cl) (k : Int) (w : World) (_ : (Lit.int .i64 n).wf = true) (hg : Cs w A m g) (_ : (Lit.int .i64 k).wf = true) :
    Calls Try.prog 9 #[.int .i64 n, .slice A m cc, .int .i64 k] w (LawPost w) := kpp_rest n k A m cc g w hg
end Go.Proofs.Ytoafoikphpdimaa
