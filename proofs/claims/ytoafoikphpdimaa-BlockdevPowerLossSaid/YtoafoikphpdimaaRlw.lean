/- BlockdevReadsLastWrite: the plain course, and the walk. -/
import Derived.Test.YtoafoikphpdimaaKpp
namespace Go.Proofs.Ytoafoikphpdimaa
open Go.ChangeShapes Go.WideShapes Go.ChangeAt Go.RowKit Go.Deep Go.Joins

theorem apk_app (S : List ByteArray) (C D : List CW) (q : Nat → Bool) : ∀ k, k ≤ C.length → apk S (C ++ D) q k = apk S C q k := by
  intro k
  induction k with
  | zero => intro _; rfl
  | succ k ih =>
    intro hk
    rw [apk_step, apk_step, ih (by omega), List.getElem?_append_left (by omega)]
theorem apk_snoc (S : List ByteArray) (C : List CW) (c : CW) : apk S (C ++ [c]) (fun _ => true) (C ++ [c]).length = (apk S C (fun _ => true) C.length).set c.k c.d := by
  rw [List.length_append, List.length_singleton, apk_step, if_pos rfl, List.getElem?_append_right (Nat.le_refl _), Nat.sub_self, apk_app _ _ _ _ _ (Nat.le_refl _)]
  rfl
/-- Sectors and cache after the first i calls. -/
def stR (g : Nat → Cl) (N : Nat) : Nat → List ByteArray × List CW
  | 0 => (List.replicate N zs, [])
  | i + 1 => if modOf (g i).k 10 = 5 then (apk (stR g N i).1 (stR g N i).2 (fun _ => true) (stR g N i).2.length, []) else
      if modOf (g i).k 10 < 4 then ((stR g N i).1, (stR g N i).2 ++ [⟨modOf (g i).s N, secS (g i).d⟩]) else stR g N i
def lsR (g : Nat → Cl) (N i : Nat) : List ByteArray := apk (stR g N i).1 (stR g N i).2 (fun _ => true) (stR g N i).2.length
def sR (g : Nat → Cl) (N L X i : Nat) : DkS := { s0 N L X with S := (stR g N i).1, C := (stR g N i).2 }
theorem stR_len (g : Nat → Cl) (N i : Nat) : (stR g N i).2.length ≤ i := by
  induction i with
  | zero => show (0 : Nat) ≤ 0; omega
  | succ i ih =>
    unfold stR
    split
    · show (0 : Nat) ≤ _; omega
    · split
      · show ((stR g N i).2 ++ [_]).length ≤ _
        rw [List.length_append]
        simp
        omega
      · omega
theorem lsR_5 (g : Nat → Cl) (N i : Nat) (h : modOf (g i).k 10 = 5) : stR g N (i + 1) = (lsR g N i, []) ∧ lsR g N (i + 1) = lsR g N i := by
  have e : stR g N (i + 1) = (lsR g N i, []) := by
    show (if _ then _ else _) = _
    rw [if_pos h]
    rfl
  exact ⟨e, by show apk (stR g N (i + 1)).1 (stR g N (i + 1)).2 _ _ = _; rw [e]; rfl⟩
theorem lsR_w (g : Nat → Cl) (N i : Nat) (h : modOf (g i).k 10 < 4) : stR g N (i + 1) = ((stR g N i).1, (stR g N i).2 ++ [⟨modOf (g i).s N, secS (g i).d⟩]) ∧ lsR g N (i + 1) = (lsR g N i).set (modOf (g i).s N) (secS (g i).d) := by
  have e : stR g N (i + 1) = ((stR g N i).1, (stR g N i).2 ++ [⟨modOf (g i).s N, secS (g i).d⟩]) := by
    show (if _ then _ else _) = _
    rw [if_neg (by omega), if_pos h]
  refine ⟨e, ?_⟩
  show apk (stR g N (i + 1)).1 (stR g N (i + 1)).2 _ _ = _
  rw [e]
  exact apk_snoc _ _ _
theorem lsR_n (g : Nat → Cl) (N i : Nat) (h : modOf (g i).k 10 ≠ 5) (h2 : ¬ modOf (g i).k 10 < 4) : stR g N (i + 1) = stR g N i ∧ lsR g N (i + 1) = lsR g N i := by
  have e : stR g N (i + 1) = stR g N i := by
    show (if _ then _ else _) = _
    rw [if_neg h, if_neg h2]
  exact ⟨e, by show apk (stR g N (i + 1)).1 (stR g N (i + 1)).2 _ _ = _; rw [e]; rfl⟩
theorem lsR_len (g : Nat → Cl) (N i : Nat) : (lsR g N i).length = N := by
  induction i with
  | zero => exact List.length_replicate
  | succ i ih =>
    by_cases h : modOf (g i).k 10 = 5
    · rw [(lsR_5 g N i h).2, ih]
    · by_cases h2 : modOf (g i).k 10 < 4
      · rw [(lsR_w g N i h2).2, List.length_set, ih]
      · rw [(lsR_n g N i h h2).2, ih]
theorem repL_set (v z : Value) (n i : Nat) (h : i < n) : (repL v z n i).set i v = repL v z n (i + 1) := by
  unfold repL
  rw [List.set_append_right _ _ (by simp), List.length_replicate, Nat.sub_self, show n - i = (n - (i + 1)) + 1 by omega, List.replicate_succ, List.set_cons_zero,
    show List.replicate (i + 1) v = List.replicate i v ++ [v] from (List.replicate_append_replicate (n := i) (m := 1) (a := v)).symm, List.append_assoc]
  rfl
theorem sR_wr (g : Nat → Cl) (N L X i : Nat) (hN : 1 ≤ N ∧ N ≤ 1000000) (h : modOf (g i).k 10 < 4) : wrS (sR g N L X i) (modOf (g i).s N : Nat) (secS (g i).d) = (sR g N L X (i + 1), 0) := by
  rw [wr_ok (has_mod (s := sR g N L X i) (N := N) rfl hN _) (secS_size _) rfl rfl]
  show (({ s0 N L X with S := (stR g N i).1, C := (stR g N i).2 ++ [⟨modOf (g i).s N, secS (g i).d⟩] } : DkS), (0 : Int)) = (({ s0 N L X with S := (stR g N (i + 1)).1, C := (stR g N (i + 1)).2 } : DkS), 0)
  rw [(lsR_w g N i h).1]
theorem sR_fl (g : Nat → Cl) (N L X i : Nat) (h : modOf (g i).k 10 = 5) : flS (sR g N L X i) = sR g N L X (i + 1) := by
  show ({ s0 N L X with S := lsR g N i, C := [] } : DkS) = ({ s0 N L X with S := (stR g N (i + 1)).1, C := (stR g N (i + 1)).2 } : DkS)
  rw [(lsR_5 g N i h).1]
theorem sR_rd (g : Nat → Cl) (N L X i j : Nat) (hj : j < N) : rdS (sR g N L X i) j = ((lsR g N i).getD j ByteArray.empty, 0) := by
  unfold rdS
  rw [show hasB (sR g N L X i) j = true by unfold hasB; rw [decide_eq_true (by omega), decide_eq_true (show (j : Int) < ((sR g N L X i).n : Int) by show (j : Int) < ((N : Nat) : Int); omega)]; rfl]
  rfl
theorem sR_n (g : Nat → Cl) (N L X i : Nat) (h : modOf (g i).k 10 ≠ 5) (h2 : ¬ modOf (g i).k 10 < 4) : sR g N L X (i + 1) = sR g N L X i := by
  unfold sR
  rw [(lsR_n g N i h h2).1]
set_option maxRecDepth 20000 in
set_option maxHeartbeats 16000000 in
theorem rlw_rest (n : Int) (A : Option Addr) (m cc : Nat) (g : Nat → Cl) (w : World) (hg : Cs w A m g) :
    Calls Try.prog 5 #[.int .i64 n, .slice A m cc] w (LawP w) := by
  have AW := Lib.hid (fun W => awake_any W)
  by_cases hm : 60 < m
  · have hm2 : (60 : Int) < (m : Int) := by omega
    clear hg
    go_enter Try.func5, Try.ntmps5
    go_wp2_with (go_at_call 10; refine (AW.out _).mono ?_; rintro e w5 ⟨rfl, hb5⟩)
    go_ret
    exact ⟨rfl, hb5⟩
  have hN := modOf_spec n 5 (by omega) (by omega)
  have M1 := mod_any n 5 (by omega) (by omega) w
  have NW := Lib.hid (fun k W => new_any k W)
  generalize modOf n 5 = N0 at *
  have HG := Lib.hid hg
  have hN5 := hN.2
  clear hg hN
  go_enter Try.func5, Try.ntmps5
  go_upto_region 4 with (go_at_call 11; refine M1.mono ?_; rintro e w5 ⟨rfl, rfl⟩)
  clear M1
  obtain ⟨N, hNN⟩ : ∃ N : Nat, N = N0 + 1 := ⟨_, rfl⟩
  have j1 : (1 : Int) + (N0 : Int) = (N : Int) := by omega
  rw [j1]
  have hN6 : 1 ≤ N ∧ N ≤ 5 := by omega
  clear hN5 hNN j1
  go_wp2_with fail
  refine (NW.out _ _).mono ?_
  rintro e w1 (⟨N', L, X, hm', -, -, rfl, v, Ka, kc, D⟩ | ⟨h, -, -⟩)
  case inr => omega
  have hm3 : N' = N := by omega
  subst hm3
  clear hm' NW
  have D := Lib.hid (D1.of_dw D)
  have MK := run_make_row' (P := Try.prog) 40 9 (.string { data := #[] }) 16 Try.underlying40 info9 rfl .i64 .i64 N' (by omega) (by omega) w1
  have KR0 : Hid ((w1.alloc (.cells (madeCells #[.string { data := #[] }] N') 9)).ownsRow w1.heap.size 9 1 (.slice (some ⟨w1.heap.size, 0, none⟩) N' N') N' (repL (.string zs) (.string ByteArray.empty) N' 0)) := by
    have := World.ownsRow_lit (base := w1.heap.size) (e := 9) (size := 1) w1 (madeCells #[.string { data := #[] }] N') N' (Nat.le_refl _) (by unfold maxLen; omega) (by rw [← Array.length_toList, toList_madeCells_one]; simp)
    rw [show (madeCells #[Value.string { data := #[] }] N').toList = repL (.string zs) (.string ByteArray.empty) N' 0 from made_rep (.string zs) (.string ByteArray.empty) N' rfl] at this
    exact this
  have D0 : Hid (D1 w (w1.alloc (.cells (madeCells #[.string { data := #[] }] N') 9)) (fun b => b = w1.heap.size) (s0 N' L X)) := D.out.more (bal (Below.refl _ _) _) (fun b e => .inr (by subst e; exact ⟨Nat.le_refl _, by simp⟩))
  have hG0 : w.heap.size ≤ w1.heap.size := D.out.bel.size
  clear D
  go_upto_region 8 with fail
  clear MK
  generalize w1.alloc (.cells (madeCells #[.string { data := #[] }] N') 9) = w3 at *
  generalize w1.heap.size = G at *
  go_wp2_with fail
  go_loopw [9] (fun vi wr => ∃ i : Nat, i ≤ N' ∧ vi = .int .i64 i ∧ D1 w wr (fun b => b = G) (s0 N' L X) ∧ wr.ownsRow G 9 1 (.slice (some ⟨G, 0, none⟩) N' N') N' (repL (.string zs) (.string ByteArray.empty) N' i)) (fun i _ => N' - (intOf i).toNat)
  case atStart => exact ⟨0, Nat.zero_le _, rfl, D0.out, KR0.out⟩
  case round =>
    clear D0 KR0
    obtain ⟨i, hi, rfl, D, KR⟩ := hrel
    have D := Lib.hid D
    by_cases hlt : i < N'
    · have hb4 : Below wr.heap.size wr (wr.alloc (.cells (madeCells #[.int .u8 0] 64) 5)) := bal (Below.refl _ _) _
      have mk := make64 wr
      have cz := cnv_z wr
      have D4 := D.out.below hb4
      have KR4 := own_keep KR (w' := wr.alloc (.cells (madeCells #[.int .u8 0] 64) 5)) (fun k hk => hb4.block k (KR.lt k hk).2)
      obtain ⟨vk, hvk⟩ : ∃ vk, (wr.alloc (.cells (madeCells #[.int .u8 0] 64) 5)).cell? ⟨G, i, none⟩ = some vk := ⟨_, by rw [KR4.cellAt i (by omega)]; exact List.getElem?_eq_getElem (by rw [KR4.1]; omega)⟩
      have fk := KR4.frozenAt i
      have KR5 := (KR4.stored i (.string zs)).1
      rw [repL_set _ _ _ _ hlt] at KR5
      have D5 := D4.setO (G := G) rfl hG0 i (.string zs)
      have KR5 := Lib.hid KR5
      have D5 := Lib.hid D5
      clear KR KR4 D4 D hb4
      generalize zs = z at *
      go_wp2_with fail
      go_roundw
      case rel => exact ⟨i + 1, by omega, by go_num, D5.out, KR5.out⟩
      case measure => simp [intOf]; omega
    · obtain rfl : N' = i := by omega
      have KR0 : Hid (wr.ownsRow G 9 1 (.slice (some ⟨G, 0, none⟩) N' N') N' ((lsR g N' 0).map .string)) := by
        show World.ownsRow _ _ _ _ _ _ _
        rw [show (lsR g N' 0).map Value.string = repL (.string zs) (.string ByteArray.empty) N' N' by show (List.replicate N' zs).map _ = _; simp [repL]]
        exact KR
      have D0 : Hid (D1 w wr (fun b => b = G) (sR g N' L X 0)) := D.out
      clear KR D hlt hi
      go_wp2_with fail
      go_loopw [10] (fun vi wr => ∃ i : Nat, i ≤ m ∧ vi = .int .i64 i ∧ D1 w wr (fun b => b = G) (sR g N' L X i) ∧ wr.ownsRow G 9 1 (.slice (some ⟨G, 0, none⟩) N' N') N' ((lsR g N' i).map .string)) (fun i _ => m - (intOf i).toNat)
      case atStart => exact ⟨0, Nat.zero_le _, rfl, D0.out, KR0.out⟩
      case round =>
        clear D0 KR0
        obtain ⟨i, hi, rfl, D, KR⟩ := hrel
        have D := Lib.hid D
        have KR := Lib.hid KR
        by_cases hlt : i < m
        · rcases HG.out.row with h0 | ⟨b, off, rfl, hb, hcl⟩
          · omega
          obtain ⟨u0, u1, u2, u3, u4, -, -⟩ := hcl i hlt
          have RD := Lib.hid (fun j (hj : j < N') => sR_rd g N' L X (i + 1) j hj)
          have LEN := Lib.hid (lsR_len g N' (i + 1))
          have LEN0 := Lib.hid (lsR_len g N' i)
          have hcn : (sR g N' L X i).C.length ≤ 1000 := by have := stR_len g N' i; show (stR g N' i).2.length ≤ _; omega
          have S5 : Hid (modOf (g i).k 10 = 5 → flS (sR g N' L X i) = sR g N' L X (i + 1) ∧ lsR g N' (i + 1) = lsR g N' i ∧ (sR g N' L X (i + 1)).S = lsR g N' i ∧ (sR g N' L X (i + 1)).C = []) := fun h => ⟨sR_fl g N' L X i h, (lsR_5 g N' i h).2, by show (stR g N' (i + 1)).1 = _; rw [(lsR_5 g N' i h).1], by show (stR g N' (i + 1)).2 = _; rw [(lsR_5 g N' i h).1]⟩
          have SW : Hid (modOf (g i).k 10 < 4 → wrS (sR g N' L X i) (modOf (g i).s N' : Nat) (secS (g i).d) = (sR g N' L X (i + 1), 0) ∧ lsR g N' (i + 1) = (lsR g N' i).set (modOf (g i).s N') (secS (g i).d)) := fun h => ⟨sR_wr g N' L X i (by omega) h, (lsR_w g N' i h).2⟩
          have SN : Hid (modOf (g i).k 10 ≠ 5 → ¬ modOf (g i).k 10 < 4 → sR g N' L X (i + 1) = sR g N' L X i ∧ lsR g N' (i + 1) = lsR g N' i) := fun h h2 => ⟨sR_n g N' L X i h h2, (lsR_n g N' i h h2).2⟩
          have KD := mod_any (g i).k 10 (by omega) (by omega)
          have KDl := (modOf_spec (g i).k 10 (by omega) (by omega)).2
          have SD := mod_any (g i).s N' (by omega) (by omega)
          have SDl := (modOf_spec (g i).s N' (by omega) (by omega)).2
          have SEC := fun W => sec_any (g i).d W
          clear hcl
          generalize modOf (g i).k 10 = k at *
          generalize modOf (g i).s N' = a at *
          generalize secS (g i).d = d at *
          have U0 := (D.out.bel.cell (p := ⟨b, off + i * 5, none⟩) (by exact hb)).trans u0
          have U1 := (D.out.bel.cell (p := ⟨b, off + i * 5 + 1, none⟩) (by exact hb)).trans u1
          have U2 := (D.out.bel.cell (p := ⟨b, off + i * 5 + 2, none⟩) (by exact hb)).trans u2
          have U3 := (D.out.bel.cell (p := ⟨b, off + i * 5 + 3, none⟩) (by exact hb)).trans u3
          have U4 := (D.out.bel.cell (p := ⟨b, off + i * 5 + 4, none⟩) (by exact hb)).trans u4
          have hbr : b < wr.heap.size := by have := D.out.bel.size; omega
          generalize (g i).k = xk at *
          generalize (g i).s = xs at *
          generalize (g i).d = xd at *
          generalize (g i).A = xA at *
          generalize (g i).n = xn at *
          generalize (g i).c = xc at *
          generalize (g i).raw = xr at *
          have hb4 : Below wr.heap.size wr (wr.alloc (.cells #[.int .i64 xk, .int .i64 xs, .int .i64 xd, .slice xA xn xc, .bool xr] 36)) := bal (Below.refl _ _) _
          have D4 : Hid (D1 w (wr.alloc (.cells #[.int .i64 xk, .int .i64 xs, .int .i64 xd, .slice xA xn xc, .bool xr] 36)) (fun b => b = G ∨ b = wr.heap.size) (sR g N' L X i)) := D.out.more hb4 (fun b e => by
            rcases e with e | e
            · exact .inl e
            · exact .inr (by subst e; exact ⟨Nat.le_refl _, by simp⟩))
          have KR4 := Lib.hid (own_keep KR.out (w' := wr.alloc (.cells #[.int .i64 xk, .int .i64 xs, .int .i64 xd, .slice xA xn xc, .bool xr] 36)) (fun j hj => hb4.block j (KR.out.lt j hj).2))
          have Z4 : (wr.alloc (.cells #[.int .i64 xk, .int .i64 xs, .int .i64 xd, .slice xA xn xc, .bool xr] 36)).heap[wr.heap.size]? = some (.cells #[.int .i64 xk, .int .i64 xs, .int .i64 xd, .slice xA xn xc, .bool xr] 36) := heap_alloc_new wr _
          have hG1 : G ≠ wr.heap.size := by have := (KR.out.lt G rfl).2; omega
          clear u0 u1 u2 u3 u4
          go_upto_region 16 with fail
          clear U0 U1 U2 U3 U4 D KR hb4 hbr
          generalize wr.alloc (.cells #[.int .i64 xk, .int .i64 xs, .int .i64 xd, .slice xA xn xc, .bool xr] 36) = w4 at *
          generalize wr.heap.size = Z at *
          have z0 : w4.cell? ⟨Z, 0, none⟩ = some (.int .i64 xk) := by simp [World.cell?, Z4]
          have z1 : w4.cell? ⟨Z, 1, none⟩ = some (.int .i64 xs) := by simp [World.cell?, Z4]
          have z2 : w4.cell? ⟨Z, 2, none⟩ = some (.int .i64 xd) := by simp [World.cell?, Z4]
          have hZ : Z < w4.heap.size := blk_lt Z4
          have KD4 := KD w4
          have SD4 := SD w4
          go_upto_region 17 with (go_at_call 11; refine SD4.mono ?_; rintro e w5 ⟨rfl, rfl⟩)
          clear SD4 SD
          go_upto_if 63 with (go_at_call 11; refine KD4.mono ?_; rintro e w5 ⟨rfl, rfl⟩)
          have KR4 := Lib.hid KR4
          go_cut [] (fun wx => D1 w wx (fun b => b = G) (sR g N' L X (i + 1)) ∧ wx.ownsRow G 9 1 (.slice (some ⟨G, 0, none⟩) N' N') N' ((lsR g N' (i + 1)).map .string))
          case first =>
            clear RD
            by_cases hk5 : k = 5
            · obtain ⟨E1, E2, E3, E4⟩ := S5.out hk5
              have q5 : ((k : Int) == 5) = true := by simp; omega
              have P := D4.out.call (fun F v Ka kc h _ _ => flush_any h)
              rw [E1, show flR (sR g N' L X i) = 0 from rfl] at P
              have H2 := Lib.hid E2
              have H3 := Lib.hid E3
              have H4 := Lib.hid E4
              clear S5 SW SN E1 E2 E3 E4 KD KD4 hk5 SEC
              go_wp2_with fail
              refine P.mono ?_
              clear P
              rintro e w5 ⟨rfl, D5, hs5, hk5⟩
              have KR5 := Lib.hid (own_keep KR4.out.out (w' := w5) (fun j hj => by cases hj; exact hk5 G (.inl rfl)))
              obtain ⟨F5, v5, Ka5, kc5, h5⟩ := D5.dk
              have P := pend_any h5
              rw [H4.out] at P
              go_wp2_with fail
              refine P.mono ?_
              clear P
              rintro e w5 ⟨rfl, rfl⟩
              have P := cont_any h5
              rw [H3.out] at P
              have D5 := Lib.hid D5
              clear h5 hs5 hk5 D4 KR4
              go_wp2_with fail
              refine P.mono ?_
              clear P
              rintro e w6 ⟨g6, c6, rfl, hr6, hb6⟩
              obtain ⟨A6, c6', e6, S6⟩ := own_sl hr6 rfl
              injection e6 with e61 e62 e63
              subst e61 e63
              clear e62
              have KR6 := own_keep KR5.out (w' := w6) (fun j hj => by cases hj; exact hb6.block _ (KR5.out.lt G rfl).2)
              obtain ⟨A7, c7', e7, S7⟩ := own_sl KR6 LEN0.out
              injection e7 with e71 e72 e73
              subst e71 e73
              clear e72
              have P := eql_any _ _ c6 N' _ _ w6 S6 S7
              rw [decide_eq_true rfl, LEN0.out] at P
              rw [LEN0.out]
              have KR6 := Lib.hid KR6
              have D6 := Lib.hid (D5.out.below hb6)
              clear S6 S7 hr6 hb6 D5 KR5
              go_wp2_with (go_at_call 19; refine P.mono ?_; rintro e w8 ⟨rfl, hb8⟩)
              go_meet
              refine ⟨D6.out.more hb8 (fun b e => .inl (.inl e)), ?_⟩
              rw [H2.out]
              exact own_keep KR6.out (fun j hj => by cases hj; exact hb8.block _ (KR6.out.lt G rfl).2)
            · have q5 : ((k : Int) == 5) = false := by simp; omega
              by_cases hk4 : k < 4
              · obtain ⟨E1, E2⟩ := SW.out hk4
                have q4 : (k : Int) < 4 := by omega
                have H2 := Lib.hid E2
                have E1 := Lib.hid E1
                clear S5 SW SN E2 hk5
                go_wp2_with (first
                  | (go_at_call 11; refine KD4.mono ?_; rintro e w5 ⟨rfl, rfl⟩)
                  | (go_at_call 25; refine (SEC _).mono ?_; rintro e w5 ⟨rfl, hb5⟩))
                have P := (D4.out.below hb5).call (fun F v Ka kc h _ _ => write_any h (a : Int) d hcn)
                rw [E1.out] at P
                have KR5 := Lib.hid (own_keep KR4.out.out (w' := w5) (fun j hj => by cases hj; exact hb5.block _ (KR4.out.out.lt G rfl).2))
                have Z5 := (hb5.block Z hZ).trans Z4
                refine P.mono ?_
                clear P
                rintro e w6 ⟨rfl, D6, hs6, hk6⟩
                have KR6 := Lib.hid (own_keep KR5.out (w' := w6) (fun j hj => by cases hj; exact hk6 G (.inl rfl)))
                have Z6 := (hk6 Z (.inr rfl)).trans Z5
                have z6 : w6.cell? ⟨Z, 2, none⟩ = some (.int .i64 xd) := by simp [World.cell?, Z6]
                have hZ6 := blk_lt Z6
                have D6 := Lib.hid D6
                clear KR5 hb5 D4 KR4 Z4 Z5 z0 z1 z2 hZ KD4 KD hs6 hk6
                go_upto_region 23 with fail
                go_wp2_with (go_at_call 25; refine (SEC _).mono ?_; rintro e w7 ⟨rfl, hb7⟩; have KR7 := own_keep KR6.out (w' := w7) (fun j hj => by cases hj; exact hb7.block _ (KR6.out.lt G rfl).2); have ca : w7.cell? ⟨G, a, none⟩ = some (.string ((lsR g N' i).getD a ByteArray.empty)) := (by rw [KR7.cellAt a (by omega), List.getElem?_map, List.getD_eq_getElem?_getD, List.getElem?_eq_getElem (by rw [LEN0.out]; exact SDl)]; rfl); have fa := KR7.frozenAt a; have D7 := D6.out.below hb7; have KR8 := (KR7.stored a (.string d)).1; have D8 := D7.setO (G := G) (.inl rfl) hG0 a (.string d); have KR8 := Lib.hid KR8; have D8 := Lib.hid D8; clear KR7 D7 hb7)
                go_meet
                refine ⟨D8.out.more (Below.refl _ _) (fun b e => .inl (.inl e)), ?_⟩
                rw [H2.out, List.map_set]
                exact KR8.out
              · obtain ⟨E1, E2⟩ := SN.out hk5 hk4
                have q4 : ¬ (k : Int) < 4 := by omega
                have E1 := Lib.hid E1
                have H2 := Lib.hid E2
                clear S5 SW SN E2 hk5 SEC
                go_wp2_with (go_at_call 11; refine KD4.mono ?_; rintro e w5 ⟨rfl, rfl⟩)
                go_meet
                refine ⟨?_, ?_⟩
                · rw [E1.out]
                  exact D4.out.more (Below.refl _ _) (fun b e => .inl (.inl e))
                · rw [H2.out]
                  exact KR4.out.out
          case rest =>
            obtain ⟨D5, KR5⟩ := hcut
            clear S5 SW SN KD KD4 SEC Z4 z0 z1 z2 hZ D4 KR4 hcn hG1
            obtain ⟨F5, v5, Ka5, kc5, h5⟩ := D5.dk
            have H5 := Lib.hid h5
            have D5 := Lib.hid D5
            have KR5 := Lib.hid KR5
            have hGl : G < wc.heap.size := (KR5.out.lt G rfl).2
            clear h5
            go_wp2_with fail
            go_loopw [13] (fun vi wr => ∃ j : Nat, j ≤ N' ∧ vi = .int .i64 j ∧ wc = wr) (fun v _ => N' - (intOf v).toNat)
            case atStart => exact ⟨0, Nat.zero_le _, rfl, rfl⟩
            case round =>
              obtain ⟨j, hj, rfl, rfl⟩ := hrel
              by_cases hjn : j < N'
              · have P := read_any H5.out j
                rw [RD.out j hjn] at P
                have cj : wc.cell? ⟨G, j, none⟩ = some (.string ((lsR g N' (i + 1)).getD j ByteArray.empty)) := by
                  rw [KR5.out.cellAt j (by omega), List.getElem?_map, List.getD_eq_getElem?_getD, List.getElem?_eq_getElem (by rw [LEN.out]; exact hjn)]
                  rfl
                generalize (lsR g N' (i + 1)).getD j ByteArray.empty = e at *
                have qe : (e.toList == e.toList) = true := by simp
                have qe2 : (e.toList != e.toList) = false := by simp
                go_wp2_with fail
                refine P.mono ?_
                clear P
                rintro e9 w9 ⟨rfl, rfl⟩
                go_wp2_with fail
                go_roundw
                case rel => exact ⟨j + 1, by omega, by first | rfl | simp⟩
                case measure => simp [intOf]; omega
              · clear H5
                go_wp2_with fail
                go_roundw
                case rel => exact ⟨i + 1, by omega, by go_num, D5.out, KR5.out⟩
                case measure => simp [intOf]; omega
        · have B7 := Lib.hid D.out.bel
          clear D KR
          go_wp2_with (go_at_call 10; refine (AW.out _).mono ?_; rintro e w8 ⟨rfl, hb8⟩)
          go_ret
          exact ⟨rfl, bel2 B7.out hb8⟩
theorem rlw_walk (n : Int) (A : Option Addr) (m cc : Nat) (g : Nat → Cl) (w : World) (_ : (Lit.int .i64 n).wf = true) (hg : Cs w A m g) :
    Calls Try.prog 5 #[.int .i64 n, .slice A m cc] w (LawPost w) := rlw_rest n A m cc g w hg
end Go.Proofs.Ytoafoikphpdimaa
