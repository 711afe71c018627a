/- PagezipRepeatedWord. -/
import Derived.Test.YtpfaicdoaldioaaZt
import Derived.Test.YtpfaicdoaldioaaInc
namespace Go.Proofs.Ytpfaicdoaldioaa
open Go.ChangeShapes Go.WideShapes Go.ChangeAt Go.RowKit Go.Deep Go.Joins

/-- The bytes after i words, and j bytes of the next. -/
def Rp (x : Int) (L : List Int) (i j : Nat) : Prop := ∀ y, y < 256 → L.getD y 0 = if 13 * (y / 4) % 64 < i ∨ (13 * (y / 4) % 64 = i ∧ y % 4 < j) then x / 2 ^ (8 * (y % 4)) % 256 else 0
theorem rp_0 (x : Int) : Rp x (List.replicate 256 0) 0 0 := by
  intro y hy
  rw [if_neg (by omega), List.getD_eq_getElem?_getD, List.getElem?_replicate, if_pos hy]
  rfl
theorem Rp.set {x : Int} {L : List Int} {i j : Nat} (h : Rp x L i j) (hL : L.length = 256) (hi : i < 64) (hj : j < 4) : Rp x (L.set (4 * (5 * i % 64) + j) (x / 2 ^ (8 * j) % 256)) i (j + 1) := by
  intro y hy
  rw [List.getD_eq_getElem?_getD]
  by_cases e : y = 4 * (5 * i % 64) + j
  · subst e
    rw [List.getElem?_set_self (by omega), if_pos (by omega), show (4 * (5 * i % 64) + j) % 4 = j by omega]
    rfl
  · rw [List.getElem?_set_ne (fun z => e z.symm), ← List.getD_eq_getElem?_getD, h y hy]
    by_cases c : 13 * (y / 4) % 64 < i ∨ (13 * (y / 4) % 64 = i ∧ y % 4 < j)
    · rw [if_pos c, if_pos (by omega)]
    · rw [if_neg c, if_neg (by omega)]
theorem Rp.next {x : Int} {L : List Int} {i : Nat} (h : Rp x L i 4) : Rp x L (i + 1) 0 := by
  intro y hy
  rw [h y hy]
  by_cases c : 13 * (y / 4) % 64 < i ∨ (13 * (y / 4) % 64 = i ∧ y % 4 < 4)
  · rw [if_pos c, if_pos (by omega)]
  · rw [if_neg c, if_neg (by omega)]
def rw' (x : Int) (m q : Nat) : Int := if 13 * q % 64 < m then x else 0
theorem Rp.bd {x : Int} {L : List Int} {m : Nat} (hL : L.length = 256) (h : Rp x L m 0) : ∀ y ∈ L, 0 ≤ y ∧ y < 256 := by
  intro y hy
  obtain ⟨j, hj, rfl⟩ := List.mem_iff_getElem.1 hy
  have := h j (by omega)
  rw [List.getD_eq_getElem?_getD, List.getElem?_eq_getElem hj] at this
  simp only [Option.getD_some] at this
  rw [this]
  split <;> omega
theorem Rp.word {x : Int} {L : List Int} {m : Nat} (hL : L.length = 256) (h : Rp x L m 0) (hx : 0 ≤ x ∧ x < 4294967296) (i : Nat) (hi : i < 64) : wd (strOfNums L) i = rw' x m i := by
  have b : ∀ k, k < 4 → bt (strOfNums L) (4 * i + k) = if 13 * i % 64 < m then x / 2 ^ (8 * k) % 256 else 0 := fun k hk => by
    rw [bt_son _ _ (Rp.bd hL h) (by omega), h _ (by omega), show (4 * i + k) / 4 = i by omega, show (4 * i + k) % 4 = k by omega]
    by_cases c : 13 * i % 64 < m
    · rw [if_pos (by omega), if_pos c]
    · rw [if_neg (by omega), if_neg c]
  have b0 := b 0 (by omega)
  have b1 := b 1 (by omega)
  have b2 := b 2 (by omega)
  have b3 := b 3 (by omega)
  show bt _ (4 * i) + 256 * (bt _ (4 * i + 1) + 256 * (bt _ (4 * i + 1 + 1) + 256 * (bt _ (4 * i + 1 + 1 + 1) + 256 * 0))) = _
  rw [Nat.add_zero] at b0
  rw [b0, b1, b2, b3]
  unfold rw'
  split
  · simp only [show (2 : Int) ^ (8 * 0) = 1 from rfl, show (2 : Int) ^ (8 * 1) = 256 from rfl, show (2 : Int) ^ (8 * 2) = 65536 from rfl, show (2 : Int) ^ (8 * 3) = 16777216 from rfl]
    omega
  · rfl
def cnt (m : Nat) : Nat → Nat
  | 0 => 0
  | i + 1 => cnt m i + if 13 * i % 64 < m then 1 else 0
theorem cnt_64 : ∀ m, m < 65 → cnt m 64 = m := by decide +kernel
def fst (x : Int) : Nat := if x / 65536 = 0 then 3 else 4
theorem rep_len (x : Int) (hx : 0 < x) (m i : Nat) : (cnt m i = 0 → (∀ k, dct (rw' x m) i k = 0) ∧ (bsl (rw' x m) i).length = 0) ∧ (0 < cnt m i → dct (rw' x m) i (slotN x) = x ∧ (bsl (rw' x m) i).length = fst x + cnt m i - 1) := by
  induction i with
  | zero => exact ⟨fun _ => ⟨fun _ => rfl, rfl⟩, fun h => absurd h (by show ¬ 0 < 0; omega)⟩
  | succ i ih =>
    have ed : dct (rw' x m) (i + 1) = dstep (dct (rw' x m) i) (rw' x m i) := rfl
    have eb : bsl (rw' x m) (i + 1) = bsl (rw' x m) i ++ bsOf (dct (rw' x m) i) (rw' x m i) := rfl
    have ec : cnt m (i + 1) = cnt m i + if 13 * i % 64 < m then 1 else 0 := rfl
    rw [ed, eb, ec, List.length_append]
    by_cases c : 13 * i % 64 < m
    · have ew : rw' x m i = x := by unfold rw'; rw [if_pos c]
      rw [if_pos c, ew]
      refine ⟨fun h => by omega, fun _ => ⟨by unfold dstep; rw [if_neg (by omega), if_pos rfl], ?_⟩⟩
      by_cases c0 : cnt m i = 0
      · obtain ⟨h1, h2⟩ := ih.1 c0
        rw [h2, c0]
        unfold bsOf fst
        rw [if_neg (by omega), h1, if_neg (by omega)]
        by_cases cu : x / 65536 = 0
        · rw [if_pos (by rw [cu]; rfl), if_pos cu]; rfl
        · rw [if_neg (fun z => cu (by rw [z]; rfl)), if_neg cu, leI_len]
      · obtain ⟨h1, h2⟩ := ih.2 (by omega)
        rw [h2]
        unfold bsOf
        rw [if_neg (by omega), h1, if_pos rfl]
        have : 3 ≤ fst x := by unfold fst; split <;> omega
        simp only [List.length_cons, List.length_nil]
        omega
    · have ew : rw' x m i = 0 := by unfold rw'; rw [if_neg c]
      rw [if_neg c, ew]
      have e1 : dstep (dct (rw' x m) i) 0 = dct (rw' x m) i := by unfold dstep; rw [if_pos rfl]
      have e2 : (bsOf (dct (rw' x m) i) 0).length = 0 := by unfold bsOf; rw [if_pos rfl]; rfl
      rw [e1, e2]
      exact ih
def wnt (x : Int) (m : Nat) : Nat := if m = 0 then 17 else 16 + fst x + m
theorem rep_cmp (x : Int) (hx : 0 < x ∧ x < 4294967296) (m : Nat) (hm : m < 65) (L : List Int) (hL : L.length = 256) (h : Rp x L m 0) : (cmp (strOfNums L)).size = wnt x m := by
  have e := (bsl_congr (wd (strOfNums L)) (rw' x m) 64 (fun i hi => Rp.word hL h ⟨by omega, hx.2⟩ i hi) 64 (Nat.le_refl _)).2
  have hl := rep_len x hx.1 m 64
  rw [cnt_64 m hm, ← e] at hl
  have hf : fst x ≤ 4 := by unfold fst; split <;> omega
  have hlen : (bsl (wd (strOfNums L)) 64).length = wnt x m - 17 := by
    unfold wnt
    by_cases c : m = 0
    · rw [if_pos c, (hl.1 c).2]
    · rw [if_neg c, (hl.2 (by omega)).2]; omega
  have hw : 17 ≤ wnt x m ∧ wnt x m ≤ 84 := by
    have : 3 ≤ fst x := by unfold fst; split <;> omega
    unfold wnt
    split <;> omega
  unfold cmp
  rw [if_neg (by omega), son_size, outL_len]
  omega
theorem u32_of_wf {n : Int} (h : (Lit.int .u32 n).wf = true) : 0 ≤ n ∧ n < 4294967296 := by
  have := bounds_u32 h
  omega
set_option maxRecDepth 20000 in
set_option maxHeartbeats 4000000 in
theorem rep_any (x0 v : Int) (w : World) (hw1 : (Lit.int .u32 x0).wf = true) (_hw2 : (Lit.int .i64 v).wf = true) : Calls Try.prog 7 #[.int .u32 x0, .int .i64 v] w (LawPost w) := by
  have h1 := u32_of_wf hw1
  clear hw1 _hw2
  have M := fun w' => mod_any v 65 (by omega) (by omega) w'
  have hm := (modOf_spec v 65 (by omega) (by omega)).2
  generalize modOf v 65 = m at *
  obtain ⟨x, hx⟩ : ∃ x : Int, x = if x0 = 0 then 1 else x0 := ⟨_, rfl⟩
  have hx1 : 0 < x ∧ x < 4294967296 := by rw [hx]; split <;> omega
  have m1 := make256
  have HX := Lib.hid hx
  clear hx
  go_enter Try.func7, Try.ntmps7
  go_wp2_with fail
  refine (M _).mono ?_
  rintro e w1 ⟨rfl, rfl⟩
  clear M
  go_upto_if 15 with fail
  go_cut [0] (fun v wx => v = .int .u32 x ∧ w = wx)
  case first =>
    by_cases c : x0 = 0
    · have e : Hid (x = 1) := by show _ = _; rw [HX.out, if_pos c]
      subst c
      go_wp2
      go_meet
      exact ⟨by rw [e.out], rfl⟩
    · have e : Hid (x = x0) := by show _ = _; rw [HX.out, if_neg c]
      have e0 : (x0 == 0) = false := beq_eq_false_iff_ne.2 c
      go_wp2
      go_meet
      exact ⟨by rw [e.out], rfl⟩
  case rest =>
    obtain ⟨rfl, rfl⟩ := hcut
    have m1 := m1 w
    go_wp2_with fail
    have P0 := Lib.hid (pg_0 w)
    clear m1
    generalize hw0 : w.alloc _ = w0 at *
    clear hw0 HX
    go_loopg [7] m (fun g vi wr => ∃ i : Nat, ∃ L : List Int, i + g = m ∧ vi = .int .i64 i ∧ Pg w wr L ∧ Rp x L i 0)
    case atStart => exact ⟨0, _, by omega, rfl, P0.out, rp_0 x⟩
    case round =>
      clear P0
      obtain ⟨i, L, hi, rfl, hP, hF⟩ := hrel
      by_cases hlt : i < m
      · obtain ⟨g, rfl⟩ : ∃ g, gk = g + 1 := ⟨gk - 1, by omega⟩
        have HG := Lib.hid hi
        have HP := Lib.hid hP
        have HF := Lib.hid hF
        clear hi hP hF
        have hq : (5 * (i : Int)).tmod 64 = ((5 * i % 64 : Nat) : Int) := by rw [Int.tmod_eq_emod_of_nonneg (by omega)]; omega
        obtain ⟨q, hqq⟩ : ∃ q, 5 * i % 64 = q := ⟨_, rfl⟩
        have hq64 : q < 64 := by omega
        rw [hqq] at hq
        have HQ := Lib.hid hqq
        clear hqq
        go_wp2_with fail
        go_loopg [8] 4 (fun g2 vj wx => ∃ j : Nat, ∃ L : List Int, j + g2 = 4 ∧ vj = .int .i64 j ∧ Pg w wx L ∧ Rp x L i j)
        case atStart => exact ⟨0, L, rfl, rfl, HP.out, HF.out⟩
        case round =>
          clear HP HF
          obtain ⟨j, L2, hj, rfl, hP2, hF2⟩ := hrel
          have HP2 := Lib.hid hP2
          have HF2 := Lib.hid hF2
          by_cases hj4 : j < 4
          · obtain ⟨v, hv⟩ := hP2.cell (4 * q + j) (by omega)
            have hf := hP2.own.frozenAt (4 * q + j)
            have HJ := Lib.hid hj
            obtain ⟨g3, rfl⟩ : ∃ g3, gk = g3 + 1 := ⟨gk - 1, by omega⟩
            have HN : Hid (Rp x (L2.set (4 * q + j) (x / 2 ^ (8 * j) % 256)) i (j + 1)) := by
              have := hF2.set hP2.len (by omega) hj4
              rw [HQ.out] at this
              exact this
            clear hP2 hj hF2 HF2
            go_wp2_with fail
            go_roundg g3
            case measure => omega
            case rel => exact ⟨j + 1, _, by have := HJ.out; omega, by go_num, HP2.out.set (4 * q + j) _, HN.out⟩
          · have HJ := Lib.hid hj
            have HN : Hid (Rp x L2 (i + 1) 0) := by
              obtain rfl : j = 4 := by omega
              exact hF2.next
            clear hP2 hj hF2 HF2
            go_wp2_with fail
            go_roundg g
            case measure => omega
            case rel => exact ⟨i + 1, L2, by have := HG.out; omega, by go_num, HP2.out, HN.out⟩
      · have hcv := run_convert_bytes_arg (P := Try.prog) wr 31 5 Try.underlying31 Try.underlying5 w.heap.size 0 256 256 L hP.len (fun j hj => by
          rw [Nat.zero_add, hP.own.cellAt j (by omega), List.getElem?_map, List.getD_eq_getElem?_getD, List.getElem?_eq_getElem (by rw [hP.len]; exact hj)]
          rfl) 9 Try.underlying9
        have hz : (strOfNums L).size = 256 := by rw [son_size]; exact hP.len
        have C := fun w => cmp_any (strOfNums L) w
        have him : i = m := by omega
        rw [him] at hF
        have hc := rep_cmp x hx1 m hm L hP.len hF
        rw [cmpR_ok _ hz] at C
        have HB := Lib.hid hP.bel
        have hmi : ¬ (i : Int) < (m : Int) := by omega
        clear hP hF hi him
        generalize cmp (strOfNums L) = y at *
        generalize strOfNums L = z at *
        go_wp2_with fail
        refine (C _).mono ?_
        rintro e w2 ⟨rfl, hb2⟩
        have B2 := Lib.hid (bel2 HB.out hb2)
        clear hb2 C HB hcv hlt hmi
        unfold pairV
        by_cases c0 : m = 0
        · have hs : y.size = 17 := by rw [hc]; unfold wnt; rw [if_pos c0]
          subst c0
          go_wp2_with fail
          refine (awake_any _).mono ?_
          rintro e w4 ⟨rfl, hb4⟩
          have HB := Lib.hid (bel2 B2.out hb4)
          clear hb4 B2
          go_wp2
          go_ret
          exact ⟨rfl, HB.out⟩
        · have hm0 : 0 < m := by omega
          by_cases cu : x / 65536 = 0
          · have hs : y.size = 19 + m := by rw [hc]; unfold wnt fst; rw [if_neg c0, if_pos cu]
            have hsi : (y.size : Int) = 19 + (m : Int) := by omega
            have e1 : (19 + (m : Int) == 21 + (m : Int) - 1 - 1) = true := beq_iff_eq.2 (by omega)
            clear hc hs
            go_wp2_with fail
            refine (awake_any _).mono ?_
            rintro e w4 ⟨rfl, hb4⟩
            have HB := Lib.hid (bel2 B2.out hb4)
            clear hb4 B2
            go_wp2
            go_ret
            exact ⟨rfl, HB.out⟩
          · have hs : y.size = 20 + m := by rw [hc]; unfold wnt fst; rw [if_neg c0, if_neg cu]
            have eu : (x / 65536 == 0) = false := beq_eq_false_iff_ne.2 cu
            have hsi : (y.size : Int) = 20 + (m : Int) := by omega
            have e1 : (20 + (m : Int) == 21 + (m : Int) - 1) = true := beq_iff_eq.2 (by omega)
            clear hc hs
            go_wp2_with fail
            refine (awake_any _).mono ?_
            rintro e w4 ⟨rfl, hb4⟩
            have HB := Lib.hid (bel2 B2.out hb4)
            clear hb4 B2
            go_wp2
            go_ret
            exact ⟨rfl, HB.out⟩
end Go.Proofs.Ytpfaicdoaldioaa
