/- PagezipIncompressible. -/
import Derived.Test.YtpfaicdoaldioaaRtw
namespace Go.Proofs.Ytpfaicdoaldioaa
open Go.ChangeShapes Go.WideShapes Go.ChangeAt Go.RowKit Go.Deep Go.Joins

/-- The first k bytes are those of the words W. -/
def Fil (W : Nat → Int) (L : List Int) (k : Nat) : Prop := ∀ x, x < k → L.getD x 0 = W (x / 4) / 2 ^ (8 * (x % 4)) % 256
theorem Fil.set {W : Nat → Int} {L : List Int} {k : Nat} (h : Fil W L k) (hk : k < L.length) : Fil W (L.set k (W (k / 4) / 2 ^ (8 * (k % 4)) % 256)) (k + 1) := by
  intro x hx
  rw [List.getD_eq_getElem?_getD]
  by_cases e : x = k
  · subst e
    rw [List.getElem?_set_self hk]
    rfl
  · rw [List.getElem?_set_ne (fun z => e z.symm), ← List.getD_eq_getElem?_getD]
    exact h x (by omega)
theorem Fil.word {W : Nat → Int} {L : List Int} (hL : L.length = 256) (h : Fil W L 256) (hb : ∀ x ∈ L, 0 ≤ x ∧ x < 256) (i : Nat) (hi : i < 64) (hw : 0 ≤ W i ∧ W i < 4294967296) : wd (strOfNums L) i = W i := by
  have b : ∀ m, m < 4 → bt (strOfNums L) (4 * i + m) = W i / 2 ^ (8 * m) % 256 := fun m hm => by
    rw [bt_son _ _ hb (by omega), h _ (by omega), show (4 * i + m) / 4 = i by omega, show (4 * i + m) % 4 = m by omega]
  have b0 := b 0 (by omega)
  have b1 := b 1 (by omega)
  have b2 := b 2 (by omega)
  have b3 := b 3 (by omega)
  simp at b0 b1 b2 b3
  show bt _ (4 * i) + 256 * (bt _ (4 * i + 1) + 256 * (bt _ (4 * i + 1 + 1) + 256 * (bt _ (4 * i + 1 + 1 + 1) + 256 * 0))) = _
  rw [b0, b1, b2, b3]
  omega
theorem Fil.bd {W : Nat → Int} {L : List Int} (h : Fil W L L.length) : ∀ x ∈ L, 0 ≤ x ∧ x < 256 := by
  intro x hx
  obtain ⟨j, hj, rfl⟩ := List.mem_iff_getElem.1 hx
  have := h j hj
  rw [List.getD_eq_getElem?_getD, List.getElem?_eq_getElem hj] at this
  simp at this
  omega
def iw (sd low : Int) (i : Nat) : Int := ((i : Int) + 1 + sd) * 65536 + low + i
theorem iw_dct (sd low : Int) (i : Nat) (h0 : 0 ≤ sd) (h1 : 0 ≤ low) (k : Nat) : dct (iw sd low) i k / 65536 < iw sd low i / 65536 := by
  induction i with
  | zero =>
    show (0 : Int) / 65536 < _
    unfold iw
    omega
  | succ i ih =>
    have e : iw sd low (i + 1) = iw sd low i + 65537 := by unfold iw; omega
    have hne : iw sd low i ≠ 0 := by unfold iw; omega
    have ed : dct (iw sd low) (i + 1) k = if k = slotN (iw sd low i) then iw sd low i else dct (iw sd low) i k := by
      show dstep (dct (iw sd low) i) (iw sd low i) k = _
      unfold dstep
      rw [if_neg hne]
    rw [ed, e]
    split <;> omega
theorem iw_bsl (sd low : Int) (i : Nat) (h0 : 0 ≤ sd) (h1 : 0 ≤ low) : (bsl (iw sd low) i).length = 4 * i := by
  induction i with
  | zero => rfl
  | succ i ih =>
    have hne : iw sd low i ≠ 0 := by unfold iw; omega
    have hd := iw_dct sd low i h0 h1 (slotN (iw sd low i))
    show (bsl (iw sd low) i ++ bsOf (dct (iw sd low) i) (iw sd low i)).length = _
    rw [List.length_append, ih]
    unfold bsOf
    rw [if_neg hne, if_neg (fun e => by rw [← e] at hd; omega), if_neg (by omega), leI_len]
    omega
theorem bsl_congr' (W V : Nat → Int) (m : Nat) (h : ∀ i, i < m → W i = V i) (j : Nat) (hj : j ≤ m) : dct W j = dct V j ∧ bsl W j = bsl V j := by
  induction j with
  | zero => exact ⟨rfl, rfl⟩
  | succ j ih =>
    obtain ⟨h1, h2⟩ := ih (by omega)
    have e := h j (by omega)
    refine ⟨?_, ?_⟩
    · show dstep (dct W j) (W j) = dstep (dct V j) (V j); rw [h1, e]
    · show bsl W j ++ bsOf (dct W j) (W j) = bsl V j ++ bsOf (dct V j) (V j); rw [h1, h2, e]
theorem inc_cmp (sd low : Int) (h0 : 0 ≤ sd ∧ sd < 60000) (h1 : 0 ≤ low ∧ low < 65536) (L : List Int) (hL : L.length = 256) (h : Fil (iw sd low) L 256) : cmp (strOfNums L) = strOfNums [0] ++ strOfNums L := by
  have hb := Fil.bd (W := iw sd low) (L := L) (by rw [hL]; exact h)
  have e := (bsl_congr' (wd (strOfNums L)) (iw sd low) 64 (fun i hi => Fil.word hL h hb i hi (by unfold iw; omega)) 64 (Nat.le_refl _)).2
  have hl := iw_bsl sd low 64 h0.1 h1.1
  rw [← e] at hl
  unfold cmp
  rw [if_pos (by omega)]
theorem u16_of_wf {n : Int} (h : (Lit.int .u16 n).wf = true) : 0 ≤ n ∧ n < 65536 := by
  have := bounds_u16 h
  omega
set_option maxRecDepth 20000 in
set_option maxHeartbeats 4000000 in
theorem inc_any (seed low : Int) (w : World) (hw1 : (Lit.int .u16 seed).wf = true) (hw2 : (Lit.int .u16 low).wf = true) : Calls Try.prog 8 #[.int .u16 seed, .int .u16 low] w (LawPost w) := by
  have h1 := u16_of_wf hw1
  have h2 := u16_of_wf hw2
  clear hw1 hw2
  have m1 := make256 w
  have hse : seed.tmod 60000 = seed % 60000 := Int.tmod_eq_emod_of_nonneg h1.1
  have hsd : 0 ≤ seed % 60000 ∧ seed % 60000 < 60000 := by omega
  go_enter Try.func8, Try.ntmps8
  go_wp2_with fail
  have P0 := Lib.hid (pg_0 w)
  clear m1
  generalize hw0 : w.alloc _ = w0 at *
  clear hw0
  generalize seed % 60000 = sd at *
  go_loopg [6] 64 (fun g vi wr => ∃ i : Nat, ∃ L : List Int, i + g = 64 ∧ vi = .int .i64 i ∧ Pg w wr L ∧ Fil (iw sd low) L (4 * i))
  case atStart => exact ⟨0, _, rfl, rfl, P0.out, fun x hx => by omega⟩
  case round =>
    clear P0
    obtain ⟨i, L, hi, rfl, hP, hF⟩ := hrel
    by_cases hlt : i < 64
    · obtain ⟨g, rfl⟩ : ∃ g, gk = g + 1 := ⟨gk - 1, by omega⟩
      have HG := Lib.hid hi
      have HP := Lib.hid hP
      have HF := Lib.hid hF
      clear hi hP hF
      have ew : Hid (iw sd low i = ((i : Int) + 1 + sd) * 65536 + low + i) := rfl
      have hb : ((i : Int) + 1 + sd) * 65536 + low + i < 4294967296 := by omega
      go_wp2_with fail
      rw [← ew.out]
      generalize hx : iw sd low i = x at *
      have HX := Lib.hid hx
      clear hx hb ew
      go_loopg [8] 4 (fun g2 vj wx => ∃ j : Nat, ∃ L : List Int, j + g2 = 4 ∧ vj = .int .i64 j ∧ Pg w wx L ∧ Fil (iw sd low) L (4 * i + j))
      case atStart => exact ⟨0, L, rfl, rfl, HP.out, HF.out⟩
      case round =>
        clear HP HF
        obtain ⟨j, L2, hj, rfl, hP2, hF2⟩ := hrel
        have HP2 := Lib.hid hP2
        have HF2 := Lib.hid hF2
        by_cases hj4 : j < 4
        · obtain ⟨v, hv⟩ := hP2.cell (4 * i + j) (by omega)
          have hf := hP2.own.frozenAt (4 * i + j)
          have HJ := Lib.hid hj
          obtain ⟨g3, rfl⟩ : ∃ g3, gk = g3 + 1 := ⟨gk - 1, by omega⟩
          have HN : Hid (Fil (iw sd low) (L2.set (4 * i + j) (x / 2 ^ (8 * j) % 256)) (4 * i + (j + 1))) := by
            have := hF2.set (by rw [hP2.len]; omega)
            rw [show (4 * i + j) / 4 = i by omega, show (4 * i + j) % 4 = j by omega, HX.out] at this
            exact this
          clear hP2 hj hF2 HF2
          go_wp2_with fail
          go_roundg g3
          case measure => omega
          case rel => exact ⟨j + 1, _, by have := HJ.out; omega, by go_num, HP2.out.set (4 * i + j) _, HN.out⟩
        · have HJ := Lib.hid hj
          have HN : Hid (Fil (iw sd low) L2 (4 * (i + 1))) := by
            have e : 4 * i + j = 4 * (i + 1) := by omega
            show Fil _ _ _
            rw [← e]; exact hF2
          clear hP2 hj hF2 HF2
          go_wp2_with fail
          go_roundg g
          case measure => omega
          case rel => exact ⟨i + 1, L2, by have := HG.out; omega, by go_num, HP2.out, HN.out⟩
    · obtain rfl : i = 64 := by omega
      have hcv := run_convert_bytes_arg (P := Try.prog) wr 31 5 Try.underlying31 Try.underlying5 w.heap.size 0 256 256 L hP.len (fun j hj => by
        rw [Nat.zero_add, hP.own.cellAt j (by omega), List.getElem?_map, List.getD_eq_getElem?_getD, List.getElem?_eq_getElem (by rw [hP.len]; exact hj)]
        rfl) 9 Try.underlying9
      have hcv2 : Hid (∀ wz, Below wr.heap.size wr wz → (convert 31 9 (.slice (some ⟨w.heap.size, 0, none⟩) 256 256)).run Try.prog wz = .ok (.string (strOfNums L)) wz) := fun wz hb => by
        have o := own_chg hP.own (Chg.of_below hb (fun _ => False)) (fun _ _ x => x)
        exact run_convert_bytes_arg (P := Try.prog) wz 31 5 Try.underlying31 Try.underlying5 w.heap.size 0 256 256 L hP.len (fun j hj => by
          rw [Nat.zero_add, o.cellAt j (by omega), List.getElem?_map, List.getD_eq_getElem?_getD, List.getElem?_eq_getElem (by rw [hP.len]; exact hj)]
          rfl) 9 Try.underlying9
      have hz : (strOfNums L).size = 256 := by rw [son_size]; exact hP.len
      have C := fun w => cmp_any (strOfNums L) w
      rw [cmpR_ok _ hz, inc_cmp sd low hsd h2 L hP.len hF] at C
      have e0 : ({ data := #[0] } : ByteArray) ++ strOfNums L = strOfNums [0] ++ strOfNums L := by rw [show ({ data := #[0] } : ByteArray) = strOfNums [0] from rfl]
      have HB := Lib.hid hP.bel
      clear hP hF hi
      generalize strOfNums [0] ++ strOfNums L = y at *
      generalize strOfNums L = z at *
      go_wp2_with fail
      refine (C _).mono ?_
      rintro e w2 ⟨rfl, hb2⟩
      have B2 := Lib.hid (bel2 HB.out hb2)
      have cv3 := hcv2.out w2 hb2
      clear hb2 C HB hcv hcv2
      unfold pairV
      have t1 := str_t (rfl : y = y)
      go_wp2_with fail
      refine (awake_any _).mono ?_
      rintro e w4 ⟨rfl, hb4⟩
      have HB := Lib.hid (bel2 B2.out hb4)
      clear hb4 B2
      go_wp2
      go_ret
      exact ⟨rfl, HB.out⟩
end Go.Proofs.Ytpfaicdoaldioaa
