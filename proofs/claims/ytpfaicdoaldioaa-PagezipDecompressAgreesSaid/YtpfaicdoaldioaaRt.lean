/- Expanding what was compressed gives the page. -/
import Derived.Test.YtpfaicdoaldioaaDcp
namespace Go.Proofs.Ytpfaicdoaldioaa
open Go.ChangeShapes Go.WideShapes Go.ChangeAt Go.RowKit Go.Deep Go.Joins

theorem bsl_split (W : Nat → Int) (i k : Nat) : ∃ tl, bsl W (i + k) = bsl W i ++ tl := by
  induction k with
  | zero => exact ⟨[], by simp⟩
  | succ k ih =>
    obtain ⟨tl, h⟩ := ih
    exact ⟨tl ++ bsOf (dct W (i + k)) (W (i + k)), by show bsl W (i + k) ++ bsOf (dct W (i + k)) (W (i + k)) = _; rw [h, List.append_assoc]⟩
theorem bsl_at (W : Nat → Int) (i : Nat) (h : i < 64) : ∃ tl, bsl W 64 = bsl W i ++ (bsOf (dct W i) (W i) ++ tl) := by
  obtain ⟨tl, e⟩ := bsl_split W (i + 1) (64 - (i + 1))
  rw [show i + 1 + (64 - (i + 1)) = 64 by omega] at e
  exact ⟨tl, by rw [e, ← List.append_assoc]; rfl⟩
theorem bsOf_bd (D : Nat → Int) (w : Int) : ∀ x ∈ bsOf D w, 0 ≤ x ∧ x < 256 := by
  unfold bsOf
  have := slotN_lt w
  split
  · intro x hx; cases hx
  split
  · intro x hx; simp at hx; omega
  split
  · intro x hx; simp at hx; omega
  · exact leI_bd _ _
theorem bsl_bd (W : Nat → Int) (i : Nat) : ∀ x ∈ bsl W i, 0 ≤ x ∧ x < 256 := by
  induction i with
  | zero => intro x hx; cases hx
  | succ i ih =>
    intro x hx
    rcases List.mem_append.1 hx with h | h
    · exact ih x h
    · exact bsOf_bd _ _ x h
theorem outL_bd (W : Nat → Int) (i : Nat) : ∀ x ∈ outL W i, 0 ≤ x ∧ x < 256 := by
  intro x hx
  rcases List.mem_cons.1 hx with h | h
  · omega
  rcases List.mem_append.1 h with h | h
  · obtain ⟨j, _, rfl⟩ := List.mem_map.1 h
    exact tbv_bd W i j
  · exact bsl_bd W i x h
theorem outL_get' (W : Nat → Int) (j : Nat) (hj : j < 16) : (outL W 64)[1 + j]? = some (tbv W 64 j) := by
  show (1 :: (tagL W 64 ++ bsl W 64))[1 + j]? = _
  rw [Nat.add_comm 1 j, List.getElem?_cons_succ, List.getElem?_append_left (by rw [tagL_len]; omega)]
  unfold tagL
  rw [List.getElem?_map, List.getElem?_range (by omega)]
  rfl
theorem tagN_out (W : Nat → Int) (i : Nat) (h : i < 64) (c : ByteArray) (hc : c = strOfNums (outL W 64)) : (tagN c i : Int) = tg W i := by
  have hb : bt c (1 + i / 4) = tbv W 64 (i / 4) := by
    rw [hc, bt_son _ _ (outL_bd W 64) (by rw [outL_len]; omega), List.getD_eq_getElem?_getD]
    have := outL_get' W (i / 4) (by omega)
    rw [this]
    rfl
  rw [tagN_eq, hb]
  have h0 := tgm_bd W 64 (4 * (i / 4))
  have h1 := tgm_bd W 64 (4 * (i / 4) + 1)
  have h2 := tgm_bd W 64 (4 * (i / 4) + 2)
  have h3 := tgm_bd W 64 (4 * (i / 4) + 3)
  have ht : tgm W 64 i = tg W i := by unfold tgm; rw [if_pos h]
  unfold tbv
  rcases (show i % 4 = 0 ∨ i % 4 = 1 ∨ i % 4 = 2 ∨ i % 4 = 3 by omega) with e | e | e | e
  · have key : tgm W 64 (4 * (i / 4)) = tg W i := by rw [show 4 * (i / 4) = i by omega]; exact ht
    rw [e, show (2 : Int) ^ (2 * 0) = 1 from rfl, ← key]
    clear key ht hb
    generalize tgm W 64 (4 * (i / 4)) = a0 at *
    generalize tgm W 64 (4 * (i / 4) + 1) = a1 at *
    generalize tgm W 64 (4 * (i / 4) + 2) = a2 at *
    generalize tgm W 64 (4 * (i / 4) + 3) = a3 at *
    omega
  · have key : tgm W 64 (4 * (i / 4) + 1) = tg W i := by rw [show 4 * (i / 4) + 1 = i by omega]; exact ht
    rw [e, show (2 : Int) ^ (2 * 1) = 4 from rfl, ← key]
    clear key ht hb
    generalize tgm W 64 (4 * (i / 4)) = a0 at *
    generalize tgm W 64 (4 * (i / 4) + 1) = a1 at *
    generalize tgm W 64 (4 * (i / 4) + 2) = a2 at *
    generalize tgm W 64 (4 * (i / 4) + 3) = a3 at *
    omega
  · have key : tgm W 64 (4 * (i / 4) + 2) = tg W i := by rw [show 4 * (i / 4) + 2 = i by omega]; exact ht
    rw [e, show (2 : Int) ^ (2 * 2) = 16 from rfl, ← key]
    clear key ht hb
    generalize tgm W 64 (4 * (i / 4)) = a0 at *
    generalize tgm W 64 (4 * (i / 4) + 1) = a1 at *
    generalize tgm W 64 (4 * (i / 4) + 2) = a2 at *
    generalize tgm W 64 (4 * (i / 4) + 3) = a3 at *
    omega
  · have key : tgm W 64 (4 * (i / 4) + 3) = tg W i := by rw [show 4 * (i / 4) + 3 = i by omega]; exact ht
    rw [e, show (2 : Int) ^ (2 * 3) = 64 from rfl, ← key]
    clear key ht hb
    generalize tgm W 64 (4 * (i / 4)) = a0 at *
    generalize tgm W 64 (4 * (i / 4) + 1) = a1 at *
    generalize tgm W 64 (4 * (i / 4) + 2) = a2 at *
    generalize tgm W 64 (4 * (i / 4) + 3) = a3 at *
    omega
/-- What is left for the reader after i words. -/
def lft (c : ByteArray) (W : Nat → Int) (i : Nat) : ByteArray := c.extract (17 + (bsl W i).length) c.size
theorem lft_size (W : Nat → Int) (i : Nat) (c : ByteArray) (hc : c = strOfNums (outL W 64)) : (lft c W i).size = (bsl W 64).length - (bsl W i).length := by
  unfold lft
  rw [ByteArray.size_extract]
  have : c.size = 17 + (bsl W 64).length := by rw [hc, son_size, outL_len]
  omega
theorem lft_bt (W : Nat → Int) (i j : Nat) (h : i < 64) (c : ByteArray) (hc : c = strOfNums (outL W 64)) (hj : j < (bsOf (dct W i) (W i)).length) : bt (lft c W i) j = (bsOf (dct W i) (W i)).getD j 0 := by
  obtain ⟨tl, e⟩ := bsl_at W i h
  have hs : c.size = 17 + (bsl W 64).length := by rw [hc, son_size, outL_len]
  have hl : (bsl W 64).length = (bsl W i).length + ((bsOf (dct W i) (W i)).length + tl.length) := by rw [e]; simp
  unfold lft
  rw [bt_extract _ _ _ _ (by omega) (Nat.le_refl _), hc, bt_son _ _ (outL_bd W 64) (by rw [outL_len]; omega)]
  have e2 : outL W 64 = (1 :: tagL W 64) ++ (bsl W i ++ (bsOf (dct W i) (W i) ++ tl)) := by rw [← e]; rfl
  rw [e2, List.getD_eq_getElem?_getD, List.getD_eq_getElem?_getD, List.getElem?_append_right (by simp [tagL_len]; omega), List.getElem?_append_right (by simp [tagL_len]; omega), List.getElem?_append_left (by simp [tagL_len]; omega)]
  simp only [List.length_cons, tagL_len]
  have ei : 17 + (bsl W i).length + j - (16 + 1) - (bsl W i).length = j := by omega
  rw [ei]
theorem lft_next (W : Nat → Int) (i n : Nat) (c : ByteArray) (hc : c = strOfNums (outL W 64)) (hn : (bsOf (dct W i) (W i)).length = n) : (lft c W i).extract n (lft c W i).size = lft c W (i + 1) := by
  have hs : c.size = 17 + (bsl W 64).length := by rw [hc, son_size, outL_len]
  have e : (bsl W (i + 1)).length = (bsl W i).length + n := by show (bsl W i ++ _).length = _; rw [List.length_append, hn]
  unfold lft
  rw [e]
  generalize (bsl W i).length = m at *
  generalize (bsl W 64).length = q at *
  clear hc
  rw [ByteArray.extract_extract, ByteArray.size_extract, show min (17 + m + (min c.size c.size - (17 + m))) c.size = c.size by omega, show 17 + m + n = 17 + (m + n) by omega]
theorem rdw_out (W : Nat → Int) (i : Nat) (h : i < 64) (hw : 0 ≤ W i ∧ W i < 4294967296) (c : ByteArray) (hc : c = strOfNums (outL W 64)) : rdw (lft c W i) (dct W i) (tagN c i) = some ⟨W i, lft c W (i + 1), dct W (i + 1)⟩ := by
  have ht := tagN_out W i h c hc
  have hb := fun j => lft_bt W i j h c hc
  have hn := fun n => lft_next W i n c hc
  have hz := lft_size W i c hc
  obtain ⟨tl, e⟩ := bsl_at W i h
  have hl : (bsl W 64).length = (bsl W i).length + ((bsOf (dct W i) (W i)).length + tl.length) := by rw [e]; simp
  have hlen : (bsOf (dct W i) (W i)).length ≤ (lft c W i).size := by omega
  have hsl := slotN_lt (W i)
  have hse := slotN_eq (W i)
  have ed : dct W (i + 1) = dstep (dct W i) (W i) := rfl
  rw [ed]
  clear ed e hl hz
  unfold tg tgOf at ht
  unfold bsOf at hb hn hlen
  by_cases c0 : W i = 0
  · rw [if_pos c0] at ht
    simp only [c0, if_true] at hn hb hlen ⊢
    have t0 : tagN c i = 0 := by omega
    have hn0 := hn 0 rfl
    rw [t0]
    unfold rdw dstep
    rw [if_pos rfl, ← hn0]
    simp
  rw [if_neg c0] at ht hb hn hlen
  have ed : dstep (dct W i) (W i) = fun j => if j = slotN (W i) then W i else dct W i j := by unfold dstep; rw [if_neg c0]
  rw [ed]
  by_cases c1 : W i = dct W i (slotN (W i))
  · rw [if_pos c1] at ht hb hn hlen
    have t1 : tagN c i = 1 := by omega
    have b0 := hb 0 (by simp)
    simp at b0 hlen
    have n1 := hn 1 rfl
    rw [t1]
    have ew : rdW (lft c W i) (dct W i) 1 = W i := by unfold rdW; rw [if_pos rfl, b0]; exact c1.symm
    unfold rdw
    rw [show rsz 1 = 1 from rfl, if_neg (by omega), if_neg (show ¬ (lft c W i).size < 1 by omega), if_neg (by rw [b0]; omega), ew]
    rw [n1]
  rw [if_neg c1] at ht hb hn hlen
  by_cases c2 : W i / 65536 = dct W i (slotN (W i)) / 65536
  · rw [if_pos c2] at ht hb hn hlen
    have t2 : tagN c i = 2 := by omega
    have b0 := hb 0 (by simp)
    have b1 := hb 1 (by simp)
    have b2 := hb 2 (by simp)
    simp at b0 b1 b2 hlen
    have n1 := hn 3 rfl
    rw [t2]
    have ew : rdW (lft c W i) (dct W i) 2 = W i := by
      unfold rdW
      rw [if_neg (by omega), if_pos rfl, b0, b1, b2, show ((slotN (W i) : Int)).toNat = slotN (W i) by omega, ← c2]
      omega
    unfold rdw
    rw [show rsz 2 = 3 from rfl, if_neg (by omega), if_neg (show ¬ (lft c W i).size < 3 by omega), if_neg (by rw [b0]; omega), ew]
    rw [n1]
  · rw [if_neg c2] at ht hb hn hlen
    have t3 : tagN c i = 3 := by omega
    rw [leI_len] at hlen
    have n1 := hn 4 (leI_len _ _)
    rw [t3]
    have ew : rdW (lft c W i) (dct W i) 3 = W i := by
      unfold rdW
      rw [if_neg (by omega), if_neg (by omega)]
      exact numAt_leI (W i) 4 hw.1 (by omega) _ 0 (fun m hm => by rw [Nat.zero_add]; exact hb m (by rw [leI_len]; exact hm))
    unfold rdw
    rw [show rsz 3 = 4 from rfl, if_neg (by omega), if_neg (show ¬ (lft c W i).size < 4 by omega), if_neg (by omega), ew]
    rw [n1]
theorem exS_out (p : ByteArray) (i : Nat) (h : i ≤ 64) (c : ByteArray) (hc : c = strOfNums (outL (wd p) 64)) : exS c i = some ⟨(List.range (4 * i)).map (bt p), lft c (wd p) i, dct (wd p) i⟩ := by
  induction i with
  | zero => rfl
  | succ i ih =>
    show (exS c i).bind _ = _
    rw [ih (by omega)]
    show exN _ _ = _
    unfold exN
    rw [rdw_out (wd p) i (by omega) (wd_bd p i) c hc]
    show some (Ext.mk _ _ _) = _
    congr 2
    unfold wd
    rw [leI_numAt]
    apply List.ext_getElem
    · simp; omega
    · intro j h1 h2
      rw [List.getElem_append]
      split
      · simp
      · rename_i hh
        simp at hh ⊢
        congr 1
        omega
theorem exR_cmp (p : ByteArray) (h : p.size = 256) : exR (cmp p) = some p := by
  unfold cmp
  split
  · have hs : (strOfNums [0] ++ p).size = 257 := by rw [ByteArray.size_append, son_size, h]; rfl
    have hb : bt (strOfNums [0] ++ p) 0 = 0 := by
      rw [bt_app_l _ _ 0 (by rw [son_size]; simp), bt_son [0] 0 (by intro x hx; simp at hx; omega) (by simp)]
      rfl
    unfold exR
    rw [if_neg (by omega), if_pos hb]
    congr 1
    apply son_inj
    · rw [ByteArray.size_extract]; omega
    · intro i hi
      rw [ByteArray.size_extract] at hi
      rw [bt_extract _ _ _ _ (by omega) (Nat.le_refl _), bt_app_r _ _ _ (by rw [son_size]; simp) (by rw [son_size]; simp; omega), son_size]
      congr 1
      simp
  · obtain ⟨c, hc⟩ : ∃ c, c = strOfNums (outL (wd p) 64) := ⟨_, rfl⟩
    rw [← hc]
    have hs : c.size = 17 + (bsl (wd p) 64).length := by rw [hc, son_size, outL_len]
    have hb : bt c 0 = 1 := by rw [hc, bt_son _ _ (outL_bd _ _) (by rw [outL_len]; omega)]; unfold outL; rw [List.getD_cons_zero]
    unfold exR
    rw [if_neg (by omega), if_neg (by omega), if_neg (by omega), exS_out p 64 (by omega) c hc]
    show some (strOfNums _) = _
    congr 1
    apply son_inj
    · rw [son_size]; simp; omega
    · intro i hi
      rw [son_size] at hi
      rw [bt_son _ _ (by intro x hx; obtain ⟨j, _, rfl⟩ := List.mem_map.1 hx; exact bt_bd p j) hi]
      simp at hi
      simp [List.getD_eq_getElem?_getD, hi]
theorem cmpR_ok (p : ByteArray) (h : p.size = 256) : cmpR p = (cmp p, 0) := by unfold cmpR; rw [if_pos h]
theorem decR_cmp (p : ByteArray) (h : p.size = 256) : decR (cmp p) = (p, 0) := by
  unfold decR
  rw [exR_cmp p h]
  show (if (cmpR p).2 = 0 ∧ (cmpR p).1 = cmp p then _ else _) = _
  rw [cmpR_ok p h]
  generalize cmp p = c
  simp
theorem cmp_size (p : ByteArray) (h : p.size = 256) : 17 ≤ (cmp p).size ∧ (cmp p).size ≤ 257 := by
  unfold cmp
  split
  · rw [ByteArray.size_append, son_size, h]; simp
  · rw [son_size, outL_len]; omega
end Go.Proofs.Ytpfaicdoaldioaa
