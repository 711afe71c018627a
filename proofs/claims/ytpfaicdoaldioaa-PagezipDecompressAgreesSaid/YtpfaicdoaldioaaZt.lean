/- PagezipZeroTail. -/
import Derived.Test.YtpfaicdoaldioaaRtw
namespace Go.Proofs.Ytpfaicdoaldioaa
open Go.ChangeShapes Go.WideShapes Go.ChangeAt Go.RowKit Go.Deep Go.Joins

theorem bsl_congr (W V : Nat → Int) (m : Nat) (h : ∀ i, i < m → W i = V i) (j : Nat) (hj : j ≤ m) : dct W j = dct V j ∧ bsl W j = bsl V j := by
  induction j with
  | zero => exact ⟨rfl, rfl⟩
  | succ j ih =>
    obtain ⟨h1, h2⟩ := ih (by omega)
    have e := h j (by omega)
    refine ⟨?_, ?_⟩
    · show dstep (dct W j) (W j) = dstep (dct V j) (V j); rw [h1, e]
    · show bsl W j ++ bsOf (dct W j) (W j) = bsl V j ++ bsOf (dct V j) (V j); rw [h1, h2, e]
theorem bsl_rest (W : Nat → Int) (m : Nat) (h : ∀ i, m ≤ i → W i = 0) (k : Nat) : bsl W (m + k) = bsl W m := by
  induction k with
  | zero => rfl
  | succ k ih =>
    show bsl W (m + k) ++ bsOf (dct W (m + k)) (W (m + k)) = _
    rw [ih, h (m + k) (by omega)]
    simp [bsOf]
def ztl (p : ByteArray) (m : Nat) : ByteArray := p.extract 0 (4 * m) ++ strOfNums (List.replicate (256 - 4 * m) 0)
theorem ztl_size (p : ByteArray) (m : Nat) (h : p.size = 256) (hm : m ≤ 64) : (ztl p m).size = 256 := by
  unfold ztl
  rw [ByteArray.size_append, ByteArray.size_extract, son_size, List.length_replicate]
  omega
theorem ztl_lo (p : ByteArray) (m i : Nat) (h : p.size = 256) (hm : m ≤ 64) (hi : i < 4 * m) : bt (ztl p m) i = bt p i := by
  unfold ztl
  rw [bt_app_l _ _ _ (by rw [ByteArray.size_extract]; omega), bt_extract _ _ _ _ (by omega) (by omega), Nat.zero_add]
theorem ztl_hi (p : ByteArray) (m i : Nat) (h : p.size = 256) (hm : m ≤ 64) (hi : 4 * m ≤ i) : bt (ztl p m) i = 0 := by
  by_cases h2 : i < 256
  · unfold ztl
    rw [bt_app_r _ _ _ (by rw [ByteArray.size_extract]; omega) (by rw [ByteArray.size_extract, son_size, List.length_replicate]; omega)]
    exact bt_zeros _ _
  · unfold bt
    rw [dif_neg (by rw [ztl_size p m h hm]; omega)]
theorem numAt_z (s : ByteArray) (i k : Nat) (h : ∀ j, i ≤ j → bt s j = 0) : numAt s i k = 0 := by
  induction k generalizing i with
  | zero => rfl
  | succ k ih => show bt s i + 256 * numAt s (i + 1) k = 0; rw [h i (Nat.le_refl _), ih (i + 1) (fun j hj => h j (by omega))]; rfl
theorem ztl_cmp (p : ByteArray) (m : Nat) (h : p.size = 256) (hm : m ≤ 64) : (cmp (ztl p m)).size ≤ (cmp p).size := by
  have e1 := (bsl_congr (wd (ztl p m)) (wd p) m (fun i hi => numAt_congr _ _ _ _ _ (fun j hj => ztl_lo p m _ h hm (by omega))) m (Nat.le_refl _)).2
  have e2 := bsl_rest (wd (ztl p m)) m (fun i hi => numAt_z _ _ _ (fun j hj => ztl_hi p m j h hm (by omega))) (64 - m)
  obtain ⟨tl, e3⟩ := bsl_split (wd p) m (64 - m)
  rw [show m + (64 - m) = 64 by omega] at e2 e3
  have hl : (bsl (wd (ztl p m)) 64).length ≤ (bsl (wd p) 64).length := by rw [e2, e1, e3, List.length_append]; omega
  have hz := ztl_size p m h hm
  clear e1 e2 e3
  unfold cmp
  split
  · rw [if_pos (by omega), ByteArray.size_append, ByteArray.size_append, hz, h]; exact Nat.le_refl _
  · split
    · rw [ByteArray.size_append, son_size, son_size, outL_len, h]; simp; omega
    · rw [son_size, son_size, outL_len, outL_len]; omega
theorem mod_any (v : Int) (n : Nat) (hn : 1 ≤ n) (hn2 : n ≤ 1000000) (w : World) : Calls Try.prog 15 #[.int .i64 v, .int .i64 n] w fun e w' => e = .returned (.int .i64 (modOf v n : Nat)) ∧ w = w' := by
  have E := Lib.hid (modOf_spec v n hn hn2)
  go_enter Try.func15, Try.ntmps15
  go_wp2
  go_ret
  exact ⟨congrArg (fun x => Ending.returned (.int .i64 x)) E.out.1, rfl⟩
theorem convZd (w : World) (n : Nat) : (convert 31 9 (.slice (some ⟨w.heap.size, 0, none⟩) n n)).run Try.prog (w.alloc (.cells (madeCells #[.int .u8 0] n) 5)).drew = .ok (.string (strOfNums (List.replicate n 0))) (w.alloc (.cells (madeCells #[.int .u8 0] n) 5)).drew :=
  run_convert_bytes_arg _ 31 5 Try.underlying31 Try.underlying5 w.heap.size 0 n n (List.replicate n 0) (by simp) (fun i hi => by
    show (w.alloc (.cells (madeCells #[.int .u8 0] n) 5)).cell? _ = _
    rw [Nat.zero_add, cell_of_row _ _ i _ 5 (0, 0) (heap_alloc_new w _), ← Array.getElem?_toList, toList_madeCells_one]
    simp [List.getD_eq_getElem?_getD, hi]) 9 Try.underlying9
theorem makeN (k : Nat) (hk : k ≤ 256) (x : Int) (hx : x = (k : Int)) (w : World) : (Instr.makeSlice 31 (.int .i64 x) (.int .i64 x)).run Try.prog w = .ok (.slice (some ⟨w.heap.size, 0, none⟩) k k) (w.alloc (.cells (madeCells #[.int .u8 0] k) 5)) := by
  subst hx
  exact run_make_row' 31 5 (.int .u8 0) 1 Try.underlying31 info5 rfl .i64 .i64 k (by omega) (by omega) w
set_option maxRecDepth 20000 in
set_option maxHeartbeats 4000000 in
theorem zt_any (A : Option Addr) (n c : Nat) (Z : Nat → Int) (s v : Int) (w : World) (h : Ns .u32 w A n Z ∧ n ≤ c ∧ c ≤ 9223372036854775807) (hw : (Lit.int .u8 s).wf = true) (_hv : (Lit.int .i64 v).wf = true) : Calls Try.prog 9 #[.slice A n c, .int .u8 s, .int .i64 v] w (LawPost w) := by
  have hs := u8_of_wf hw
  obtain ⟨hN, hc1, hc2⟩ := h
  by_cases hb : 64 < n
  · clear hN hw
    go_enter Try.func9, Try.ntmps9
    go_wp2_with fail
    refine (awake_any _).mono ?_
    rintro e w1 ⟨rfl, hb⟩
    have HB := Lib.hid hb
    clear hb
    go_wp2
    go_ret
    exact ⟨rfl, HB.out⟩
  · have P := page_any A n c Z s w hN (by omega) hs
    have M := fun w' => mod_any v 65 (by omega) (by omega) w'
    have hm := (modOf_spec v 65 (by omega) (by omega)).2
    clear hN hw
    generalize modOf v 65 = m at *
    go_enter Try.func9, Try.ntmps9
    go_wp2_with fail
    refine P.mono ?_
    rintro e w1 ⟨p, hp, rfl, hb1⟩
    have B1 := Lib.hid hb1
    have C := fun w => cmp_any p w
    have D := fun w => cmp_any (ztl p m) w
    have hq := ztl_size p m hp (by omega)
    rw [cmpR_ok p hp] at C
    rw [cmpR_ok _ hq] at D
    have hz := ztl_cmp p m hp (by omega)
    have mk := makeN (256 - 4 * m) (by omega) (256 - 4 * (m : Int)) (by omega)
    have cv := fun w => convZd w (256 - 4 * m)
    have eq : p.extract 0 (4 * m) ++ strOfNums (List.replicate (256 - 4 * m) 0) = ztl p m := rfl
    have s1 : (p.extract 0 (4 * m)).size = 4 * m := by rw [ByteArray.size_extract]; omega
    have s2 : (strOfNums (List.replicate (256 - 4 * m) 0)).size = 256 - 4 * m := by rw [son_size, List.length_replicate]
    clear hb1 P hb
    generalize cmp p = a at *
    generalize cmp (ztl p m) = b at *
    generalize ztl p m = q at *
    generalize zq : strOfNums (List.replicate (256 - 4 * m) 0) = zz at *
    go_wp2_with fail
    refine (M _).mono ?_
    rintro e w2 ⟨rfl, rfl⟩
    go_upto_region 5 with fail
    have j1 : (0 : Int) ≤ 4 * (m : Int) := by omega
    have j2 : (4 * (m : Int)).toNat = 4 * m := by omega
    have j3 : 4 * (m : Int) ≤ (p.size : Int) := by omega
    have j5 : 4 * (m : Int) ≤ 256 := by omega
    have j6 : 4 * m ≤ 256 := by omega
    have j4 : IntKind.i64.wrap (256 - 4 * (m : Int)) = 256 - 4 * (m : Int) := IntWalk.i64_in _ (by omega)
    have cv2 := fun w => convZ w (256 - 4 * m)
    rw [zq] at cv2
    go_region
    clear j1 j2 j3 j4
    have HB := Lib.hid (bal B1.out (.cells (madeCells #[.int .u8 0] (256 - 4 * m)) 5)).drew
    clear B1
    go_wp2_with fail
    refine (C _).mono ?_
    rintro e w2 ⟨rfl, hb2⟩
    have B2 := Lib.hid (bel2 HB.out hb2)
    clear hb2 C HB mk cv cv2
    unfold pairV
    go_wp2_with fail
    refine (D _).mono ?_
    rintro e w3 ⟨rfl, hb3⟩
    have B3 := Lib.hid (bel2 B2.out hb3)
    clear hb3 D B2
    unfold pairV
    have hzi : (b.size : Int) ≤ (a.size : Int) := by omega
    go_wp2_with fail
    refine (awake_any _).mono ?_
    rintro e w4 ⟨rfl, hb4⟩
    have HB := Lib.hid (bel2 B3.out hb4)
    clear hb4 B3
    go_wp2
    go_ret
    exact ⟨rfl, HB.out⟩
end Go.Proofs.Ytpfaicdoaldioaa
