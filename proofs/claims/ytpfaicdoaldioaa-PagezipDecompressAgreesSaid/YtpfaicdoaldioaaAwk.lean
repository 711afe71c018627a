/- awake. -/
import Derived.Test.YtpfaicdoaldioaaRt
import Derived.Test.YtpfaicdoaldioaaPg
namespace Go.Proofs.Ytpfaicdoaldioaa
open Go.ChangeShapes Go.WideShapes Go.ChangeAt Go.RowKit Go.Deep Go.Joins

theorem outL_zeros (W : Nat → Int) (h : ∀ i, W i = 0) (i : Nat) : outL W i = 1 :: List.replicate 16 0 := by
  induction i with
  | zero => exact outL_0 W
  | succ i ih => rw [outL_zero W i (h i), ih]
theorem bt_zeros (n i : Nat) : bt (strOfNums (List.replicate n 0)) i = 0 := by
  by_cases hi : i < n
  · rw [bt_son _ _ (by intro x hx; rw [List.eq_of_mem_replicate hx]; omega) (by simpa using hi)]
    simp [List.getD_eq_getElem?_getD, hi]
  · unfold bt
    rw [dif_neg (by rw [son_size]; simpa using hi)]
theorem numAt_zeros (n i k : Nat) : numAt (strOfNums (List.replicate n 0)) i k = 0 := by
  induction k generalizing i with
  | zero => rfl
  | succ k ih => show bt _ i + 256 * numAt _ (i + 1) k = 0; rw [bt_zeros, ih]; rfl
theorem cmp_zeros : cmp (strOfNums (List.replicate 256 0)) = strOfNums (1 :: List.replicate 16 0) := by
  have h : ∀ i, outL (wd (strOfNums (List.replicate 256 0))) i = 1 :: List.replicate 16 0 := outL_zeros _ (fun i => numAt_zeros 256 (4 * i) 4)
  have e := outL_len (wd (strOfNums (List.replicate 256 0))) 64
  rw [h 64, List.length_cons, List.length_replicate] at e
  unfold cmp
  rw [if_neg (by omega), h]
theorem make16 (w : World) : (Instr.makeSlice 31 (.int .i64 16) (.int .i64 16)).run Try.prog w = .ok (.slice (some ⟨w.heap.size, 0, none⟩) 16 16) (w.alloc (.cells (madeCells #[.int .u8 0] 16) 5)) :=
  run_make_row' 31 5 (.int .u8 0) 1 Try.underlying31 info5 rfl .i64 .i64 16 (by decide) (by decide) w
theorem convZ (w : World) (n : Nat) : (convert 31 9 (.slice (some ⟨w.heap.size, 0, none⟩) n n)).run Try.prog (w.alloc (.cells (madeCells #[.int .u8 0] n) 5)) = .ok (.string (strOfNums (List.replicate n 0))) (w.alloc (.cells (madeCells #[.int .u8 0] n) 5)) :=
  run_convert_bytes_arg _ 31 5 Try.underlying31 Try.underlying5 w.heap.size 0 n n (List.replicate n 0) (by simp) (fun i hi => by
    rw [Nat.zero_add, cell_of_row _ _ i _ 5 (0, 0) (heap_alloc_new w _), ← Array.getElem?_toList, toList_madeCells_one]
    simp [List.getD_eq_getElem?_getD, hi]) 9 Try.underlying9
theorem app_one : ({ data := #[1] } : ByteArray) ++ strOfNums (List.replicate 16 0) = strOfNums (1 :: List.replicate 16 0) := by kernel_rfl
theorem cmpR_x : cmpR { data := #[120] } = ({ data := #[] }, 1) := by unfold cmpR; rw [if_neg (by decide)]
theorem decR_0 : decR { data := #[] } = ({ data := #[] }, 3) := by
  have : exR { data := #[] } = none := by unfold exR; rw [if_pos (show ({ data := #[] } : ByteArray).size = 0 from rfl)]
  unfold decR; rw [this]
theorem awake_any (w : World) : Calls Try.prog 10 #[] w (LawPost w) := by
  obtain ⟨z, hz⟩ : ∃ z, strOfNums (List.replicate 256 0) = z := ⟨_, rfl⟩
  obtain ⟨a, ha⟩ : ∃ a, strOfNums (1 :: List.replicate 16 0) = a := ⟨_, rfl⟩
  have sz : z.size = 256 := by rw [← hz, son_size, List.length_replicate]
  have sa : a.size = 17 := by rw [← ha, son_size, List.length_cons, List.length_replicate]
  have ez : cmp z = a := by rw [← hz, ← ha]; exact cmp_zeros
  have P1 := fun w => cmp_any z w
  have P2 := fun w => dec_any a w (by rw [sa]; omega)
  have P3 := fun w => cmp_any { data := #[120] } w
  have P4 := fun w => dec_any { data := #[] } w (by decide)
  rw [cmpR_ok z sz, ez] at P1
  have ed : decR a = (z, 0) := by rw [← ez]; exact decR_cmp z sz
  rw [ed] at P2
  rw [cmpR_x] at P3
  rw [decR_0] at P4
  have m1 := make256 w
  have v1 := convZ w 256
  rw [hz] at v1
  have m2 := make16
  have v2 := fun w => convZ w 16
  have ea := app_one
  rw [ha] at ea
  have s16 : (strOfNums (List.replicate 16 0)).size = 16 := by rw [son_size, List.length_replicate]
  clear hz ha ez ed
  generalize strOfNums (List.replicate 16 0) = z16 at *
  go_enter Try.func10, Try.ntmps10
  go_wp2_with fail
  refine (P1 _).mono ?_
  rintro e w1 ⟨rfl, hb⟩
  have B1 := Lib.hid (bel2 (bal (Below.refl _ _) _) hb)
  clear hb P1 m1 v1
  unfold pairV
  go_wp2_with fail
  refine (P2 _).mono ?_
  rintro e w2 ⟨rfl, hb⟩
  have B2 := Lib.hid (bel2 B1.out hb)
  clear hb P2 B1
  unfold pairV
  go_wp2_with fail
  refine (P3 _).mono ?_
  rintro e w3 ⟨rfl, hb⟩
  have B3 := Lib.hid (bel2 B2.out hb)
  clear hb P3 B2
  unfold pairV
  go_wp2_with fail
  refine (P4 _).mono ?_
  rintro e w4 ⟨rfl, hb⟩
  have B4 := Lib.hid (bel2 B3.out hb)
  clear hb P4 B3
  unfold pairV
  have m2 := m2 w4
  have v2 := v2 w4
  have t1 := str_t (rfl : a = a)
  have t2 := str_t (rfl : z = z)
  have HB := Lib.hid (bal B4.out (.cells (madeCells #[.int .u8 0] 16) 5))
  clear B4
  go_wp2
  go_ret
  exact ⟨rfl, HB.out⟩
end Go.Proofs.Ytpfaicdoaldioaa
