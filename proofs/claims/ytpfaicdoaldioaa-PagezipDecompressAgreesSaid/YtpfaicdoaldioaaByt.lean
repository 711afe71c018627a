/- Strings of bytes as lists of numbers (from the seat of stage 5). -/
import Derived.Test.YtpfaicdoaldioaaGen
import Derived.Laws.BytesArg
import Derived.Lib.AppendStr
namespace Go.Proofs.Ytpfaicdoaldioaa
open Go.RowKit

def leI (v : Int) : Nat → List Int
  | 0 => []
  | n + 1 => (v % 256) :: leI (v / 256) n
theorem leI_len (v : Int) (n : Nat) : (leI v n).length = n := by
  induction n generalizing v with
  | zero => rfl
  | succ n ih => simp [leI, ih]
theorem leI_snoc (v : Int) (n : Nat) : leI v (n + 1) = leI v n ++ [(v / 256 ^ n) % 256] := by
  induction n generalizing v with
  | zero => simp [leI]
  | succ n ih =>
    rw [leI, ih, leI, List.cons_append, Int.ediv_ediv_of_nonneg (by omega)]
    congr 3
    rw [Int.pow_succ, Int.mul_comm]
theorem leI_bd (v : Int) (n : Nat) : ∀ x ∈ leI v n, 0 ≤ x ∧ x < 256 := by
  induction n generalizing v with
  | zero => intro x hx; cases hx
  | succ n ih =>
    intro x hx
    rcases List.mem_cons.1 hx with h | h
    · subst h; omega
    · exact ih _ x h
theorem son_append (a b : List Int) : strOfNums (a ++ b) = strOfNums a ++ strOfNums b := by
  apply ByteArray.ext
  rw [ByteArray.data_append]
  simp [strOfNums]
theorem son_size (a : List Int) : (strOfNums a).size = a.length := strOfNums_size a
theorem son_cons (x : Int) (l : List Int) : strOfNums [x] ++ strOfNums l = strOfNums (x :: l) := (son_append [x] l).symm
theorem conv1 (w : World) (x : Int) : (convert 31 9 (.slice (some ⟨w.heap.size, 0, none⟩) 1 1)).run Try.prog (w.alloc (.cells #[.int .u8 x] 5)) = .ok (.string (strOfNums [x])) (w.alloc (.cells #[.int .u8 x] 5)) :=
  run_convert_bytes_arg _ 31 5 Try.underlying31 Try.underlying5 w.heap.size 0 1 1 [x] rfl (fun i hi => by
    have hh := heap_alloc_new w (Obj.cells #[.int .u8 x] 5)
    obtain rfl : i = 0 := by omega
    unfold World.cell?; rw [hh]; rfl) 9 Try.underlying9
/-- Byte i of a string, 0 behind its end. -/
def bt (s : ByteArray) (i : Nat) : Int := if h : i < s.size then (s[i].toNat : Int) else 0
theorem bt_at (s : ByteArray) (i : Nat) (h : i < s.size) : (s[i].toNat : Int) = bt s i := by unfold bt; rw [dif_pos h]
theorem bt_bd (s : ByteArray) (i : Nat) : 0 ≤ bt s i ∧ bt s i < 256 := by
  unfold bt
  split
  · have := s[i].toNat_lt; omega
  · omega
theorem bt_son (l : List Int) (i : Nat) (h : ∀ x ∈ l, 0 ≤ x ∧ x < 256) (hi : i < l.length) : bt (strOfNums l) i = l.getD i 0 := by
  have hs : i < (strOfNums l).size := by rw [son_size]; exact hi
  unfold bt
  rw [dif_pos hs]
  have e : (strOfNums l)[i] = UInt8.ofNat (l[i].toNat) := by
    show (strOfNums l).data[i] = _
    simp [strOfNums]
  have := h l[i] (List.getElem_mem hi)
  rw [e, List.getD_eq_getElem?_getD, List.getElem?_eq_getElem hi]
  simp
  omega
theorem bt_app_l (a b : ByteArray) (i : Nat) (h : i < a.size) : bt (a ++ b) i = bt a i := by
  have h2 : i < (a ++ b).size := by rw [ByteArray.size_append]; omega
  rw [← bt_at _ _ h2, ← bt_at _ _ h, ByteArray.getElem_append_left h]
def numAt (s : ByteArray) (i : Nat) : Nat → Int
  | 0 => 0
  | k + 1 => bt s i + 256 * numAt s (i + 1) k
theorem numAt_bd (s : ByteArray) (i k : Nat) : 0 ≤ numAt s i k ∧ numAt s i k < 256 ^ k := by
  induction k generalizing i with
  | zero => simp [numAt]
  | succ k ih =>
    have h1 := ih (i + 1)
    have h2 := bt_bd s i
    have e : numAt s i (k + 1) = bt s i + 256 * numAt s (i + 1) k := rfl
    rw [e, Int.pow_succ]
    omega
theorem numAt_congr (s t : ByteArray) (i j k : Nat) (h : ∀ m, m < k → bt s (i + m) = bt t (j + m)) : numAt s i k = numAt t j k := by
  induction k generalizing i j with
  | zero => rfl
  | succ k ih =>
    show bt s i + 256 * numAt s (i + 1) k = bt t j + 256 * numAt t (j + 1) k
    have z := h 0 (by omega)
    rw [Nat.add_zero, Nat.add_zero] at z
    rw [z, ih (i + 1) (j + 1) (fun m hm => by have := h (m + 1) (by omega); rw [show i + 1 + m = i + (m + 1) by omega, show j + 1 + m = j + (m + 1) by omega]; exact this)]
theorem numAt_leI (v : Int) (n : Nat) (h0 : 0 ≤ v) (h1 : v < 256 ^ n) (s : ByteArray) (i : Nat) (hs : ∀ m, m < n → bt s (i + m) = (leI v n).getD m 0) : numAt s i n = v := by
  induction n generalizing v i with
  | zero => simp [numAt]; simp at h1; omega
  | succ n ih =>
    rw [Int.pow_succ] at h1
    have e := ih (v / 256) (by omega) (by omega) (i + 1) (fun m hm => by have := hs (m + 1) (by omega); rw [show i + 1 + m = i + (m + 1) by omega, this]; simp [leI])
    show bt s i + 256 * numAt s (i + 1) n = v
    have z := hs 0 (by omega)
    rw [Nat.add_zero] at z
    rw [e, z]
    simp [leI]
    omega
theorem emp_t (s : ByteArray) (h : s.size = 0) : s.toList.isEmpty = true := by
  have e : s.data = #[] := Array.size_eq_zero_iff.1 h
  rw [ByteArray.toList_eq, e]
  rfl
theorem emp_f (s : ByteArray) (h : s.size ≠ 0) : s.toList.isEmpty = false := by
  rw [ByteArray.toList_eq]
  refine Bool.eq_false_iff.2 fun e => h ?_
  have h2 := List.isEmpty_iff.1 e
  show s.data.size = 0
  rw [← Array.length_toList, h2]
  rfl
theorem str_t {a b : ByteArray} (h : a = b) : (a.toList == b.toList) = true := by subst h; simp
theorem str_f {a b : ByteArray} (h : a ≠ b) : (a.toList == b.toList) = false := by
  refine beq_eq_false_iff_ne.2 fun e => h ?_
  rw [ByteArray.toList_eq, ByteArray.toList_eq] at e
  exact ByteArray.ext (Array.toList_inj.1 e)

theorem wrap_u8 (n : Int) : IntKind.u8.wrap n = n % 256 := by simp [IntKind.wrap, IntKind.signed, IntKind.bits]
theorem son_inj (a b : ByteArray) (h : a.size = b.size) (hb : ∀ i, i < a.size → bt a i = bt b i) : a = b := by
  apply ByteArray.ext
  apply Array.ext
  · exact h
  · intro i h1 h2
    have e := hb i h1
    have k1 : i < a.size := h1
    have k2 : i < b.size := h2
    rw [← bt_at a i k1, ← bt_at b i k2] at e
    have e2 : a[i].toNat = b[i].toNat := by omega
    exact UInt8.toNat_inj.1 e2
theorem bt_extract (s : ByteArray) (a b i : Nat) (h : i < b - a) (hb : b ≤ s.size) : bt (s.extract a b) i = bt s (a + i) := by
  have hs : i < (s.extract a b).size := by rw [ByteArray.size_extract]; omega
  rw [← bt_at _ _ hs, ← bt_at s (a + i) (by omega)]
  congr 1
  rw [ByteArray.getElem_extract]
theorem bt_app_r (a b : ByteArray) (i : Nat) (h : a.size ≤ i) (h2 : i < a.size + b.size) : bt (a ++ b) i = bt b (i - a.size) := by
  have h3 : i < (a ++ b).size := by rw [ByteArray.size_append]; omega
  rw [← bt_at _ _ h3, ← bt_at b (i - a.size) (by omega), ByteArray.getElem_append_right h]
/-- The bytes of a string as a list. -/
def btL (s : ByteArray) : List Int := (List.range s.size).map (bt s)
theorem btL_len (s : ByteArray) : (btL s).length = s.size := by simp [btL]
theorem strCells_btL (s : ByteArray) : Lib.strCells s = (btL s).map (Value.int .u8) := by
  unfold Lib.strCells btL
  apply List.ext_getElem
  · simp
  · intro i h1 h2
    have hs : i < s.size := by simpa using h2
    simp only [List.getElem_map, List.getElem_range]
    rw [← bt_at s i hs]
    rfl
theorem leI_numAt (s : ByteArray) (i k : Nat) : leI (numAt s i k) k = (List.range k).map (fun j => bt s (i + j)) := by
  induction k generalizing i with
  | zero => rfl
  | succ k ih =>
    have hb := bt_bd s i
    have e1 : (bt s i + 256 * numAt s (i + 1) k) % 256 = bt s i := by omega
    have e2 : (bt s i + 256 * numAt s (i + 1) k) / 256 = numAt s (i + 1) k := by omega
    show (bt s i + 256 * numAt s (i + 1) k) % 256 :: leI ((bt s i + 256 * numAt s (i + 1) k) / 256) k = _
    rw [e1, e2, ih, List.range_succ_eq_map]
    simp [Nat.add_assoc, Nat.add_comm 1]
theorem btL_word (s : ByteArray) (i : Nat) (h : i + 4 ≤ s.size) : btL (s.extract i (i + 4)) = leI (numAt s i 4) 4 := by
  rw [leI_numAt]
  unfold btL
  have hz : (s.extract i (i + 4)).size = 4 := by rw [ByteArray.size_extract]; omega
  rw [hz]
  apply List.map_congr_left
  intro j hj
  have := List.mem_range.1 hj
  exact bt_extract s i (i + 4) j (by omega) h
end Go.Proofs.Ytpfaicdoaldioaa
