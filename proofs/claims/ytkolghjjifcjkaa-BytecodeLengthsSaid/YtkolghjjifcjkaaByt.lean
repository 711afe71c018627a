/- Strings of bytes as lists of numbers; integers in little-endian order. -/
import Derived.Test.YtkolghjjifcjkaaGen
import Derived.Laws.BytesArg
namespace Go.Proofs.Ytkolghjjifcjkaa
open Go.RowKit

def leI (v : Int) : Nat → List Int
  | 0 => []
  | n + 1 => (v % 256) :: leI (v / 256) n
theorem leI_len (v : Int) (n : Nat) : (leI v n).length = n := by
  induction n generalizing v with
  | zero => rfl
  | succ n ih => simp [leI, ih]
theorem leI_snoc (v : Int) (n : Nat) : leI v (n + 1) = leI v n ++ [(v / 256 ^ n) % 256] := by
  induction n generalizing v with
  | zero => simp [leI]
  | succ n ih =>
    rw [leI, ih, leI, List.cons_append, Int.ediv_ediv_of_nonneg (by omega)]
    congr 3
    rw [Int.pow_succ, Int.mul_comm]
theorem leI_bd (v : Int) (n : Nat) : ∀ x ∈ leI v n, 0 ≤ x ∧ x < 256 := by
  induction n generalizing v with
  | zero => intro x hx; cases hx
  | succ n ih =>
    intro x hx
    rcases List.mem_cons.1 hx with h | h
    · subst h; omega
    · exact ih _ x h
theorem son_append (a b : List Int) : strOfNums (a ++ b) = strOfNums a ++ strOfNums b := by
  apply ByteArray.ext
  rw [ByteArray.data_append]
  simp [strOfNums]
theorem son_size (a : List Int) : (strOfNums a).size = a.length := strOfNums_size a
theorem son_cons (x : Int) (l : List Int) : strOfNums [x] ++ strOfNums l = strOfNums (x :: l) := (son_append [x] l).symm
theorem conv1 (w : World) (x : Int) : (convert 41 9 (.slice (some ⟨w.heap.size, 0, none⟩) 1 1)).run Try.prog (w.alloc (.cells #[.int .u8 x] 5)) = .ok (.string (strOfNums [x])) (w.alloc (.cells #[.int .u8 x] 5)) :=
  run_convert_bytes_arg _ 41 5 Try.underlying41 Try.underlying5 w.heap.size 0 1 1 [x] rfl (fun i hi => by
    have hh := heap_alloc_new w (Obj.cells #[.int .u8 x] 5)
    obtain rfl : i = 0 := by omega
    unfold World.cell?; rw [hh]; rfl) 9 Try.underlying9
theorem conv2 (w : World) (x y : Int) : (convert 41 9 (.slice (some ⟨w.heap.size, 0, none⟩) 2 2)).run Try.prog (w.alloc (.cells #[.int .u8 x, .int .u8 y] 5)) = .ok (.string (strOfNums [x, y])) (w.alloc (.cells #[.int .u8 x, .int .u8 y] 5)) :=
  run_convert_bytes_arg _ 41 5 Try.underlying41 Try.underlying5 w.heap.size 0 2 2 [x, y] rfl (fun i hi => by
    have hh := heap_alloc_new w (Obj.cells #[.int .u8 x, .int .u8 y] 5)
    rcases (show i = 0 ∨ i = 1 by omega) with rfl | rfl <;> (unfold World.cell?; rw [hh]; rfl)) 9 Try.underlying9
/-- Byte i of a string, 0 behind its end. -/
def bt (s : ByteArray) (i : Nat) : Int := if h : i < s.size then (s[i].toNat : Int) else 0
theorem bt_at (s : ByteArray) (i : Nat) (h : i < s.size) : (s[i].toNat : Int) = bt s i := by unfold bt; rw [dif_pos h]
theorem bt_bd (s : ByteArray) (i : Nat) : 0 ≤ bt s i ∧ bt s i < 256 := by
  unfold bt
  split
  · have := s[i].toNat_lt; omega
  · omega
theorem bt_son (l : List Int) (i : Nat) (h : ∀ x ∈ l, 0 ≤ x ∧ x < 256) (hi : i < l.length) : bt (strOfNums l) i = l.getD i 0 := by
  have hs : i < (strOfNums l).size := by rw [son_size]; exact hi
  unfold bt
  rw [dif_pos hs]
  have e : (strOfNums l)[i] = UInt8.ofNat (l[i].toNat) := by
    show (strOfNums l).data[i] = _
    simp [strOfNums]
  have := h l[i] (List.getElem_mem hi)
  rw [e, List.getD_eq_getElem?_getD, List.getElem?_eq_getElem hi]
  simp
  omega
theorem bt_app_l (a b : ByteArray) (i : Nat) (h : i < a.size) : bt (a ++ b) i = bt a i := by
  have h2 : i < (a ++ b).size := by rw [ByteArray.size_append]; omega
  rw [← bt_at _ _ h2, ← bt_at _ _ h, ByteArray.getElem_append_left h]
def numAt (s : ByteArray) (i : Nat) : Nat → Int
  | 0 => 0
  | k + 1 => bt s i + 256 * numAt s (i + 1) k
theorem numAt_bd (s : ByteArray) (i k : Nat) : 0 ≤ numAt s i k ∧ numAt s i k < 256 ^ k := by
  induction k generalizing i with
  | zero => simp [numAt]
  | succ k ih =>
    have h1 := ih (i + 1)
    have h2 := bt_bd s i
    have e : numAt s i (k + 1) = bt s i + 256 * numAt s (i + 1) k := rfl
    rw [e, Int.pow_succ]
    omega
theorem numAt_congr (s t : ByteArray) (i j k : Nat) (h : ∀ m, m < k → bt s (i + m) = bt t (j + m)) : numAt s i k = numAt t j k := by
  induction k generalizing i j with
  | zero => rfl
  | succ k ih =>
    show bt s i + 256 * numAt s (i + 1) k = bt t j + 256 * numAt t (j + 1) k
    have z := h 0 (by omega)
    rw [Nat.add_zero, Nat.add_zero] at z
    rw [z, ih (i + 1) (j + 1) (fun m hm => by have := h (m + 1) (by omega); rw [show i + 1 + m = i + (m + 1) by omega, show j + 1 + m = j + (m + 1) by omega]; exact this)]
theorem numAt_leI (v : Int) (n : Nat) (h0 : 0 ≤ v) (h1 : v < 256 ^ n) (s : ByteArray) (i : Nat) (hs : ∀ m, m < n → bt s (i + m) = (leI v n).getD m 0) : numAt s i n = v := by
  induction n generalizing v i with
  | zero => simp [numAt]; simp at h1; omega
  | succ n ih =>
    rw [Int.pow_succ] at h1
    have e := ih (v / 256) (by omega) (by omega) (i + 1) (fun m hm => by have := hs (m + 1) (by omega); rw [show i + 1 + m = i + (m + 1) by omega, this]; simp [leI])
    show bt s i + 256 * numAt s (i + 1) n = v
    have z := hs 0 (by omega)
    rw [Nat.add_zero] at z
    rw [e, z]
    simp [leI]
    omega
/-- The encoding of an integer. -/
def encL (v : Int) : List Int := if v = 0 then [0] else if v = 1 then [1] else if v = 18446744073709551615 then [255] else if v < 256 then 10 :: leI v 1 else if v < 65536 then 11 :: leI v 2 else if v < 4294967296 then 12 :: leI v 4 else 14 :: leI v 8
def enc (v : Int) : ByteArray := strOfNums (encL v)
theorem encL_len (v : Int) : 1 ≤ (encL v).length ∧ (encL v).length ≤ 9 := by
  unfold encL
  split; · simp
  split; · simp
  split; · simp
  split; · simp [leI_len]
  split; · simp [leI_len]
  split; · simp [leI_len]
  · simp [leI_len]
theorem encL_bd (v : Int) : ∀ x ∈ encL v, 0 ≤ x ∧ x < 256 := by
  unfold encL
  intro x hx
  split at hx
  · simp at hx; omega
  split at hx
  · simp at hx; omega
  split at hx
  · simp at hx; omega
  split at hx
  · rcases List.mem_cons.1 hx with h | h
    · omega
    · exact leI_bd _ _ x h
  split at hx
  · rcases List.mem_cons.1 hx with h | h
    · omega
    · exact leI_bd _ _ x h
  split at hx
  · rcases List.mem_cons.1 hx with h | h
    · omega
    · exact leI_bd _ _ x h
  · rcases List.mem_cons.1 hx with h | h
    · omega
    · exact leI_bd _ _ x h
/-- What decoding an item of 1 + n bytes gives. -/
def bodyI (s : ByteArray) (n : Nat) : Int × Int × Int := if s.size < 1 + n then (0, 0, 4) else if enc (numAt s 1 n) = s.extract 0 (1 + n) then (numAt s 1 n, 1 + n, 0) else (0, 0, 3)
def decI (s : ByteArray) : Int × Int × Int :=
  if s.size = 0 then (0, 0, 4) else if bt s 0 = 0 then (0, 1, 0) else if bt s 0 = 1 then (1, 1, 0) else if bt s 0 = 255 then (18446744073709551615, 1, 0)
  else if bt s 0 = 10 then bodyI s 1 else if bt s 0 = 11 then bodyI s 2 else if bt s 0 = 12 then bodyI s 4 else if bt s 0 = 14 then bodyI s 8 else (0, 0, 3)
def tri (t : Int × Int × Int) : Value := .tuple #[.int .u64 t.1, .int .i64 t.2.1, .int .i64 t.2.2]
theorem enc_app_extract (v : Int) (b : ByteArray) : (enc v ++ b).extract 0 (encL v).length = enc v := by
  apply ByteArray.ext
  have h : (encL v).length = (enc v).data.size := by unfold enc; rw [← son_size]; rfl
  rw [ByteArray.data_extract, ByteArray.data_append, h]
  simp
theorem bodyI_enc (v : Int) (n : Nat) (p : Int) (b : ByteArray) (h0 : 0 ≤ v) (h1 : v < 256 ^ n) (hl : encL v = p :: leI v n) : bodyI (enc v ++ b) n = (v, ((encL v).length : Int), 0) := by
  have hn : numAt (enc v ++ b) 1 n = v := numAt_leI v n h0 h1 _ 1 (fun m hm => by
    have hs : 1 + m < (enc v).size := by unfold enc; rw [son_size, hl]; simp [leI_len]; omega
    rw [bt_app_l _ _ _ hs]
    unfold enc
    rw [bt_son _ _ (encL_bd v) (by unfold enc at hs; rw [son_size] at hs; exact hs), hl, Nat.add_comm 1 m]
    simp)
  have hlen : (encL v).length = 1 + n := by rw [hl]; simp [leI_len]; omega
  have hsz : ¬ (enc v ++ b).size < 1 + n := by
    rw [ByteArray.size_append]
    have : (enc v).size = 1 + n := by unfold enc; rw [son_size, hlen]
    omega
  unfold bodyI
  rw [if_neg hsz, hn, ← hlen, enc_app_extract, if_pos rfl, hlen]
  simp
theorem decI_enc (v : Int) (b : ByteArray) (h0 : 0 ≤ v) (h1 : v < 18446744073709551616) : decI (enc v ++ b) = (v, ((encL v).length : Int), 0) := by
  have hsz : ¬ (enc v ++ b).size = 0 := by
    rw [ByteArray.size_append]
    have := (encL_len v).1
    have e : (enc v).size = (encL v).length := by unfold enc; rw [son_size]
    omega
  have hb : bt (enc v ++ b) 0 = (encL v).getD 0 0 := by
    have e : (enc v).size = (encL v).length := by unfold enc; rw [son_size]
    rw [bt_app_l _ _ _ (by have := (encL_len v).1; omega)]
    exact bt_son _ _ (encL_bd v) (by have := (encL_len v).1; omega)
  unfold decI
  rw [if_neg hsz, hb]
  by_cases c1 : v = 0
  · subst c1; simp [encL]
  by_cases c2 : v = 1
  · subst c2; simp [encL]
  by_cases c3 : v = 18446744073709551615
  · subst c3; simp [encL]
  by_cases c4 : v < 256
  · have hl : encL v = 10 :: leI v 1 := by unfold encL; rw [if_neg c1, if_neg c2, if_neg c3, if_pos c4]
    rw [← bodyI_enc v 1 10 b h0 (by simpa using c4) hl, hl]; simp
  by_cases c5 : v < 65536
  · have hl : encL v = 11 :: leI v 2 := by unfold encL; rw [if_neg c1, if_neg c2, if_neg c3, if_neg c4, if_pos c5]
    rw [← bodyI_enc v 2 11 b h0 (by simpa using c5) hl, hl]; simp
  by_cases c6 : v < 4294967296
  · have hl : encL v = 12 :: leI v 4 := by unfold encL; rw [if_neg c1, if_neg c2, if_neg c3, if_neg c4, if_neg c5, if_pos c6]
    rw [← bodyI_enc v 4 12 b h0 (by simpa using c6) hl, hl]; simp
  · have hl : encL v = 14 :: leI v 8 := by unfold encL; rw [if_neg c1, if_neg c2, if_neg c3, if_neg c4, if_neg c5, if_neg c6]
    rw [← bodyI_enc v 8 14 b h0 (by simpa using h1) hl, hl]; simp
end Go.Proofs.Ytkolghjjifcjkaa
