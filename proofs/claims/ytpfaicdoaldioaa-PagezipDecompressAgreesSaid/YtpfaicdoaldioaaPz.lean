/- Words, slots, the dictionary, the compressed form as a plain function. -/
import Derived.Test.YtpfaicdoaldioaaByt
import Derived.Lib.AppendStr
namespace Go.Proofs.Ytpfaicdoaldioaa
open Go.ChangeShapes Go.WideShapes Go.ChangeAt Go.RowKit Go.Deep Go.Joins

def RdP (w : World) (v : Value) (e : Ending) (w' : World) : Prop := e = .returned v ∧ ∃ n, w' = w.drewN n
theorem RdP.below {w w' : World} {v : Value} {e : Ending} (h : RdP w v e w') : Below w.heap.size w w' := by
  obtain ⟨_, n, rfl⟩ := h
  exact ⟨rfl, rfl, rfl, Nat.le_refl _, fun _ _ => rfl⟩
theorem or32 (x y : Int) (k P : Nat) (hP : P = 2 ^ k) (h0 : 0 ≤ x) (h1 : x < P) (h2 : 0 ≤ y) (h3 : y * P + P ≤ 4294967296) : bits BinOp.or IntKind.u32 x (y * P) = x + y * P := by
  obtain ⟨X, rfl⟩ := Int.eq_ofNat_of_zero_le h0
  obtain ⟨Y, rfl⟩ := Int.eq_ofNat_of_zero_le h2
  have hp : (((Y * P : Nat) : Int)) = (Y : Int) * P := Int.natCast_mul Y P
  rw [← hp] at h3 ⊢
  have e1 : (BitVec.ofInt 32 ((X : Nat) : Int)).toNat = X := by rw [BitVec.toNat_ofInt]; omega
  have e2 : (BitVec.ofInt 32 (((Y * P : Nat) : Int))).toNat = Y * P := by rw [BitVec.toNat_ofInt]; omega
  have e3 : X ||| Y * P = X + Y * P := by
    have := Nat.two_pow_add_eq_or_of_lt (i := k) (b := X) (by omega) Y
    rw [← hP] at this
    rw [Nat.or_comm, Nat.mul_comm Y, ← this, Nat.add_comm]
  show IntKind.u32.wrap (((BitVec.ofInt 32 ((X : Nat) : Int)) ||| (BitVec.ofInt 32 (((Y * P : Nat) : Int)))).toNat : Int) = _
  rw [BitVec.toNat_or, e1, e2, e3]
  rw [show ∀ n : Int, IntKind.u32.wrap n = n % 4294967296 from fun n => by simp [IntKind.wrap, IntKind.signed, IntKind.bits]]
  omega
theorem or8 (x y : Int) (k P : Nat) (hP : P = 2 ^ k) (h0 : 0 ≤ x) (h1 : x < P) (h2 : 0 ≤ y) (h3 : y * P + P ≤ 256) : bits BinOp.or IntKind.u8 x (y * P) = x + y * P := by
  obtain ⟨X, rfl⟩ := Int.eq_ofNat_of_zero_le h0
  obtain ⟨Y, rfl⟩ := Int.eq_ofNat_of_zero_le h2
  have hp : (((Y * P : Nat) : Int)) = (Y : Int) * P := Int.natCast_mul Y P
  rw [← hp] at h3 ⊢
  have e1 : (BitVec.ofInt 8 ((X : Nat) : Int)).toNat = X := by rw [BitVec.toNat_ofInt]; omega
  have e2 : (BitVec.ofInt 8 (((Y * P : Nat) : Int))).toNat = Y * P := by rw [BitVec.toNat_ofInt]; omega
  have e3 : X ||| Y * P = X + Y * P := by
    have := Nat.two_pow_add_eq_or_of_lt (i := k) (b := X) (by omega) Y
    rw [← hP] at this
    rw [Nat.or_comm, Nat.mul_comm Y, ← this, Nat.add_comm]
  show IntKind.u8.wrap (((BitVec.ofInt 8 ((X : Nat) : Int)) ||| (BitVec.ofInt 8 (((Y * P : Nat) : Int)))).toNat : Int) = _
  rw [BitVec.toNat_or, e1, e2, e3]
  rw [wrap_u8]
  omega
def slotN (w : Int) : Nat := (w / 65536 % 16).toNat
theorem slotN_lt (w : Int) : slotN w < 16 := by unfold slotN; omega
theorem slotN_eq (w : Int) : (slotN w : Int) = w / 65536 % 16 := by unfold slotN; omega
def dstep (D : Nat → Int) (w : Int) : Nat → Int := if w = 0 then D else fun j => if j = slotN w then w else D j
def tgOf (D : Nat → Int) (w : Int) : Int := if w = 0 then 0 else if w = D (slotN w) then 1 else if w / 65536 = D (slotN w) / 65536 then 2 else 3
def bsOf (D : Nat → Int) (w : Int) : List Int := if w = 0 then [] else if w = D (slotN w) then [(slotN w : Int)] else if w / 65536 = D (slotN w) / 65536 then [(slotN w : Int), w % 256, w / 256 % 256] else leI w 4
theorem tgOf_bd (D : Nat → Int) (w : Int) : 0 ≤ tgOf D w ∧ tgOf D w ≤ 3 := by
  unfold tgOf
  split
  · omega
  split
  · omega
  split <;> omega
theorem bsOf_len (D : Nat → Int) (w : Int) : (bsOf D w).length ≤ 4 := by
  unfold bsOf
  split; · simp
  split; · simp
  split; · simp
  · simp [leI_len]
def dct (W : Nat → Int) : Nat → (Nat → Int)
  | 0 => fun _ => 0
  | i + 1 => dstep (dct W i) (W i)
def tg (W : Nat → Int) (i : Nat) : Int := tgOf (dct W i) (W i)
def bsl (W : Nat → Int) : Nat → List Int
  | 0 => []
  | i + 1 => bsl W i ++ bsOf (dct W i) (W i)
theorem bsl_len (W : Nat → Int) (i : Nat) : (bsl W i).length ≤ 4 * i := by
  induction i with
  | zero => simp [bsl]
  | succ i ih => have := bsOf_len (dct W i) (W i); simp only [bsl, List.length_append]; omega
/-- Tag m of byte j after i words. -/
def tgm (W : Nat → Int) (i m : Nat) : Int := if m < i then tg W m else 0
def tbv (W : Nat → Int) (i j : Nat) : Int := tgm W i (4 * j) + tgm W i (4 * j + 1) * 4 + tgm W i (4 * j + 2) * 16 + tgm W i (4 * j + 3) * 64
theorem tgm_bd (W : Nat → Int) (i m : Nat) : 0 ≤ tgm W i m ∧ tgm W i m ≤ 3 := by
  unfold tgm
  split
  · exact tgOf_bd _ _
  · omega
theorem tbv_bd (W : Nat → Int) (i j : Nat) : 0 ≤ tbv W i j ∧ tbv W i j < 256 := by
  have h0 := tgm_bd W i (4 * j)
  have h1 := tgm_bd W i (4 * j + 1)
  have h2 := tgm_bd W i (4 * j + 2)
  have h3 := tgm_bd W i (4 * j + 3)
  unfold tbv
  omega
theorem tgm_succ (W : Nat → Int) (i m : Nat) (h : m ≠ i) : tgm W (i + 1) m = tgm W i m := by
  unfold tgm
  by_cases h1 : m < i
  · rw [if_pos h1, if_pos (by omega)]
  · rw [if_neg h1, if_neg (by omega)]
theorem tbv_other (W : Nat → Int) (i j : Nat) (h : j ≠ i / 4) : tbv W (i + 1) j = tbv W i j := by
  unfold tbv
  rw [tgm_succ _ _ _ (by omega), tgm_succ _ _ _ (by omega), tgm_succ _ _ _ (by omega), tgm_succ _ _ _ (by omega)]
theorem tbv_zero (W : Nat → Int) (i : Nat) (h : W i = 0) (j : Nat) : tbv W (i + 1) j = tbv W i j := by
  have e : ∀ m, tgm W (i + 1) m = tgm W i m := fun m => by
    by_cases hm : m = i
    · subst hm
      unfold tgm
      rw [if_pos (by omega), if_neg (by omega)]
      unfold tg tgOf
      rw [if_pos h]
    · exact tgm_succ _ _ _ hm
  unfold tbv
  rw [e, e, e, e]
theorem tbv_or (W : Nat → Int) (i : Nat) : bits BinOp.or IntKind.u8 (tbv W i (i / 4)) (tg W i * 2 ^ (2 * (i % 4))) = tbv W (i + 1) (i / 4) := by
  have ht := tgOf_bd (dct W i) (W i)
  have ht' : 0 ≤ tg W i ∧ tg W i ≤ 3 := ht
  have low : ∀ m, i ≤ m → tgm W i m = 0 := fun m hm => by unfold tgm; rw [if_neg (by omega)]
  have new : tgm W (i + 1) i = tg W i := by unfold tgm; rw [if_pos (by omega)]
  have h0 := tgm_bd W i (4 * (i / 4))
  have h1 := tgm_bd W i (4 * (i / 4) + 1)
  have h2 := tgm_bd W i (4 * (i / 4) + 2)
  rcases (show i % 4 = 0 ∨ i % 4 = 1 ∨ i % 4 = 2 ∨ i % 4 = 3 by omega) with h | h | h | h
  · have e0 : 4 * (i / 4) = i := by omega
    have v : tbv W i (i / 4) = 0 := by unfold tbv; rw [low _ (by omega), low _ (by omega), low _ (by omega), low _ (by omega)]; rfl
    rw [h, v, show (2 : Int) ^ (2 * 0) = ((1 : Nat) : Int) from rfl, or8 _ _ 0 1 rfl (by omega) (by decide) (by omega) (by omega)]
    unfold tbv
    rw [e0, new, tgm_succ _ _ _ (by omega), tgm_succ _ _ _ (by omega), tgm_succ _ _ _ (by omega), low _ (by omega), low _ (by omega), low _ (by omega)]
    simp
  · have e0 : 4 * (i / 4) + 1 = i := by omega
    have v : tbv W i (i / 4) = tgm W i (4 * (i / 4)) := by unfold tbv; rw [low (4 * (i / 4) + 1) (by omega), low (4 * (i / 4) + 2) (by omega), low (4 * (i / 4) + 3) (by omega)]; omega
    rw [h, v, show (2 : Int) ^ (2 * 1) = ((4 : Nat) : Int) from rfl, or8 _ _ 2 4 rfl (by omega) (by omega) (by omega) (by omega)]
    unfold tbv
    rw [tgm_succ W i (4 * (i / 4)) (by omega), e0, new, tgm_succ _ _ _ (by omega), tgm_succ _ _ _ (by omega), low (4 * (i / 4) + 2) (by omega), low (4 * (i / 4) + 3) (by omega)]
    simp
  · have e0 : 4 * (i / 4) + 2 = i := by omega
    have v : tbv W i (i / 4) = tgm W i (4 * (i / 4)) + tgm W i (4 * (i / 4) + 1) * 4 := by unfold tbv; rw [low (4 * (i / 4) + 2) (by omega), low (4 * (i / 4) + 3) (by omega)]; omega
    rw [h, v, show (2 : Int) ^ (2 * 2) = ((16 : Nat) : Int) from rfl, or8 _ _ 4 16 rfl (by omega) (by omega) (by omega) (by omega)]
    unfold tbv
    rw [tgm_succ W i (4 * (i / 4)) (by omega), tgm_succ W i (4 * (i / 4) + 1) (by omega), e0, new, tgm_succ _ _ _ (by omega), low (4 * (i / 4) + 3) (by omega)]
    simp
  · have e0 : 4 * (i / 4) + 3 = i := by omega
    have v : tbv W i (i / 4) = tgm W i (4 * (i / 4)) + tgm W i (4 * (i / 4) + 1) * 4 + tgm W i (4 * (i / 4) + 2) * 16 := by unfold tbv; rw [low (4 * (i / 4) + 3) (by omega)]; omega
    rw [h, v, show (2 : Int) ^ (2 * 3) = ((64 : Nat) : Int) from rfl, or8 _ _ 6 64 rfl (by omega) (by omega) (by omega) (by omega)]
    unfold tbv
    rw [tgm_succ W i (4 * (i / 4)) (by omega), tgm_succ W i (4 * (i / 4) + 1) (by omega), tgm_succ W i (4 * (i / 4) + 2) (by omega), e0, new]
    simp
def tagL (W : Nat → Int) (i : Nat) : List Int := (List.range 16).map (tbv W i)
theorem tagL_len (W : Nat → Int) (i : Nat) : (tagL W i).length = 16 := by simp [tagL]
def outL (W : Nat → Int) (i : Nat) : List Int := 1 :: (tagL W i ++ bsl W i)
theorem outL_len (W : Nat → Int) (i : Nat) : (outL W i).length = 17 + (bsl W i).length := by simp [outL, tagL_len]; omega
theorem tagL_zero (W : Nat → Int) (i : Nat) (h : W i = 0) : tagL W (i + 1) = tagL W i := by
  unfold tagL
  exact List.map_congr_left (fun j _ => tbv_zero W i h j)
theorem outL_zero (W : Nat → Int) (i : Nat) (h : W i = 0) : outL W (i + 1) = outL W i := by
  unfold outL
  rw [tagL_zero W i h]
  simp [bsl, bsOf, h]
theorem tagL_set (W : Nat → Int) (i : Nat) : tagL W (i + 1) = (tagL W i).set (i / 4) (tbv W (i + 1) (i / 4)) := by
  unfold tagL
  apply List.ext_getElem
  · simp
  · intro j h1 h2
    rw [List.getElem_set]
    simp only [List.getElem_map, List.getElem_range]
    by_cases h : i / 4 = j
    · rw [if_pos h, h]
    · rw [if_neg h]; exact tbv_other W i j (fun x => h x.symm)
/-- The list after the bytes of word i are added, and before its tag is. -/
theorem outL_step (W : Nat → Int) (i : Nat) (hi : i < 64) : outL W (i + 1) = (outL W i ++ bsOf (dct W i) (W i)).set (1 + i / 4) (tbv W (i + 1) (i / 4)) := by
  have e : outL W i ++ bsOf (dct W i) (W i) = 1 :: (tagL W i ++ (bsl W i ++ bsOf (dct W i) (W i))) := by simp [outL]
  rw [e, Nat.add_comm 1 (i / 4), List.set_cons_succ, List.set_append_left _ _ (by rw [tagL_len]; omega), ← tagL_set W i]
  rfl
theorem outL_get (W : Nat → Int) (i : Nat) (hi : i < 64) (l : List Int) : (outL W i ++ l)[1 + i / 4]? = some (tbv W i (i / 4)) := by
  have e : outL W i ++ l = 1 :: (tagL W i ++ (bsl W i ++ l)) := by simp [outL]
  rw [e, Nat.add_comm 1 (i / 4), List.getElem?_cons_succ, List.getElem?_append_left (by rw [tagL_len]; omega)]
  unfold tagL
  rw [List.getElem?_map, List.getElem?_range (by omega)]
  rfl
def wd (s : ByteArray) (i : Nat) : Int := numAt s (4 * i) 4
theorem wd_bd (s : ByteArray) (i : Nat) : 0 ≤ wd s i ∧ wd s i < 4294967296 := by
  have := numAt_bd s (4 * i) 4
  unfold wd
  omega
def cmp (s : ByteArray) : ByteArray := if 239 < (bsl (wd s) 64).length then strOfNums [0] ++ s else strOfNums (outL (wd s) 64)
def pairV (s : ByteArray) (e : Int) : Value := .tuple #[.string s, .int .i64 e]
def cmpR (s : ByteArray) : ByteArray × Int := if s.size = 256 then (cmp s, 0) else ({ data := #[] }, 1)
/-- A dictionary on the heap. -/
structure Dct (w : World) (bd : Nat) (D : Nat → Int) : Prop where
  obj : ∃ cur t, w.heap[bd]? = some (.cells cur t (0, 0)) ∧ t ≠ 5 ∧ cur.size = 16 ∧ ∀ j, j < 16 → cur[j]? = some (.int .u32 (D j))
theorem Dct.lt {w : World} {bd : Nat} {D : Nat → Int} (h : Dct w bd D) : bd < w.heap.size := by
  obtain ⟨_, _, hh, _⟩ := h.obj
  exact blk_lt hh
theorem Dct.cell {w : World} {bd : Nat} {D : Nat → Int} (h : Dct w bd D) (j : Nat) (hj : j < 16) : w.cell? ⟨bd, j, none⟩ = some (.int .u32 (D j)) := by
  obtain ⟨cur, t, hh, _, _, hc⟩ := h.obj
  rw [cell_of_row w bd j cur t (0, 0) hh]
  exact hc j hj
theorem Dct.chg {S : Nat → Prop} {w w' : World} {bd : Nat} {D : Nat → Int} (h : Dct w bd D) (hc : Chg S w w') (hn : ¬ S bd) : Dct w' bd D := by
  obtain ⟨cur, t, hh, r⟩ := h.obj
  exact ⟨cur, t, hc.blk hh hn, r⟩
theorem Dct.set {w : World} {bd : Nat} {D : Nat → Int} (h : Dct w bd D) (k : Nat) (x : Int) : Dct (w.setCell ⟨bd, k, none⟩ (.int .u32 x)) bd (fun j => if j = k then x else D j) := by
  obtain ⟨cur, t, hh, ht, hs, hc⟩ := h.obj
  refine ⟨cur.setIfInBounds k (.int .u32 x), t, heap_setCell_same w bd k cur t _ hh, ht, by simpa using hs, fun j hj => ?_⟩
  by_cases e : j = k
  · subst e
    rw [if_pos rfl, Array.getElem?_setIfInBounds_self_of_lt (by omega)]
  · rw [if_neg e, Array.getElem?_setIfInBounds_ne (fun x => e x.symm)]
    exact hc j hj
/-- The bytes so far, in a row of the call's own, and the dictionary. -/
structure Cz (B : Nat) (w0 wr : World) (bd : Nat) (L : List Int) (D : Nat → Int) (b c : Nat) : Prop where
  own : wr.ownsRow B 5 1 (.slice (some ⟨b, 0, none⟩) L.length c) L.length (L.map (Value.int .u8))
  dic : Dct wr bd D
  bel : Below B w0 wr
  hB : B ≤ bd
theorem Cz.ne {B bd b c : Nat} {w0 wr : World} {L : List Int} {D : Nat → Int} (h : Cz B w0 wr bd L D b c) : b ≠ bd := by
  intro e
  obtain ⟨cur, t, hh, ht, _⟩ := h.dic.obj
  rcases h.own.2 with ⟨h1, _⟩ | ⟨g, cap, cur2, h1, _, h2, _⟩
  · cases h1
  · injection h1 with h1
    injection h1 with h1
    injection h1 with h1
    subst h1
    rw [e, hh] at h2
    injection h2 with h2
    injection h2 with _ h2
    exact ht h2
theorem Cz.low {B bd b c : Nat} {w0 wr : World} {L : List Int} {D : Nat → Int} (h : Cz B w0 wr bd L D b c) : B ≤ b := (h.own.lt b rfl).1
theorem Cz.drew {B bd b c : Nat} {w0 wr : World} {L : List Int} {D : Nat → Int} (h : Cz B w0 wr bd L D b c) : Cz B w0 wr.drew bd L D b c := ⟨h.own, ⟨h.dic.obj⟩, h.bel.drew, h.hB⟩
theorem Cz.drewN {B bd b c : Nat} {w0 wr : World} {L : List Int} {D : Nat → Int} (h : Cz B w0 wr bd L D b c) (n : Nat) : Cz B w0 (wr.drewN n) bd L D b c := ⟨h.own, ⟨h.dic.obj⟩, ⟨h.bel.os, h.bel.tape, h.bel.output, h.bel.size, h.bel.block⟩, h.hB⟩
theorem Cz.alloc {B bd b c : Nat} {w0 wr : World} {L : List Int} {D : Nat → Int} (h : Cz B w0 wr bd L D b c) (o : Obj) : Cz B w0 (wr.alloc o) bd L D b c :=
  ⟨h.own.alloc o, h.dic.chg (Chg.alloc (fun _ => False) wr o) (fun x => x), h.bel.alloc (by have := h.dic.lt; have := h.hB; omega) o, h.hB⟩
theorem Cz.set {B bd b c : Nat} {w0 wr : World} {L : List Int} {D : Nat → Int} (h : Cz B w0 wr bd L D b c) (k : Nat) (x : Int) : Cz B w0 (wr.setCell ⟨b, k, none⟩ (.int .u8 x)) bd (L.set k x) D b c := by
  obtain ⟨o, g⟩ := h.own.stored k (.int .u8 x)
  rw [← List.map_set] at o
  have hl : (L.set k x).length = L.length := by simp
  refine ⟨by rw [hl]; exact o, h.dic.chg (Chg.set wr b k _) (fun e => h.ne e.symm), h.bel.grown g (by have := h.dic.lt; have := h.hB; omega) (fun j hj => by injection hj with hj; have := h.low; omega), h.hB⟩
theorem Cz.dset {B bd b c : Nat} {w0 wr : World} {L : List Int} {D : Nat → Int} (h : Cz B w0 wr bd L D b c) (k : Nat) (x : Int) : Cz B w0 (wr.setCell ⟨bd, k, none⟩ (.int .u32 x)) bd L (fun j => if j = k then x else D j) b c :=
  ⟨own_chg h.own (Chg.set wr bd k _) (fun j hj e => by injection hj with hj; have := h.ne; simp_all), h.dic.set k x, h.bel.grown (g_store wr bd k _) (by have := h.dic.lt; have := h.hB; omega) (fun j hj => by injection hj with hj; have := h.hB; omega), h.hB⟩
theorem Cz.grow {B bd b c m : Nat} {w0 wr w1 : World} {L news : List Int} {D : Nat → Int} {v' : Value} (h : Cz B w0 wr bd L D b c) (hm : news.length = m) (hown : w1.ownsRow B 5 1 v' (L.length + m) (L.map (Value.int .u8) ++ news.map (Value.int .u8)))
    (hg : wr.grownBy w1 (Value.ownBlock (.slice (some ⟨b, 0, none⟩) L.length c))) (hp : 0 < L.length) : ∃ b' c', v' = .slice (some ⟨b', 0, none⟩) (L ++ news).length c' ∧ Cz B w0 w1 bd (L ++ news) D b' c' := by
  obtain ⟨b', c', rfl⟩ := own_form hown (by omega)
  have hl : L.length + m = (L ++ news).length := by rw [List.length_append, hm]
  rw [hl, ← List.map_append] at hown
  refine ⟨b', c', by rw [hl], hown, h.dic.chg (Chg.of_grown hg) (fun e => h.ne (by injection e)), h.bel.grown hg (by have := h.dic.lt; have := h.hB; omega) (fun j hj => ?_), h.hB⟩
  injection hj with hj
  have := h.low
  simp at hj
  omega
set_option maxHeartbeats 1000000 in
theorem slot_any (x : Int) (w : World) (h : 0 ≤ x ∧ x < 4294967296) : Calls Try.prog 18 #[.int .u32 x] w (fun e w' => e = .returned (.int .u32 (slotN x)) ∧ w = w') := by
  have F := Lib.hid (slotN_eq x)
  have e1 := Int.tmod_eq_emod_of_nonneg (a := x / 65536) (b := 16) (by omega)
  go_enter Try.func18, Try.ntmps18
  go_wp2
  go_ret
  exact ⟨by rw [F.out]; rfl, rfl⟩
set_option maxHeartbeats 2000000 in
theorem word_any (s : ByteArray) (w : World) (h : 4 ≤ s.size) : Calls Try.prog 17 #[.string s] w (RdP w (.int .u32 (numAt s 0 4))) := by
  have a0 := bt_at s 0 (by omega)
  have a1 := bt_at s 1 (by omega)
  have a2 := bt_at s 2 (by omega)
  have a3 := bt_at s 3 (by omega)
  have b0 := bt_bd s 0
  have b1 := bt_bd s 1
  have b2 := bt_bd s 2
  have b3 := bt_bd s 3
  have F : Hid (numAt s 0 4 = bt s 0 + bt s 1 * 256 + bt s 2 * 65536 + bt s 3 * 16777216) := by
    show bt s 0 + 256 * (bt s 1 + 256 * (bt s 2 + 256 * (bt s 3 + 256 * 0))) = _
    omega
  have o1 : bits BinOp.or IntKind.u32 (bt s 0) (bt s 1 * 256) = bt s 0 + bt s 1 * 256 := or32 (bt s 0) (bt s 1) 8 256 rfl b0.1 b0.2 b1.1 (by omega)
  have o2 : bits BinOp.or IntKind.u32 (bt s 0 + bt s 1 * 256) (bt s 2 * 65536) = bt s 0 + bt s 1 * 256 + bt s 2 * 65536 := or32 (bt s 0 + bt s 1 * 256) (bt s 2) 16 65536 rfl (by omega) (by omega) b2.1 (by omega)
  have o3 : bits BinOp.or IntKind.u32 (bt s 0 + bt s 1 * 256 + bt s 2 * 65536) (bt s 3 * 16777216) = bt s 0 + bt s 1 * 256 + bt s 2 * 65536 + bt s 3 * 16777216 := or32 (bt s 0 + bt s 1 * 256 + bt s 2 * 65536) (bt s 3) 24 16777216 rfl (by omega) (by omega) b3.1 (by omega)
  have hl : 4 ≤ s.size := h
  generalize bt s 0 = x0 at *
  generalize bt s 1 = x1 at *
  generalize bt s 2 = x2 at *
  generalize bt s 3 = x3 at *
  go_enter Try.func17, Try.ntmps17
  go_wp2
  go_quiet (fail)
  go_wp2
  go_ret
  exact ⟨by rw [F.out]; rfl, _, rfl⟩
end Go.Proofs.Ytpfaicdoaldioaa
