/- The reference's unpack as a plain function; on a compressed form it gives the page. -/
import Derived.Test.YtpfaicdoaldioaaRcc
import Derived.Test.YtpfaicdoaldioaaRt
namespace Go.Proofs.Ytpfaicdoaldioaa
open Go.ChangeShapes Go.WideShapes Go.ChangeAt Go.RowKit Go.Deep Go.Joins

structure Ust where
  l : List Int
  at' : Nat
  d : Nat → Int
def usz (tag : Nat) : Nat := if tag = 0 then 0 else if tag = 1 then 1 else if tag = 2 then 3 else 4
def unW (s : ByteArray) (k : Nat) (D : Nat → Int) (tag : Nat) : Int := if tag = 0 then 0 else if tag = 1 then D (bt s k).toNat else if tag = 2 then D (bt s k).toNat / 65536 * 65536 + bt s (k + 1) + bt s (k + 2) * 256 else numAt s k 4
def unN (s : ByteArray) (t : Ust) (tag : Nat) : Option Ust :=
  if s.size < t.at' + usz tag then none else if (tag = 1 ∨ tag = 2) ∧ 15 < bt s t.at' then none
  else some ⟨t.l ++ leI (unW s t.at' t.d tag) 4, t.at' + usz tag, dstep t.d (unW s t.at' t.d tag)⟩
def unS (s : ByteArray) : Nat → Option Ust
  | 0 => some ⟨[], 17, fun _ => 0⟩
  | i + 1 => (unS s i).bind (fun t => unN s t (tagN s i))
def unR (s : ByteArray) : Option ByteArray := if s.size < 17 then none else (unS s 64).map (fun t => strOfNums t.l)
theorem unS_inv (s : ByteArray) (i : Nat) (t : Ust) (h : unS s i = some t) (hs : 17 ≤ s.size) : t.l.length = 4 * i ∧ D32 t.d ∧ 17 ≤ t.at' ∧ t.at' ≤ s.size := by
  induction i generalizing t with
  | zero =>
    injection h with h
    subst h
    exact ⟨rfl, fun _ => ⟨by show (0 : Int) ≤ 0; omega, by show (0 : Int) < _; omega⟩, by show 17 ≤ 17; omega, hs⟩
  | succ i ih =>
    obtain ⟨u, hu, h2⟩ := Option.bind_eq_some_iff.1 h
    obtain ⟨k1, k2, k3, k4⟩ := ih u hu
    unfold unN at h2
    split at h2
    · cases h2
    split at h2
    · cases h2
    · injection h2 with h2
      subst h2
      have hw : 0 ≤ unW s u.at' u.d (tagN s i) ∧ unW s u.at' u.d (tagN s i) < 4294967296 := by
        unfold unW
        split
        · omega
        split
        · exact k2 _
        split
        · have := k2 (bt s u.at').toNat; have := bt_bd s (u.at' + 1); have := bt_bd s (u.at' + 2); omega
        · have := numAt_bd s u.at' 4; omega
      refine ⟨by show (u.l ++ leI _ 4).length = _; rw [List.length_append, leI_len]; omega, fun j => ?_, by show 17 ≤ u.at' + _; omega, by show u.at' + _ ≤ _; omega⟩
      show 0 ≤ dstep u.d (unW s u.at' u.d (tagN s i)) j ∧ dstep u.d (unW s u.at' u.d (tagN s i)) j < _
      unfold dstep
      split
      · exact k2 j
      · show 0 ≤ (if j = _ then _ else _) ∧ (if j = _ then _ else _) < _
        split
        · exact hw
        · exact k2 j
theorem cbt (W : Nat → Int) (i j : Nat) (h : i < 64) (c : ByteArray) (hc : c = strOfNums (outL W 64)) (hj : j < (bsOf (dct W i) (W i)).length) : bt c (17 + (bsl W i).length + j) = (bsOf (dct W i) (W i)).getD j 0 := by
  have e := lft_bt W i j h c hc hj
  obtain ⟨tl, e2⟩ := bsl_at W i h
  have hs : c.size = 17 + (bsl W 64).length := by rw [hc, son_size, outL_len]
  have hl : (bsl W 64).length = (bsl W i).length + ((bsOf (dct W i) (W i)).length + tl.length) := by rw [e2]; simp
  unfold lft at e
  rw [bt_extract _ _ _ _ (by omega) (Nat.le_refl _)] at e
  exact e
theorem unN_out (W : Nat → Int) (i : Nat) (h : i < 64) (hw : 0 ≤ W i ∧ W i < 4294967296) (c : ByteArray) (hc : c = strOfNums (outL W 64)) (l : List Int) : unN c ⟨l, 17 + (bsl W i).length, dct W i⟩ (tagN c i) = some ⟨l ++ leI (W i) 4, 17 + (bsl W (i + 1)).length, dct W (i + 1)⟩ := by
  have ht := tagN_out W i h c hc
  have hb := fun j => cbt W i j h c hc
  obtain ⟨tl, e⟩ := bsl_at W i h
  have hs : c.size = 17 + (bsl W 64).length := by rw [hc, son_size, outL_len]
  have hl : (bsl W 64).length = (bsl W i).length + ((bsOf (dct W i) (W i)).length + tl.length) := by rw [e]; simp
  have hsl := slotN_lt (W i)
  have hse := slotN_eq (W i)
  have ed : dct W (i + 1) = dstep (dct W i) (W i) := rfl
  have en : (bsl W (i + 1)).length = (bsl W i).length + (bsOf (dct W i) (W i)).length := by show (bsl W i ++ _).length = _; rw [List.length_append]
  rw [ed, en]
  have key : ∀ n, (bsOf (dct W i) (W i)).length = n → usz (tagN c i) = n → unW c (17 + (bsl W i).length) (dct W i) (tagN c i) = W i → ¬ ((tagN c i = 1 ∨ tagN c i = 2) ∧ 15 < bt c (17 + (bsl W i).length)) → unN c ⟨l, 17 + (bsl W i).length, dct W i⟩ (tagN c i) = some ⟨l ++ leI (W i) 4, 17 + ((bsl W i).length + (bsOf (dct W i) (W i)).length), dstep (dct W i) (W i)⟩ := fun n h1 h2 h3 h4 => by
    unfold unN
    show (if c.size < 17 + (bsl W i).length + usz (tagN c i) then none else if _ then none else _) = _
    rw [h2, if_neg (by omega), if_neg h4]
    show some (Ust.mk (l ++ leI (unW c (17 + (bsl W i).length) (dct W i) (tagN c i)) 4) (17 + (bsl W i).length + n) (dstep (dct W i) (unW c (17 + (bsl W i).length) (dct W i) (tagN c i)))) = _
    rw [h3, h1, Nat.add_assoc]
  clear hs hl e ed en
  unfold tg tgOf at ht
  by_cases c0 : W i = 0
  · rw [if_pos c0] at ht
    have t0 : tagN c i = 0 := by omega
    refine key 0 (by unfold bsOf; rw [if_pos c0]; rfl) (by rw [t0]; rfl) ?_ (by omega)
    unfold unW
    rw [if_pos t0, c0]
  rw [if_neg c0] at ht
  by_cases c1 : W i = dct W i (slotN (W i))
  · rw [if_pos c1] at ht
    have t1 : tagN c i = 1 := by omega
    have hl1 : (bsOf (dct W i) (W i)) = [(slotN (W i) : Int)] := by unfold bsOf; rw [if_neg c0, if_pos c1]
    have b0 := hb 0 (by rw [hl1]; simp)
    rw [hl1] at b0
    simp at b0
    refine key 1 (by rw [hl1]; rfl) (by rw [t1]; rfl) ?_ (by rw [b0]; omega)
    unfold unW
    rw [if_neg (by omega), if_pos t1, b0]
    exact c1.symm
  rw [if_neg c1] at ht
  by_cases c2 : W i / 65536 = dct W i (slotN (W i)) / 65536
  · rw [if_pos c2] at ht
    have t2 : tagN c i = 2 := by omega
    have hl1 : (bsOf (dct W i) (W i)) = [(slotN (W i) : Int), W i % 256, W i / 256 % 256] := by unfold bsOf; rw [if_neg c0, if_neg c1, if_pos c2]
    have b0 := hb 0 (by rw [hl1]; simp)
    have b1 := hb 1 (by rw [hl1]; simp)
    have b2 := hb 2 (by rw [hl1]; simp)
    rw [hl1] at b0 b1 b2
    simp at b0 b1 b2
    refine key 3 (by rw [hl1]; rfl) (by rw [t2]; rfl) ?_ (by rw [b0]; omega)
    unfold unW
    rw [if_neg (by omega), if_neg (by omega), if_pos t2, b0, b1, b2, show ((slotN (W i) : Int)).toNat = slotN (W i) by omega, ← c2]
    omega
  · rw [if_neg c2] at ht
    have t3 : tagN c i = 3 := by omega
    have hl1 : (bsOf (dct W i) (W i)) = leI (W i) 4 := by unfold bsOf; rw [if_neg c0, if_neg c1, if_neg c2]
    refine key 4 (by rw [hl1, leI_len]) (by rw [t3]; rfl) ?_ (by omega)
    unfold unW
    rw [if_neg (by omega), if_neg (by omega), if_neg (by omega)]
    exact numAt_leI (W i) 4 hw.1 (by omega) _ _ (fun m hm => by rw [hb m (by rw [hl1, leI_len]; exact hm), hl1])
theorem unS_out (p : ByteArray) (i : Nat) (h : i ≤ 64) (c : ByteArray) (hc : c = strOfNums (outL (wd p) 64)) : unS c i = some ⟨(List.range (4 * i)).map (bt p), 17 + (bsl (wd p) i).length, dct (wd p) i⟩ := by
  induction i with
  | zero => rfl
  | succ i ih =>
    show (unS c i).bind _ = _
    rw [ih (by omega)]
    show unN _ _ _ = _
    rw [unN_out (wd p) i (by omega) (wd_bd p i) c hc]
    congr 2
    unfold wd
    rw [leI_numAt]
    apply List.ext_getElem
    · simp; omega
    · intro j h1 h2
      rw [List.getElem_append]
      split
      · simp
      · rename_i hh
        simp at hh ⊢
        congr 1
        omega
end Go.Proofs.Ytpfaicdoaldioaa
