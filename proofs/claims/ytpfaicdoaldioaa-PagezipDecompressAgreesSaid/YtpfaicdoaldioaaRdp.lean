/- The reference's Decompress as a plain function: it answers as the program's. -/
import Derived.Test.YtpfaicdoaldioaaUnw
import Derived.Test.YtpfaicdoaldioaaCn
namespace Go.Proofs.Ytpfaicdoaldioaa
open Go.ChangeShapes Go.WideShapes Go.ChangeAt Go.RowKit Go.Deep Go.Joins

def rxR (s : ByteArray) : Option ByteArray := if s.size = 257 ∧ bt s 0 = 0 then some (s.extract 1 s.size) else if 0 < s.size ∧ bt s 0 = 1 then unR s else none
def rdcR (s : ByteArray) : ByteArray × Int := match rxR s with
  | none => ({ data := #[] }, 3)
  | some p => if (cmpR p).2 = 0 ∧ (cmpR p).1 = s then (p, 0) else ({ data := #[] }, 3)
theorem unR_cmp (p : ByteArray) (h : p.size = 256) (c : ByteArray) (hc : c = strOfNums (outL (wd p) 64)) : unR c = some p := by
  have hs : c.size = 17 + (bsl (wd p) 64).length := by rw [hc, son_size, outL_len]
  unfold unR
  rw [if_neg (by omega), unS_out p 64 (by omega) c hc]
  show some (strOfNums _) = _
  congr 1
  apply son_inj
  · rw [son_size]; simp; omega
  · intro i hi
    rw [son_size] at hi
    rw [bt_son _ _ (by intro x hx; obtain ⟨j, _, rfl⟩ := List.mem_map.1 hx; exact bt_bd p j) hi]
    simp at hi
    simp [List.getD_eq_getElem?_getD, hi]
theorem rxR_cmp (p : ByteArray) (h : p.size = 256) : rxR (cmp p) = some p := by
  unfold cmp
  split
  · have hs : (strOfNums [0] ++ p).size = 257 := by rw [ByteArray.size_append, son_size, h]; rfl
    have hb : bt (strOfNums [0] ++ p) 0 = 0 := by
      rw [bt_app_l _ _ 0 (by rw [son_size]; simp), bt_son [0] 0 (by intro x hx; simp at hx; omega) (by simp)]
      rfl
    unfold rxR
    rw [if_pos ⟨hs, hb⟩]
    congr 1
    apply son_inj
    · rw [ByteArray.size_extract]; omega
    · intro i hi
      rw [ByteArray.size_extract] at hi
      rw [bt_extract _ _ _ _ (by omega) (Nat.le_refl _), bt_app_r _ _ _ (by rw [son_size]; simp) (by rw [son_size]; simp; omega), son_size]
      congr 1
      simp
  · obtain ⟨c, hc⟩ : ∃ c, c = strOfNums (outL (wd p) 64) := ⟨_, rfl⟩
    rw [← hc]
    have hs : c.size = 17 + (bsl (wd p) 64).length := by rw [hc, son_size, outL_len]
    have hb : bt c 0 = 1 := by rw [hc, bt_son _ _ (outL_bd _ _) (by rw [outL_len]; omega)]; unfold outL; rw [List.getD_cons_zero]
    unfold rxR
    rw [if_neg (by omega), if_pos (by omega)]
    exact unR_cmp p h c hc
theorem cmpR_inv {p s : ByteArray} (h : cmpR p = (s, 0)) : p.size = 256 ∧ cmp p = s := by
  unfold cmpR at h
  split at h
  · rename_i hp
    injection h with h1 _
    exact ⟨hp, h1⟩
  · injection h with _ h2
    cases h2
theorem rdcR_eq (s : ByteArray) : rdcR s = decR s := by
  rcases decR_cases s with h | ⟨p, h, hc⟩
  · rw [h]
    unfold rdcR
    split
    · rfl
    · rename_i x hx
      by_cases c : (cmpR x).2 = 0 ∧ (cmpR x).1 = s
      · exfalso
        have e : cmpR x = (s, 0) := by rw [← c.1, ← c.2]
        obtain ⟨h1, h2⟩ := cmpR_inv e
        have := decR_cmp x h1
        rw [h2, h] at this
        injection this with _ this
        cases this
      · rw [if_neg c]
  · obtain ⟨h1, h2⟩ := cmpR_inv hc
    rw [h]
    unfold rdcR
    have e := rxR_cmp p h1
    rw [h2] at e
    rw [e]
    show (if (cmpR p).2 = 0 ∧ (cmpR p).1 = s then _ else _) = _
    rw [hc]
    simp
end Go.Proofs.Ytpfaicdoaldioaa
