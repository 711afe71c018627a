/- One event's bits: what each call leaves of them. -/
import Derived.Test.YtmhianhaljphiaaDoorGpl
namespace Go.Proofs.YtmhianhaljphiaaDoor
open Go.RowKit

def Only (x : BitVec 64) (k : Nat) (b : Bool) : Prop := ∀ j, j < 64 → x.getLsbD j = (decide (j = k) && b)
theorem Only.with {x : BitVec 64} {k : Nat} {b : Bool} (h : Only x k b) (hk : k < 64) (c : Bool) : Only (withB x (bitB k) c) k c := fun j hj => by
  rw [withB_get _ _ _ _ hk hj, h j hj]
  by_cases e : j = k
  · subst e; simp
  · rw [if_neg e, decide_eq_false e]; simp
theorem Only.next {x : BitVec 64} {k : Nat} (h : Only x k true) (hk : k < 64) : x ≠ 0#64 ∧ Lib.ctz 64 x.toNat = k := by
  have h0 : x ≠ 0#64 := fun e => by
    have := h k hk
    rw [e] at this
    simp at this
  refine ⟨h0, ?_⟩
  obtain ⟨h1, h2, _⟩ := ctz_get x h0
  have := h _ h1
  rw [h2] at this
  simpa using this.symm
theorem Only.zero {x : BitVec 64} {k : Nat} (h : Only x k false) : x = 0#64 := (eq0_iff x).2 fun j hj => by rw [h j hj]; simp
structure Bt (s : GpS) (n k : Nat) (lv li st en hd : Bool) : Prop where
  ct : s.ct = n
  hn : n ≤ 64
  hk : k < n
  lv : s.lv.getLsbD k = lv
  li : s.li.getLsbD k = li
  st : s.st.getLsbD k = st
  hd : s.hd.getLsbD k = hd
  en : Only s.en k en
theorem or_bit (x : BitVec 64) (k j : Nat) (hk : k < 64) : (x ||| bitB k).getLsbD j = (x.getLsbD j || decide (j = k)) := by rw [BitVec.getLsbD_or, bitB_get _ _ hk]
theorem not_bit (x : BitVec 64) (k j : Nat) (hk : k < 64) (hj : j < 64) : (x &&& ~~~bitB k).getLsbD j = (x.getLsbD j && !decide (j = k)) := by rw [BitVec.getLsbD_and, BitVec.getLsbD_not, bitB_get _ _ hk, decide_eq_true hj, Bool.true_and]
theorem Bt.en' {s : GpS} {n k : Nat} {lv li st en hd : Bool} (h : Bt s n k lv li st en hd) (on : Bool) : Bt (enS s k on) n k lv li st on hd :=
  ⟨h.ct, h.hn, h.hk, h.lv, h.li, h.st, h.hd, h.en.with (Nat.lt_of_lt_of_le h.hk h.hn) on⟩
theorem Bt.set {s : GpS} {n k : Nat} {lv li st en hd : Bool} (h : Bt s n k lv li st en hd) (on : Bool) : Bt (setS s k on) n k lv on (st || (on && (!li || lv && !hd))) en hd := by
  have hk := Nat.lt_of_lt_of_le h.hk h.hn
  refine ⟨h.ct, h.hn, h.hk, h.lv, ?_, ?_, h.hd, h.en⟩
  · show (withB s.li (bitB k) on).getLsbD k = on
    rw [withB_get _ _ _ _ hk hk, if_pos rfl]
  · show (if riseS s k on then s.st ||| bitB k else s.st).getLsbD k = _
    rw [rise_get _ _ _ hk, h.li, h.lv, h.hd]
    split
    · rename_i e
      rw [or_bit _ _ _ hk, e]; simp
    · rename_i e
      rw [h.st, Bool.not_eq_true _ |>.mp e]; simp
theorem Bt.set_other {s : GpS} {n k : Nat} {lv li st en hd : Bool} (h : Bt s n k lv li st en hd) (j : Nat) (hj : j < n) (hne : j ≠ k) (on : Bool) : Bt (setS s j on) n k lv li st en hd := by
  have hk := Nat.lt_of_lt_of_le h.hk h.hn
  have hj' := Nat.lt_of_lt_of_le hj h.hn
  refine ⟨h.ct, h.hn, h.hk, h.lv, ?_, ?_, h.hd, h.en⟩
  · show (withB s.li (bitB j) on).getLsbD k = li
    rw [withB_get _ _ _ _ hj' hk, if_neg (fun e => hne e.symm), h.li]
  · show (if riseS s j on then s.st ||| bitB j else s.st).getLsbD k = st
    split
    · rw [or_bit _ _ _ hj', decide_eq_false (fun e => hne e.symm), h.st]; simp
    · exact h.st
theorem Bt.beg {s : GpS} {n k : Nat} {lv li st en hd : Bool} (h : Bt s n k lv li st en hd) : Bt (begS s k) n k lv li (st && lv) en true := by
  have hk := Nat.lt_of_lt_of_le h.hk h.hn
  refine ⟨h.ct, h.hn, h.hk, h.lv, h.li, ?_, ?_, h.en⟩
  · show (if s.lv.getLsbD k then s.st else s.st &&& ~~~bitB k).getLsbD k = _
    rw [h.lv]
    cases lv
    · rw [if_neg (by simp), not_bit _ _ _ hk hk]; simp
    · rw [if_pos rfl, h.st]; simp
  · show (s.hd ||| bitB k).getLsbD k = true
    rw [or_bit _ _ _ hk]; simp
theorem Bt.cmp {s : GpS} {n k : Nat} {lv li st en hd : Bool} (h : Bt s n k lv li st en hd) : Bt (cmpS s k) n k lv li (if lv then li else st) en false := by
  have hk := Nat.lt_of_lt_of_le h.hk h.hn
  refine ⟨h.ct, h.hn, h.hk, h.lv, h.li, ?_, ?_, h.en⟩
  · show (if s.lv.getLsbD k then withB s.st (bitB k) (s.li.getLsbD k) else s.st).getLsbD k = _
    rw [h.lv, h.li]
    cases lv
    · rw [if_neg (by simp), if_neg (by simp), h.st]
    · rw [if_pos rfl, if_pos rfl, withB_get _ _ _ _ hk hk, if_pos rfl]
  · show (s.hd &&& ~~~bitB k).getLsbD k = false
    rw [not_bit _ _ _ hk hk]; simp
theorem Bt.rdy {s : GpS} {n k : Nat} {lv li st en hd : Bool} (h : Bt s n k lv li st en hd) : Only (Go.Proofs.YtmhianhaljphiaaDoor.rdy s) k (st && en && !hd) := fun j hj => by
  rw [rdy_get _ _ hj, h.en j hj]
  by_cases e : j = k
  · subst e; rw [h.st, h.hd]; simp
  · rw [decide_eq_false e]; simp
def nxB (k : Nat) (b : Bool) : Value := if b then .tuple #[.int .i64 k, .bool true] else .tuple #[.int .i64 0, .bool false]
theorem Bt.next {s : GpS} {n k : Nat} {lv li st en hd : Bool} (h : Bt s n k lv li st en hd) : nxV s = nxB k (st && en && !hd) := by
  have hr := h.rdy
  have hk := Nat.lt_of_lt_of_le h.hk h.hn
  generalize (st && en && !hd) = b at *
  unfold nxV nxB
  cases b
  · rw [if_pos hr.zero]; rfl
  · obtain ⟨h0, h1⟩ := hr.next hk
    rw [if_neg h0, h1]; rfl
theorem Bt.rdyk {s : GpS} {n k : Nat} {lv li st en hd : Bool} (h : Bt s n k lv li st en hd) : (Go.Proofs.YtmhianhaljphiaaDoor.rdy s).getLsbD k = (st && en && !hd) := by
  rw [h.rdy k (Nat.lt_of_lt_of_le h.hk h.hn)]; simp
theorem bt_new (n k : Nat) (hk : k < n) (hn : n ≤ 64) (f : Nat → Bool) : Bt (new0 n (lvl f n)) n k (f k) false false false false := by
  refine ⟨rfl, hn, hk, ?_, ?_, ?_, ?_, fun j _ => ?_⟩
  · show (lvl f n).getLsbD k = f k
    rw [lvl_get _ _ _ hn (by omega), decide_eq_true hk]; simp
  all_goals simp [new0]
theorem nm_ok : ∀ k, k < 64 → (pre true ++ nm k).size = 4 ∧ (pre true ++ nm k).extract 0 2 = { data := #[95, 76] } := by decide +kernel
end Go.Proofs.YtmhianhaljphiaaDoor
