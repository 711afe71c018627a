/- expand. -/
import Derived.Test.YtpfaicdoaldioaaRds
import Derived.Test.YtpfaicdoaldioaaCmp
import Derived.Deep.LoopGhost
namespace Go.Proofs.Ytpfaicdoaldioaa
open Go.ChangeShapes Go.WideShapes Go.ChangeAt Go.RowKit Go.Deep Go.Joins

theorem rw_any (r : ByteArray) (D : Nat → Int) (R tag : Nat) (w : World) (h : RdR w R r D) (hd : D32 D) (ht : tag < 4) (hz : r.size ≤ 281474976710656) : Calls Try.prog 21 #[.pointer (some ⟨R, 0, none⟩), .int .u8 tag] w (RwP w R (rdw r D tag)) := by
  by_cases h0 : tag = 0
  · subst h0; exact rw_0 r D R w h
  by_cases hb : r.size < rsz tag ∨ (tag ≠ 3 ∧ 16 ≤ bt r 0)
  · exact rw_none r D R tag w h (by omega) hb
  · rcases (show tag = 1 ∨ tag = 2 ∨ tag = 3 by omega) with rfl | rfl | rfl
    · exact rw_1 r D R w h hd (fun x => hb (.inl x)) (fun x => hb (.inr ⟨by omega, x⟩)) hz
    · exact rw_2 r D R w h hd (fun x => hb (.inl x)) (fun x => hb (.inr ⟨by omega, x⟩)) hz
    · exact rw_3 r D R w h hd (fun x => hb (.inl x)) hz
structure Ext where
  l : List Int
  r : ByteArray
  d : Nat → Int
def tagN (s : ByteArray) (i : Nat) : Nat := (bt s (1 + i / 4) / 2 ^ (2 * (i % 4)) % 4).toNat
theorem tagN_lt (s : ByteArray) (i : Nat) : tagN s i < 4 := by unfold tagN; omega
theorem tagN_eq (s : ByteArray) (i : Nat) : (tagN s i : Int) = bt s (1 + i / 4) / 2 ^ (2 * (i % 4)) % 4 := by unfold tagN; omega
def exN (t : Ext) (tag : Nat) : Option Ext := (rdw t.r t.d tag).map (fun u => ⟨t.l ++ leI u.w 4, u.r, u.d⟩)
def exS (s : ByteArray) : Nat → Option Ext
  | 0 => some ⟨[], s.extract 17 s.size, fun _ => 0⟩
  | i + 1 => (exS s i).bind (fun t => exN t (tagN s i))
theorem rdw_size {r : ByteArray} {D : Nat → Int} {tag : Nat} {t : Rst} (h : rdw r D tag = some t) : t.r.size ≤ r.size := by
  unfold rdw at h
  split at h
  · injection h with h; subst h; exact Nat.le_refl _
  split at h
  · cases h
  split at h
  · cases h
  · injection h with h
    subst h
    show (r.extract (rsz tag) r.size).size ≤ _
    rw [ByteArray.size_extract]
    omega
theorem exS_inv (s : ByteArray) (i : Nat) (t : Ext) (h : exS s i = some t) : t.l.length = 4 * i ∧ D32 t.d ∧ t.r.size ≤ s.size := by
  induction i generalizing t with
  | zero =>
    injection h with h
    subst h
    exact ⟨rfl, fun _ => ⟨by show (0 : Int) ≤ 0; omega, by show (0 : Int) < _; omega⟩, by show (s.extract 17 s.size).size ≤ _; rw [ByteArray.size_extract]; omega⟩
  | succ i ih =>
    obtain ⟨u, hu, h2⟩ := Option.bind_eq_some_iff.1 h
    obtain ⟨k1, k2, k3⟩ := ih u hu
    obtain ⟨q, hq, h3⟩ := Option.map_eq_some_iff.1 h2
    subst h3
    refine ⟨by show (u.l ++ leI q.w 4).length = _; rw [List.length_append, leI_len]; omega, (rdw_bd hq k2).2, Nat.le_trans (rdw_size hq) k3⟩
def exR (s : ByteArray) : Option ByteArray :=
  if s.size = 0 then none else if bt s 0 = 0 then some (s.extract 1 s.size) else if s.size < 17 then none else (exS s 64).map (fun t => strOfNums t.l)
theorem and3 (x : Int) (h0 : 0 ≤ x) (h1 : x < 256) : bits BinOp.and IntKind.u8 x 3 = x % 4 := by
  obtain ⟨X, rfl⟩ := Int.eq_ofNat_of_zero_le h0
  have e1 : (BitVec.ofInt 8 (X : Int)).toNat = X := by rw [BitVec.toNat_ofInt]; omega
  have e2 : (BitVec.ofInt 8 (3 : Int)).toNat = 2 ^ 2 - 1 := by decide
  show IntKind.u8.wrap (((BitVec.ofInt 8 (X : Int)) &&& (BitVec.ofInt 8 3)).toNat : Int) = _
  rw [BitVec.toNat_and, e1, e2, Nat.and_two_pow_sub_one_eq_mod, wrap_u8]
  omega
def ExP (w : World) (o : Option ByteArray) (e : Ending) (w' : World) : Prop :=
  Below w.heap.size w w' ∧ match o with
    | none => e = .returned (.tuple #[.string { data := #[] }, .bool false])
    | some p => e = .returned (.tuple #[.string p, .bool true])
theorem ExP.none' {w w' : World} {o : Option ByteArray} (ho : o = none) (hc : Below w.heap.size w w') : ExP w o (.returned (.tuple #[.string { data := #[] }, .bool false])) w' := by
  subst ho; exact ⟨hc, rfl⟩
theorem ExP.some' {w w' : World} {o : Option ByteArray} {p : ByteArray} (ho : o = some p) (hc : Below w.heap.size w w') : ExP w o (.returned (.tuple #[.string p, .bool true])) w' := by
  subst ho; exact ⟨hc, rfl⟩
theorem own_ne {w : World} {B R n : Nat} {v : Value} {xs : List Value} {r : ByteArray} {D : Nat → Int} (h : w.ownsRow B 5 1 v n xs) (k : RdR w R r D) : v.ownBlock ≠ some R := by
  intro e
  obtain ⟨cur, t, hh, ht, _⟩ := k.obj
  rcases h.2 with ⟨rfl, _⟩ | ⟨g, cap, cur2, rfl, _, h2, _⟩
  · cases e
  · injection e with e
    simp at e
    subst e
    rw [hh] at h2
    injection h2 with h2
    injection h2 with _ h2
    exact ht h2
/-- The state of expand's loop. -/
structure Xs (s : ByteArray) (w wr : World) (R i : Nat) (v : Value) (t : Ext) : Prop where
  ex : exS s i = some t
  own : wr.ownsRow w.heap.size 5 1 v t.l.length (t.l.map (Value.int .u8))
  rd : RdR wr R t.r t.d
  bel : Below w.heap.size w wr
  hR : w.heap.size ≤ R
set_option maxHeartbeats 2000000 in
theorem ex_short (s : ByteArray) (w : World) (h : s.size = 0 ∨ (bt s 0 = 0 ∧ 0 < s.size) ∨ (bt s 0 ≠ 0 ∧ 0 < s.size ∧ s.size < 17)) (hz : s.size ≤ 281474976710656) : Calls Try.prog 19 #[.string s] w (ExP w (exR s)) := by
  by_cases h0 : s.size = 0
  · have F : Hid (exR s = none) := by show _ = _; unfold exR; rw [if_pos h0]
    have he := emp_t s h0
    clear h h0
    go_enter Try.func19, Try.ntmps19
    go_wp2
    go_ret2
    exact ExP.none' F.out (Below.refl _ _)
  have hs : 0 < s.size := by omega
  have he := emp_f s h0
  have ha := bt_at s 0 hs
  rcases h with h | ⟨hb, _⟩ | ⟨hb, _, hl⟩
  · exact absurd h h0
  · have F : Hid (exR s = some (s.extract 1 s.size)) := by show _ = _; unfold exR; rw [if_neg h0, if_pos hb]
    rw [hb] at ha
    clear hb h0
    go_enter Try.func19, Try.ntmps19
    go_wp2
    go_ret2
    exact ExP.some' F.out (Below.refl _ _)
  · have F : Hid (exR s = none) := by show _ = _; unfold exR; rw [if_neg h0, if_neg hb, if_pos hl]
    have e0 : (bt s 0 == 0) = false := beq_eq_false_iff_ne.2 hb
    clear hb h0
    generalize bt s 0 = x at *
    go_enter Try.func19, Try.ntmps19
    go_wp2
    go_ret2
    exact ExP.none' F.out (Below.refl _ _)
theorem xs_0 (s : ByteArray) (w : World) : Xs s w (w.alloc
      (Obj.cells
        #[Value.string (s.extract 17 s.size), Value.int IntKind.u32 0, Value.int IntKind.u32 0, Value.int IntKind.u32 0,
          Value.int IntKind.u32 0, Value.int IntKind.u32 0, Value.int IntKind.u32 0, Value.int IntKind.u32 0,
          Value.int IntKind.u32 0, Value.int IntKind.u32 0, Value.int IntKind.u32 0, Value.int IntKind.u32 0,
          Value.int IntKind.u32 0, Value.int IntKind.u32 0, Value.int IntKind.u32 0, Value.int IntKind.u32 0,
          Value.int IntKind.u32 0]
        47)) w.heap.size 0 (.slice none 0 0) ⟨[], s.extract 17 s.size, fun _ => 0⟩ := by
  refine ⟨rfl, World.ownsRow_nil _ _ _ _, ⟨_, 47, heap_alloc_new w _, by decide, rfl, rfl, fun j hj => ?_⟩, bal (Below.refl _ _) _, Nat.le_refl _⟩
  rcases (show j = 0 ∨ j = 1 ∨ j = 2 ∨ j = 3 ∨ j = 4 ∨ j = 5 ∨ j = 6 ∨ j = 7 ∨ j = 8 ∨ j = 9 ∨ j = 10 ∨ j = 11 ∨ j = 12 ∨ j = 13 ∨ j = 14 ∨ j = 15 by omega) with h | h | h | h | h | h | h | h | h | h | h | h | h | h | h | h <;> (subst h; rfl)
theorem exS_none (s : ByteArray) (i : Nat) (h : exS s i = none) (k : Nat) : exS s (i + k) = none := by
  induction k with
  | zero => exact h
  | succ k ih => show (exS s (i + k)).bind _ = none; rw [ih]; rfl
end Go.Proofs.Ytpfaicdoaldioaa
