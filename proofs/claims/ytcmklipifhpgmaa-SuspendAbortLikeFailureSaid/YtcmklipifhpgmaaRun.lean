/- A sequence in the course of a law: going to sleep, and waking. -/
import Derived.Test.YtcmklipifhpgmaaMir
namespace Go.Proofs.Ytcmklipifhpgmaa
open Go.ChangeShapes Go.WideShapes Go.ChangeAt Go.RowKit Go.Deep Go.Joins

/-- k operations of going to sleep have succeeded. -/
structure J1 (s : SQ) (n : Nat) (o : Nat → Int) (k : Nat) : Prop where
  iv : Iv s k
  p : s.p = (frw n o 3).drop k
  st : s.st = if k < 4 * n then 0 else 1
  S : ∀ x ∈ (frw n o 3).take k, s.S x.1 x.2 = true
  hn : s.n = n
  ho : s.o = o
  r : s.r = 0
theorem J1.new {n : Nat} {o : Nat → Int} (h : good n o) (L M : Nat) (OA : Option Addr) (oc : Nat) : J1 (newS L M OA oc n o) n o 0 := by
  have hl := frw_len n o 3
  refine ⟨new_iv h L M OA oc, rfl, ?_, fun x hx => by simp at hx, rfl, rfl, rfl⟩
  show stl 0 (frw n o 3).length = _
  rw [hl]
  unfold stl
  by_cases h0 : 0 < (3 + 1) * n
  · rw [if_pos h0, if_pos (by omega)]
  · rw [if_neg h0, if_pos rfl, if_neg (by omega)]
theorem J1.step {s : SQ} {n k : Nat} {o : Nat → Int} (h : J1 s n o k) (hk : k < 4 * n) : (cplS s 0).2 = 0 ∧ J1 (cplS s 0).1 n o (k + 1) := by
  have hl := frw_len n o 3
  have hlt : k < (frw n o 3).length := by omega
  have hd : (frw n o 3).drop k = (frw n o 3)[k] :: (frw n o 3).drop (k + 1) := List.drop_eq_getElem_cons hlt
  have hp := h.p.trans hd
  have hst : s.st = 0 := by rw [h.st, if_pos hk]
  have hc : cplS s 0 = ({ s with st := stl 0 ((frw n o 3).drop (k + 1)).length, p := (frw n o 3).drop (k + 1), S := addS s.S (frw n o 3)[k], nS := s.nS + 1 }, 0) := by
    unfold cplS
    rw [hp]
    simp only [hst, if_true]
  have hiv := h.iv.cpl 0 (by rw [hp]; exact List.cons_ne_nil _ _)
  rw [hc]
  rw [hc] at hiv
  refine ⟨rfl, hiv, rfl, ?_, fun x hx => ?_, h.hn, h.ho, h.r⟩
  · show stl 0 ((frw n o 3).drop (k + 1)).length = _
    rw [List.length_drop, hl]
    unfold stl
    by_cases h0 : 0 < (3 + 1) * n - (k + 1)
    · rw [if_pos h0, if_pos (by omega)]
    · rw [if_neg h0, if_pos rfl, if_neg (by omega)]
  · show addS s.S (frw n o 3)[k] x.1 x.2 = true
    rw [List.take_succ_eq_append_getElem hlt] at hx
    unfold addS
    rcases List.mem_append.1 hx with hx | hx
    · rw [h.S x hx]; simp
    · rw [List.mem_singleton.1 hx]; simp
/-- Waking: i operations are done, the first error is f. -/
structure J2 (s : SQ) (n : Nat) (i : Nat) (f : Int) : Prop where
  iv : Iv s (4 * n + i)
  p : s.p.length = 4 * n - i
  st : s.st = if i < 4 * n then 2 else 3
  hn : s.n = n
  r : s.r = f
theorem J1.wake {s : SQ} {n : Nat} {o : Nat → Int} (h : J1 s n o (4 * n)) : s.st = 1 ∧ (wakS s).2 = 0 ∧ J2 (wakS s).1 n 0 0 := by
  have hl := frw_len n o 3
  have hst : s.st = 1 := by rw [h.st, if_neg (Nat.lt_irrefl _)]
  have hk : bk s = bck n o 4 := by
    unfold bk kp
    rw [h.hn, h.ho, List.filter_eq_self]
    intro x hx
    obtain ⟨i, t, hi, ht, rfl⟩ := bck_mem hx
    have hm := frw_mem o ht (ph := 9 - (5 + (i : Int))) (by omega) (by omega)
    have := h.S (9 - (5 + (i : Int)), o t) (by rw [List.take_of_length_le (by omega)]; exact hm)
    unfold dl
    simp only at this ⊢
    rw [this]
    rfl
  have hw : wakS s = (undS s 0, 0) := by unfold wakS; rw [if_pos hst]
  rw [hw]
  have hiv := h.iv.wak
  rw [hw] at hiv
  have hlen : (bk s).length = 4 * n := by rw [hk, bck_len]
  refine ⟨hst, rfl, hiv, by show (bk s).length = _; omega, ?_, h.hn, rfl⟩
  show stl 2 (bk s).length = _
  rw [hlen]
  unfold stl
  by_cases h0 : 0 < 4 * n
  · rw [if_pos h0, if_pos h0]
  · rw [if_neg h0, if_neg h0]; rfl
theorem J2.step {s : SQ} {n i : Nat} {f : Int} (h : J2 s n i f) (hi : i < 4 * n) (r : Int) : (cplS s r).2 = 0 ∧ J2 (cplS s r).1 n (i + 1) (if f = 0 then r else f) := by
  obtain ⟨x, q, hq⟩ : ∃ x q, s.p = x :: q := by
    cases e : s.p with
    | nil => have := h.p; rw [e] at this; simp at this; omega
    | cons x q => exact ⟨x, q, rfl⟩
  have hst : s.st = 2 := by rw [h.st, if_pos hi]
  have hc : cplS s r = ({ s with st := stl s.st q.length, p := q, r := if s.r = 0 then r else s.r }, 0) := by
    unfold cplS
    rw [hq]
    simp only
    rw [if_neg (by rw [hst]; decide)]
  have hiv := h.iv.cpl r (by rw [hq]; exact List.cons_ne_nil _ _)
  have hlen := h.p
  rw [hq] at hlen
  simp only [List.length_cons] at hlen
  rw [hc]
  rw [hc] at hiv
  refine ⟨rfl, hiv, by show q.length = _; omega, ?_, h.hn, by show (if s.r = 0 then r else s.r) = _; rw [h.r]⟩
  show stl s.st q.length = _
  rw [hst]
  unfold stl
  by_cases h0 : 0 < q.length
  · rw [if_pos h0, if_pos (by omega)]
  · rw [if_neg h0, if_neg (by decide), if_pos rfl, if_neg (by omega)]
theorem J2.fin {s : SQ} {n : Nat} {f : Int} (h : J2 s n (4 * n) f) : s.st = 3 ∧ ∀ r, cplS s r = (s, 9) := by
  refine ⟨by rw [h.st, if_neg (Nat.lt_irrefl _)], fun r => ?_⟩
  have : s.p = [] := List.length_eq_zero_iff.1 (by have := h.p; omega)
  unfold cplS
  rw [this]
/-- A sequence that was made since w0. -/
structure D1 (w0 w : World) (L M : Nat) (OA : Option Addr) (s : SQ) : Prop where
  sq : Sq (fun _ => False) w s
  bel : Below w0.heap.size w0 w
  eL : s.L = L
  eM : s.M = M
  eO : s.OA = OA
  L0 : w0.heap.size ≤ L
  M0 : w0.heap.size ≤ M
theorem D1.below {w0 w w' : World} {L M : Nat} {OA : Option Addr} {s : SQ} (h : D1 w0 w L M OA s) (hb : Below w.heap.size w w') : D1 w0 w' L M OA s := ⟨h.sq.below hb, bel2 h.bel hb, h.eL, h.eM, h.eO, h.L0, h.M0⟩
theorem D1.me {w0 w w' : World} {L M : Nat} {OA : Option Addr} {s s' : SQ} {r : Int} {e : Ending} (h : D1 w0 w L M OA s) (hm : MeP (fun _ => False) w s s' r e w') (e1 : s'.L = s.L) (e2 : s'.M = s.M) (e3 : s'.OA = s.OA) : e = .returned (.int .i64 r) ∧ D1 w0 w' L M OA s' := by
  have hsz := h.bel.size
  have hL := h.L0
  have hM := h.M0
  exact ⟨hm.1, hm.2.1, Below.chg h.bel hm.2.2 h.bel.size (fun b hb => by rw [h.eL, h.eM] at hb; omega), e1.trans h.eL, e2.trans h.eM, e3.trans h.eO, h.L0, h.M0⟩
theorem D1.cpl {w0 w : World} {L M k : Nat} {OA : Option Addr} {s : SQ} (h : D1 w0 w L M OA s) (hi : Iv s k) (hk : k ≤ 10000) (r : Int) : Calls Try.prog 18 #[.pointer (some ⟨L, 0, none⟩), .int .i64 r] w fun e w' => e = .returned (.int .i64 (cplS s r).2) ∧ D1 w0 w' L M OA (cplS s r).1 := by
  have := cpl_any h.sq hi.dv hi.ok (by have := hi.ns; omega) r
  rw [h.eL] at this
  have hl := cpl_L s r
  exact this.mono fun e w' hm => h.me hm hl.1 hl.2.1 hl.2.2.2.2
theorem D1.wak {w0 w : World} {L M k : Nat} {OA : Option Addr} {s : SQ} (h : D1 w0 w L M OA s) (hi : Iv s k) : Calls Try.prog 22 #[.pointer (some ⟨L, 0, none⟩)] w fun e w' => e = .returned (.int .i64 (wakS s).2) ∧ D1 w0 w' L M OA (wakS s).1 := by
  have := wak_any h.sq hi.dv
  rw [h.eL] at this
  have hl := wak_L s
  exact this.mono fun e w' hm => h.me hm hl.1 hl.2.1 hl.2.2.2.2
theorem D1.asl {w0 w : World} {L M : Nat} {OA : Option Addr} {s : SQ} (h : D1 w0 w L M OA s) : Calls Try.prog 28 #[.pointer (some ⟨L, 0, none⟩)] w fun e w' => e = .returned (.bool (s.st == 1)) ∧ w' = w := by
  have := asl_any h.sq
  rw [h.eL] at this
  exact this
theorem D1.res {w0 w : World} {L M : Nat} {OA : Option Addr} {s : SQ} (h : D1 w0 w L M OA s) : Calls Try.prog 26 #[.pointer (some ⟨L, 0, none⟩)] w fun e w' => e = .returned (resT s) ∧ w' = w := by
  have := res_any h.sq
  rw [h.eL] at this
  exact this
end Go.Proofs.Ytcmklipifhpgmaa
