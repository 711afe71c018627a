/- Sequences of writes. -/
import Derived.Test.YtoafoikphpdimaaAwk
import Derived.Test.YtoafoikphpdimaaOpn
namespace Go.Proofs.Ytoafoikphpdimaa
open Go.ChangeShapes Go.WideShapes Go.ChangeAt Go.RowKit Go.Deep Go.Joins

/-- The first i calls as writes to a disk of N sectors. -/
def wlN (g : Nat → Cl) (N : Nat) : Nat → List CW
  | 0 => []
  | i + 1 => wlN g N i ++ [⟨modOf (g i).s N, secS (g i).d⟩]
theorem wlN_len (g : Nat → Cl) (N i : Nat) : (wlN g N i).length = i := by
  induction i with
  | zero => rfl
  | succ i ih => show (wlN g N i ++ _).length = _; rw [List.length_append, ih]; rfl
theorem has_mod {s : DkS} {N : Nat} (h : s.n = N) (hN : 1 ≤ N ∧ N ≤ 1000000) (x : Int) : hasB s (modOf x N : Nat) = true := by
  have := (modOf_spec x N hN.1 hN.2).2
  unfold hasB
  rw [h, decide_eq_true (by omega), decide_eq_true (by omega)]
  rfl
theorem wr_plain {s : DkS} {g : Nat → Cl} {N i : Nat} (hn : s.n = N) (hN : 1 ≤ N ∧ N ≤ 1000000) (ho : s.off = false) (hp : s.pl = false) : wrS { s with C := wlN g N i } (modOf (g i).s N : Nat) (secS (g i).d) = ({ s with C := wlN g N (i + 1) }, 0) := by
  exact (wr_ok (s := { s with C := wlN g N i }) (has_mod hn hN _) (secS_size _) ho hp).trans rfl
/-- A disk whose power loss is planned after c writes. -/
def cpA (N L X c : Nat) (q : Nat → Bool) (qn : Nat) (g : Nat → Cl) (i : Nat) : DkS := { s0 N L X with pl := true, pw := (c : Int) - i, q := q, qn := qn, C := wlN g N i }
def cpS (N L X c : Nat) (q : Nat → Bool) (qn : Nat) (g : Nat → Cl) (i : Nat) : DkS := if i ≤ c then cpA N L X c q qn g i else loS (cpA N L X c q qn g c) q qn
theorem cp_0 (N L X c : Nat) (q : Nat → Bool) (qn : Nat) (g : Nat → Cl) : cutS (s0 N L X) c q qn = cpS N L X c q qn g 0 := by
  unfold cutS cpS
  rw [if_pos (by omega), if_pos (by omega)]
  show _ = { s0 N L X with pl := true, pw := (c : Int) - (0 : Nat), q := q, qn := qn, C := [] }
  rw [show (c : Int) - (0 : Nat) = c by omega]
  rfl
theorem cp_step (N L X c : Nat) (q : Nat → Bool) (qn : Nat) (g : Nat → Cl) (i : Nat) (hN : 1 ≤ N ∧ N ≤ 1000000) :
    wrS (cpS N L X c q qn g i) (modOf (g i).s N : Nat) (secS (g i).d) = (cpS N L X c q qn g (i + 1), if i < c then 0 else 16) := by
  have hb : hasB (cpS N L X c q qn g i) (modOf (g i).s N : Nat) = true := has_mod (by unfold cpS; split <;> rfl) hN _
  unfold wrS
  rw [hb, decide_eq_true (secS_size _)]
  rw [if_pos (by rfl)]
  rcases Nat.lt_trichotomy i c with h | h | h
  · rw [show cpS N L X c q qn g i = cpA N L X c q qn g i by unfold cpS; rw [if_pos (by omega)], show cpS N L X c q qn g (i + 1) = cpA N L X c q qn g (i + 1) by unfold cpS; rw [if_pos (by omega)], if_pos h,
      if_neg (by show ¬ (false = true); simp), if_pos (by rfl), if_neg (by show ¬ ((c : Int) - i = 0); omega)]
    show (({ s0 N L X with pl := true, pw := (c : Int) - i - 1, q := q, qn := qn, C := wlN g N (i + 1) } : DkS), (0 : Int)) = _
    rw [show (c : Int) - i - 1 = (c : Int) - ((i + 1 : Nat) : Int) by omega]
    rfl
  · subst h
    rw [show cpS N L X i q qn g i = cpA N L X i q qn g i by unfold cpS; rw [if_pos (by omega)], show cpS N L X i q qn g (i + 1) = loS (cpA N L X i q qn g i) q qn by unfold cpS; rw [if_neg (by omega)], show (if i < i then (0 : Int) else 16) = 16 from if_neg (Nat.lt_irrefl _),
      if_neg (by show ¬ (false = true); simp), if_pos (by rfl), if_pos (by show (i : Int) - i = 0; omega)]
    rfl
  · rw [show cpS N L X c q qn g i = loS (cpA N L X c q qn g c) q qn by unfold cpS; rw [if_neg (by omega)], show cpS N L X c q qn g (i + 1) = loS (cpA N L X c q qn g c) q qn by unfold cpS; rw [if_neg (by omega)], show (if i < c then (0 : Int) else 16) = 16 from if_neg (by omega),
      if_pos (by rfl)]
theorem cp_len (N L X c : Nat) (q : Nat → Bool) (qn : Nat) (g : Nat → Cl) (i : Nat) : (cpS N L X c q qn g i).C.length ≤ i := by
  unfold cpS
  split
  · show (wlN g N i).length ≤ i; rw [wlN_len]; omega
  · show (0 : Nat) ≤ i; omega
end Go.Proofs.Ytoafoikphpdimaa
