/- Handle, Advance, NewSlot and State of the slot. -/
import Derived.Test.YtefciddekhmifaaSlt
namespace Go.Proofs.Ytefciddekhmifaa
open Go.RowKit

def okSt (st : Nat) : Prop := st = 1 ∨ st = 2 ∨ st = 3 ∨ st = 4 ∨ st = 5 ∨ st = 6
theorem tra_o (w : World) (L st : Nat) (dl gd ev : Int) (_h : SlB 43 w L st dl gd) (he : ev < 1 ∨ 6 < ev) :
    Calls Try.prog 15 #[.pointer (some ⟨L, 0, none⟩), .int .i64 ev] w (TrPost w 0 []) := by
  have h1 : (ev == 1) = false := by simp; omega
  have h2 : (ev == 2) = false := by simp; omega
  have h3 : (ev == 3) = false := by simp; omega
  have h4 : (ev == 4) = false := by simp; omega
  have h5 : (ev == 5) = false := by simp; omega
  have h6 : (ev == 6) = false := by simp; omega
  clear he
  go_enter Try.func15, Try.ntmps15
  go_wp2
  go_ret2
  exact tr_nil (bal2 _ _ _)
theorem nxt_o {st : Nat} {ev : Int} (he : ev < 1 ∨ 6 < ev) : nxt st ev = 0 ∧ act st ev = [] := by
  unfold nxt act
  constructor
  · rw [if_neg (by omega), if_neg (by omega), if_neg (by omega), if_neg (by omega), if_neg (by omega), if_neg (by omega)]
  · rw [if_neg (by omega), if_neg (by omega), if_neg (by omega), if_neg (by omega), if_neg (by omega)]
theorem tra_any (w : World) (L st : Nat) (dl gd ev : Int) (h : SlB 43 w L st dl gd) (hs : okSt st) : Calls Try.prog 15 #[.pointer (some ⟨L, 0, none⟩), .int .i64 ev] w (TrPost w (nxt st ev) (act st ev)) := by
  by_cases he : ev < 1 ∨ 6 < ev
  · obtain ⟨e1, e2⟩ := nxt_o (st := st) he
    rw [e1, e2]
    exact tra_o w L st dl gd ev h he
  · exact tra_c w L st dl gd ev h hs (by omega)
/-- What a call of Handle or Advance leaves. -/
def HPost (t : TypeId) (w : World) (L st : Nat) (dl gd : Int) (l : List Int) (R : Value → Value) (e : Ending) (w' : World) : Prop :=
  ∃ A c, e = .returned (R (.slice A l.length c)) ∧ IL .i64 w.heap.size w' A l ∧ SlB t w' L st dl gd ∧ w.grownBy w' (some L)
def withErr (x : Int) (v : Value) : Value := .tuple #[v, .int .i64 x]
def maxU : Int := 18446744073709551615
/-- The power is good at this time. -/
def goodAt (now dl : Int) : Int := now + min dl (maxU - now)
/-- Handle: the error, the actions, the state, the time. -/
def hE (st : Nat) (ev : Int) : Int := if ev < 1 ∨ 6 < ev then 1 else if nxt st ev = 0 then 9 else 0
def hA (st : Nat) (ev : Int) : List Int := if nxt st ev = 0 then [] else act st ev
def hS (st : Nat) (ev : Int) : Nat := if nxt st ev = 0 then st else nxt st ev
def hG (st : Nat) (ev dl gd now : Int) : Int := if nxt st ev = 3 then goodAt now dl else gd
set_option maxRecDepth 100000 in
set_option maxHeartbeats 2000000 in
theorem hnd_a (w : World) (L st : Nat) (dl gd ev now : Int) (h : SlB 43 w L st dl gd) (hs : okSt st) (hd : U64 dl) (hn : U64 now) :
    Calls Try.prog 12 #[.pointer (some ⟨L, 0, none⟩), .int .i64 ev, .int .u64 now] w (HPost 43 w L (hS st ev) dl (hG st ev dl gd now) (hA st ev) (withErr (hE st ev))) := by
  have C := tra_any w L st dl gd ev h hs
  obtain ⟨d0, d1⟩ := hd
  obtain ⟨n0, n1⟩ := hn
  by_cases he : ev < 1 ∨ 6 < ev
  · obtain ⟨e1, e2⟩ := nxt_o (st := st) he
    have E1 : Hid (hE st ev = 1) := by show _ = _; unfold hE; rw [if_pos he]
    have E2 : Hid (hA st ev = []) := by show _ = _; unfold hA; rw [if_pos e1]
    have E3 : Hid (hS st ev = st) := by show _ = _; unfold hS; rw [if_pos e1]
    have E4 : Hid (hG st ev dl gd now = gd) := by show _ = _; unfold hG; rw [if_neg (by omega)]
    have H := Lib.hid h
    have FIN : Hid (∀ w1, Below w.heap.size w w1 → HPost 43 w L (hS st ev) dl (hG st ev dl gd now) (hA st ev) (withErr (hE st ev)) (.returned (.tuple #[.slice none 0 0, .int .i64 1])) w1) := fun w1 b1 => by
      rw [E1.out, E2.out, E3.out, E4.out]
      exact ⟨none, 0, rfl, il_nil _ _ _ _, b_blk b1 H.out, g_of_below b1 _⟩
    clear h e1 e2
    rcases he with he | he
    · go_enter Try.func12, Try.ntmps12
      go_wp2_with fail
      refine C.mono ?_
      rintro e w1 ⟨A, c, rfl, il, b1⟩
      have b1 := Lib.hid b1
      clear C il
      go_wp2
      go_ret2
      exact FIN.out _ b1.out
    · go_enter Try.func12, Try.ntmps12
      go_wp2_with fail
      refine C.mono ?_
      rintro e w1 ⟨A, c, rfl, il, b1⟩
      have b1 := Lib.hid b1
      clear C il
      go_wp2
      go_ret2
      exact FIN.out _ b1.out
  · have H := Lib.hid h
    by_cases hN : nxt st ev = 0
    · have E1 : Hid (hE st ev = 9) := by show _ = _; unfold hE; rw [if_neg he, if_pos hN]
      have E2 : Hid (hA st ev = []) := by show _ = _; unfold hA; rw [if_pos hN]
      have E3 : Hid (hS st ev = st) := by show _ = _; unfold hS; rw [if_pos hN]
      have E4 : Hid (hG st ev dl gd now = gd) := by show _ = _; unfold hG; rw [if_neg (by omega)]
      rw [hN] at C
      clear h hN
      have C := Lib.hid C
      go_enter Try.func12, Try.ntmps12
      go_wp2_with fail
      refine C.out.mono ?_
      rintro e w1 ⟨A, c, rfl, il, b1⟩
      have b1 := Lib.hid b1
      clear C il
      go_wp2
      go_ret2
      rw [E1.out, E2.out, E3.out, E4.out]
      exact ⟨none, 0, rfl, il_nil _ _ _ _, b_blk b1.out H.out, g_of_below b1.out _⟩
    · have E1 : Hid (hE st ev = 0) := by show _ = _; unfold hE; rw [if_neg he, if_neg hN]
      have E2 : Hid (hA st ev = act st ev) := by show _ = _; unfold hA; rw [if_neg hN]
      have E3 : Hid (hS st ev = nxt st ev) := by show _ = _; unfold hS; rw [if_neg hN]
      have E4 : Hid (hG st ev dl gd now = if nxt st ev = 3 then goodAt now dl else gd) := rfl
      generalize nxt st ev = N at *
      generalize act st ev = l at *
      have hN' : ((N : Int) == 0) = false := by simp; omega
      have NN := Lib.hid hN
      clear h hN
      by_cases h3 : N = 3
      · have h3' : ((N : Int) == 3) = true := by simp [h3]
        rw [if_pos h3] at E4
        have H3 := Lib.hid h3
        clear h3
        have E5 : Hid (goodAt now dl = now + min dl (18446744073709551615 - now)) := rfl
        rcases (show dl ≤ 18446744073709551615 - now ∨ 18446744073709551615 - now < dl by omega) with hmn | hmn
        · have E6 : Hid (goodAt now dl = now + dl) := by show _ = _; rw [E5.out]; omega
          go_enter Try.func12, Try.ntmps12
          go_wp2_with fail
          refine C.mono ?_
          rintro e w1 ⟨A, c, rfl, il, b1⟩
          have B1 := b_blk b1 H.out
          have c0 := SlB.c0 B1
          have c1 := SlB.c1 B1
          have c2 := SlB.c2 B1
          have z0 := SlB.fz B1 0
          have z2 := SlB.fz B1 2
          have IL1 := Lib.hid il
          have BW := Lib.hid b1
          have HB := Lib.hid B1
          clear C il b1 B1
          go_wp2
          go_ret2
          have G2 := g_then (g_store w1 L 2 (.int .u64 (now + dl))) (g_store _ L 0 (.int .i64 (N : Int)))
          rw [E1.out, E2.out, E3.out, E4.out, E6.out]
          refine ⟨A, c, rfl, IL1.out.chg (Chg.of_grown G2) (fun b hb e => ?_), (SlB.set2 HB.out _).set0 N, g_then (g_of_below BW.out _) G2⟩
          injection e with e
          have := blk_lt H.out; omega
        · have E6 : Hid (goodAt now dl = now + (18446744073709551615 - now)) := by show _ = _; rw [E5.out]; omega
          go_enter Try.func12, Try.ntmps12
          go_wp2_with fail
          refine C.mono ?_
          rintro e w1 ⟨A, c, rfl, il, b1⟩
          have B1 := b_blk b1 H.out
          have c0 := SlB.c0 B1
          have c1 := SlB.c1 B1
          have c2 := SlB.c2 B1
          have z0 := SlB.fz B1 0
          have z2 := SlB.fz B1 2
          have IL1 := Lib.hid il
          have BW := Lib.hid b1
          have HB := Lib.hid B1
          clear C il b1 B1
          go_wp2
          go_ret2
          have G2 := g_then (g_store w1 L 2 (.int .u64 (now + (18446744073709551615 - now)))) (g_store _ L 0 (.int .i64 (N : Int)))
          rw [E1.out, E2.out, E3.out, E4.out, E6.out]
          refine ⟨A, c, rfl, IL1.out.chg (Chg.of_grown G2) (fun b hb e => ?_), (SlB.set2 HB.out _).set0 N, g_then (g_of_below BW.out _) G2⟩
          injection e with e
          have := blk_lt H.out; omega
      · have h3' : ((N : Int) == 3) = false := by simp; omega
        rw [if_neg h3] at E4
        have H3 := Lib.hid h3
        clear h3
        go_enter Try.func12, Try.ntmps12
        go_wp2_with fail
        refine C.mono ?_
        rintro e w1 ⟨A, c, rfl, il, b1⟩
        have B1 := b_blk b1 H.out
        have c0 := SlB.c0 B1
        have z0 := SlB.fz B1 0
        have IL1 := Lib.hid il
        have BW := Lib.hid b1
        have HB := Lib.hid B1
        clear C il b1 B1
        go_wp2
        go_ret2
        have G2 := g_store w1 L 0 (.int .i64 (N : Int))
        rw [E1.out, E2.out, E3.out, E4.out]
        refine ⟨A, c, rfl, IL1.out.chg (Chg.of_grown G2) (fun b hb e => ?_), SlB.set0 HB.out N, g_then (g_of_below BW.out _) G2⟩
        injection e with e
        have := blk_lt H.out; omega
end Go.Proofs.Ytefciddekhmifaa
