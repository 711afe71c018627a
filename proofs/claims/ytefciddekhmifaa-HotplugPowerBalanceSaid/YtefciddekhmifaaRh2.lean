/- The reference's Handle: the other events. -/
import Derived.Test.YtefciddekhmifaaRhb
namespace Go.Proofs.Ytefciddekhmifaa
open Go.RowKit

set_option maxRecDepth 100000 in
set_option maxHeartbeats 1000000 in
theorem rhd_o (w : World) (L st : Nat) (dl gd ev now : Int) (h : SlB 39 w L st dl gd) (he : ev < 1 ∨ 6 < ev) :
    Calls Try.prog 13 #[.pointer (some ⟨L, 0, none⟩), .int .i64 ev, .int .u64 now] w (HPost 39 w L (hS st ev) dl (hG st ev dl gd now) (hA st ev) (withErr (hE st ev))) := by
  obtain ⟨e1, e2⟩ := nxt_o (st := st) he
  have E1 : Hid (hE st ev = 1) := by show _ = _; unfold hE; rw [if_pos he]
  have E2 : Hid (hA st ev = []) := by show _ = _; unfold hA; rw [if_pos e1]
  have E3 : Hid (hS st ev = st) := by show _ = _; unfold hS; rw [if_pos e1]
  have E4 : Hid (hG st ev dl gd now = gd) := by show _ = _; unfold hG; rw [if_neg (by omega)]
  have H := Lib.hid h
  clear h e1 e2
  rcases he with he | he
  · go_enter Try.func13, Try.ntmps13
    go_wp2
    go_ret2
    rw [E1.out, E2.out, E3.out, E4.out]
    exact rh_no H.out
  · go_enter Try.func13, Try.ntmps13
    go_wp2
    go_ret2
    rw [E1.out, E2.out, E3.out, E4.out]
    exact rh_no H.out
set_option maxRecDepth 100000 in
set_option maxHeartbeats 8000000 in
theorem rhd_c (w : World) (L st : Nat) (dl gd now : Int) (h : SlB 39 w L st dl gd) (hs : st = 1 ∨ st = 3 ∨ st = 4 ∨ st = 5) :
    Calls Try.prog 13 #[.pointer (some ⟨L, 0, none⟩), .int .i64 3, .int .u64 now] w (HPost 39 w L (hS st 3) dl (hG st 3 dl gd now) (hA st 3) (withErr (hE st 3))) := by
  have c0 := h.c0
  have z0 := h.fz 0
  have hL := blk_lt h
  have H := Lib.hid h
  clear h
  rcases hs with rfl | rfl | rfl | rfl
  all_goals
    go_enter Try.func13, Try.ntmps13
    go_wp2
    go_ret2
    first | exact rh_no H.out | exact rh_set H.out rfl | exact rh_lit1 H.out rfl | exact rh_lit2 H.out rfl
theorem wrap_over (a b : Int) (h0 : 0 ≤ a) (h1 : a < 18446744073709551616) (h2 : b < 18446744073709551616) (h : 18446744073709551616 ≤ a + b) : IntKind.u64.wrap (a + b) = a + b - 18446744073709551616 := by
  rw [IntKind.wrap_u64]; omega
set_option maxRecDepth 100000 in
set_option maxHeartbeats 8000000 in
theorem rhd_p (w : World) (L st : Nat) (dl gd now : Int) (h : SlB 39 w L st dl gd) (hs : st = 2 ∨ st = 6) (hd : U64 dl) (hn : U64 now) :
    Calls Try.prog 13 #[.pointer (some ⟨L, 0, none⟩), .int .i64 3, .int .u64 now] w (HPost 39 w L (hS st 3) dl (hG st 3 dl gd now) (hA st 3) (withErr (hE st 3))) := by
  have EQ : Hid (hS st 3 = 3 ∧ hG st 3 dl gd now = goodAt now dl ∧ hA st 3 = [1] ∧ hE st 3 = 0) := by
    rcases hs with rfl | rfl <;> exact ⟨rfl, rfl, rfl, rfl⟩
  obtain ⟨d0, d1⟩ := hd
  obtain ⟨n0, n1⟩ := hn
  have c0 := h.c0
  have c1 := h.c1
  have c2 := h.c2
  have z0 := h.fz 0
  have z2 := h.fz 2
  have hL := blk_lt h
  have H := Lib.hid h
  clear h
  have E5 : Hid (goodAt now dl = now + min dl (18446744073709551615 - now)) := rfl
  by_cases hov : now + dl ≤ 18446744073709551615
  · have E6 : Hid (goodAt now dl = now + dl) := by show _ = _; rw [E5.out]; omega
    rcases hs with rfl | rfl
    all_goals
      go_enter Try.func13, Try.ntmps13
      go_wp2
      go_ret2
      rw [EQ.out.1, EQ.out.2.1, EQ.out.2.2.1, EQ.out.2.2.2, E6.out]
      exact lit_1 (R := withErr 0) ((H.out.set0 3).set2 _) (g_then (g_store _ _ _ _) (g_store _ _ _ _)) (by simp)
  · have E6 : Hid (goodAt now dl = 18446744073709551615) := by show _ = _; rw [E5.out]; omega
    have WO := wrap_over now dl n0 n1 d1 (by omega)
    have hlt : now + dl - 18446744073709551616 < now := by omega
    have WO := Lib.hid WO
    generalize hg : now + dl - 18446744073709551616 = g at *
    clear hg
    have WO := WO.out
    rcases hs with rfl | rfl
    all_goals
      go_enter Try.func13, Try.ntmps13
      go_wp2
      go_ret2
      rw [EQ.out.1, EQ.out.2.1, EQ.out.2.2.1, EQ.out.2.2.2, E6.out]
      exact lit_1 (R := withErr 0) (((H.out.set0 3).set2 _).set2 _) (g_then (g_then (g_store _ _ _ _) (g_store _ _ _ _)) (g_store _ _ _ _)) (by simp)
theorem rhd_any (w : World) (L st : Nat) (dl gd ev now : Int) (h : SlB 39 w L st dl gd) (hs : okSt st) (hd : U64 dl) (hn : U64 now) :
    Calls Try.prog 13 #[.pointer (some ⟨L, 0, none⟩), .int .i64 ev, .int .u64 now] w (HPost 39 w L (hS st ev) dl (hG st ev dl gd now) (hA st ev) (withErr (hE st ev))) := by
  by_cases he : ev < 1 ∨ 6 < ev
  · exact rhd_o w L st dl gd ev now h he
  by_cases h3 : ev = 3
  · subst h3
    by_cases h26 : st = 2 ∨ st = 6
    · exact rhd_p w L st dl gd now h h26 hd hn
    · exact rhd_c w L st dl gd now h (by unfold okSt at hs; omega)
  by_cases h5 : ev = 5 ∨ ev = 6
  · exact rhd_b w L st dl gd ev now h hs h5
  · exact rhd_a w L st dl gd ev now h hs (by omega)
/-- Advance: the actions and the state. -/
def aA (st : Nat) (gd now : Int) : List Int := if st = 3 ∧ gd ≤ now then [3] else []
def aS (st : Nat) (gd now : Int) : Nat := if st = 3 ∧ gd ≤ now then 4 else st
theorem adv_no {w : World} {t : TypeId} {L st : Nat} {dl gd now : Int} (h : SlB t w L st dl gd) (hc : ¬ (st = 3 ∧ gd ≤ now)) : HPost t w L (aS st gd now) dl gd (aA st gd now) id (.returned (.slice none 0 0)) w := by
  unfold aS aA
  rw [if_neg hc, if_neg hc]
  exact ⟨none, 0, rfl, il_nil _ _ _ _, h, World.grownBy.refl _ _⟩
theorem adv_yes {w : World} {t : TypeId} {L st : Nat} {dl gd now : Int} (h : SlB t w L st dl gd) (hc : st = 3 ∧ gd ≤ now) : HPost t w L (aS st gd now) dl gd (aA st gd now) id (.returned (.slice (some ⟨w.heap.size, 0, none⟩) 1 1)) ((w.setCell ⟨L, 0, none⟩ (.int .i64 4)).alloc (.cells #[.int .i64 3] 3)) := by
  unfold aS aA
  rw [if_pos hc, if_pos hc]
  exact lit_1 (R := id) (h.set0 4) (g_store _ _ _ _) (by simp)
theorem adv_a (w : World) (L st : Nat) (dl gd now : Int) (h : SlB 43 w L st dl gd) : Calls Try.prog 10 #[.pointer (some ⟨L, 0, none⟩), .int .u64 now] w (HPost 43 w L (aS st gd now) dl gd (aA st gd now) id) := by
  have c0 := h.c0
  have c2 := h.c2
  have z0 := h.fz 0
  have hL := blk_lt h
  have H := Lib.hid h
  clear h
  by_cases h3 : st = 3
  · subst h3
    by_cases hg : gd ≤ now
    · have HC := Lib.hid (adv_yes H.out ⟨rfl, hg⟩)
      go_enter Try.func10, Try.ntmps10
      go_wp2
      go_ret
      exact HC.out
    · have HC := Lib.hid (adv_no H.out (fun x => hg x.2))
      go_enter Try.func10, Try.ntmps10
      go_wp2
      go_ret
      exact HC.out
  · have HC := Lib.hid (adv_no (now := now) H.out (fun x => h3 x.1))
    have h3' : ((st : Int) != 3) = true := by simp; omega
    clear h3
    go_enter Try.func10, Try.ntmps10
    go_wp2
    go_ret
    exact HC.out
theorem adv_b (w : World) (L st : Nat) (dl gd now : Int) (h : SlB 39 w L st dl gd) : Calls Try.prog 11 #[.pointer (some ⟨L, 0, none⟩), .int .u64 now] w (HPost 39 w L (aS st gd now) dl gd (aA st gd now) id) := by
  have c0 := h.c0
  have c2 := h.c2
  have z0 := h.fz 0
  have hL := blk_lt h
  have H := Lib.hid h
  clear h
  by_cases h3 : st = 3
  · subst h3
    by_cases hg : gd ≤ now
    · have HC := Lib.hid (adv_yes H.out ⟨rfl, hg⟩)
      go_enter Try.func11, Try.ntmps11
      go_wp2
      go_ret
      exact HC.out
    · have HC := Lib.hid (adv_no H.out (fun x => hg x.2))
      go_enter Try.func11, Try.ntmps11
      go_wp2
      go_ret
      exact HC.out
  · have HC := Lib.hid (adv_no (now := now) H.out (fun x => h3 x.1))
    have h3' : ((st : Int) != 3) = true := by simp; omega
    clear h3
    go_enter Try.func11, Try.ntmps11
    go_wp2
    go_ret
    exact HC.out
theorem sta_any (w : World) (L st : Nat) (dl gd : Int) (h : SlB 43 w L st dl gd) : Calls Try.prog 14 #[.pointer (some ⟨L, 0, none⟩)] w fun e w' => e = .returned (.int .i64 (st : Int)) ∧ w = w' := by
  have c0 := h.c0
  clear h
  go_enter Try.func14, Try.ntmps14
  go_wp2
  go_ret
  exact ⟨rfl, rfl⟩
def newSt (p : Bool) : Nat := if p then 2 else 1
theorem new_a (w : World) (p : Bool) (dl : Int) (hd : dl ≤ 4294967296) : Calls Try.prog 5 #[.bool p, .int .u64 dl] w fun e w' => e = .returned (.tuple #[.pointer (some ⟨w.heap.size, 0, none⟩), .int .i64 0]) ∧ SlB 43 w' w.heap.size (newSt p) dl 0 ∧ Below w.heap.size w w' := by
  have A : ∀ x : Nat, SlB 43 (w.alloc (.cells #[.int .i64 (x : Int), .int .u64 dl, .int .u64 0] 43)) w.heap.size x dl 0 := fun x => heap_alloc_new w _
  have A := Lib.hid A
  cases p
  · go_enter Try.func5, Try.ntmps5
    go_wp2
    go_ret2
    exact ⟨rfl, A.out 1, bal (Below.refl _ _) _⟩
  · go_enter Try.func5, Try.ntmps5
    go_wp2
    go_ret2
    exact ⟨rfl, A.out 2, bal (Below.refl _ _) _⟩
theorem new_bad (w : World) (p : Bool) (dl : Int) (hd : 4294967296 < dl) : Calls Try.prog 5 #[.bool p, .int .u64 dl] w fun e w' => e = .returned (.tuple #[.pointer none, .int .i64 1]) ∧ w = w' := by
  go_enter Try.func5, Try.ntmps5
  go_wp2
  go_ret2
  exact ⟨rfl, rfl⟩
theorem new_b (w : World) (p : Bool) (dl : Int) : Calls Try.prog 6 #[.bool p, .int .u64 dl] w fun e w' => e = .returned (.pointer (some ⟨w.heap.size, 0, none⟩)) ∧ SlB 39 w' w.heap.size (newSt p) dl 0 ∧ Below w.heap.size w w' := by
  have A : ∀ x : Nat, SlB 39 (w.alloc (.cells #[.int .i64 (x : Int), .int .u64 dl, .int .u64 0] 39)) w.heap.size x dl 0 := fun x => heap_alloc_new w _
  have A := Lib.hid A
  cases p
  · go_enter Try.func6, Try.ntmps6
    go_wp2
    go_ret
    exact ⟨rfl, A.out 1, bal (Below.refl _ _) _⟩
  · go_enter Try.func6, Try.ntmps6
    go_wp2
    go_ret
    exact ⟨rfl, A.out 2, bal (Below.refl _ _) _⟩
end Go.Proofs.Ytefciddekhmifaa
