/- The reader's word. -/
import Derived.Test.YtpfaicdoaldioaaPz
import Derived.Deep.LoopGhost
namespace Go.Proofs.Ytpfaicdoaldioaa
open Go.ChangeShapes Go.WideShapes Go.ChangeAt Go.RowKit Go.Deep Go.Joins

structure Rst where
  w : Int
  r : ByteArray
  d : Nat → Int
def rsz (tag : Nat) : Nat := if tag = 1 then 1 else if tag = 2 then 3 else 4
def rdW (r : ByteArray) (D : Nat → Int) (tag : Nat) : Int := if tag = 1 then D (bt r 0).toNat else if tag = 2 then D (bt r 0).toNat / 65536 * 65536 + bt r 1 + bt r 2 * 256 else numAt r 0 4
def rdw (r : ByteArray) (D : Nat → Int) (tag : Nat) : Option Rst :=
  if tag = 0 then some ⟨0, r, D⟩ else if r.size < rsz tag then none else if tag ≠ 3 ∧ 16 ≤ bt r 0 then none
  else some ⟨rdW r D tag, r.extract (rsz tag) r.size, fun j => if j = slotN (rdW r D tag) then rdW r D tag else D j⟩
def D32 (D : Nat → Int) : Prop := ∀ j, 0 ≤ D j ∧ D j < 4294967296
theorem rdW_bd (r : ByteArray) (D : Nat → Int) (tag : Nat) (h : D32 D) : 0 ≤ rdW r D tag ∧ rdW r D tag < 4294967296 := by
  unfold rdW
  split
  · exact h _
  split
  · have := h (bt r 0).toNat; have := bt_bd r 1; have := bt_bd r 2; omega
  · have := numAt_bd r 0 4; omega
theorem rdw_bd {r : ByteArray} {D : Nat → Int} {tag : Nat} {t : Rst} (h : rdw r D tag = some t) (hd : D32 D) : (0 ≤ t.w ∧ t.w < 4294967296) ∧ D32 t.d := by
  unfold rdw at h
  split at h
  · injection h with h; subst h; exact ⟨⟨by show (0 : Int) ≤ 0; omega, by show (0 : Int) < _; omega⟩, hd⟩
  split at h
  · cases h
  split at h
  · cases h
  · injection h with h
    subst h
    refine ⟨rdW_bd r D tag hd, fun j => ?_⟩
    show 0 ≤ (if j = slotN (rdW r D tag) then rdW r D tag else D j) ∧ (if j = slotN (rdW r D tag) then rdW r D tag else D j) < 4294967296
    split
    · exact rdW_bd r D tag hd
    · exact hd j
/-- The reader on the heap. -/
structure RdR (w : World) (R : Nat) (r : ByteArray) (D : Nat → Int) : Prop where
  obj : ∃ cur t, w.heap[R]? = some (.cells cur t (0, 0)) ∧ t ≠ 5 ∧ cur.size = 17 ∧ cur[0]? = some (.string r) ∧ ∀ j, j < 16 → cur[1 + j]? = some (.int .u32 (D j))
theorem RdR.lt {w : World} {R : Nat} {r : ByteArray} {D : Nat → Int} (h : RdR w R r D) : R < w.heap.size := by
  obtain ⟨_, _, hh, _⟩ := h.obj
  exact blk_lt hh
theorem RdR.rest {w : World} {R : Nat} {r : ByteArray} {D : Nat → Int} (h : RdR w R r D) : w.cell? ⟨R, 0, none⟩ = some (.string r) := by
  obtain ⟨cur, t, hh, _, _, h0, hc⟩ := h.obj
  rw [cell_of_row w R 0 cur t (0, 0) hh]
  exact h0
theorem RdR.cell {w : World} {R : Nat} {r : ByteArray} {D : Nat → Int} (h : RdR w R r D) (j : Nat) (hj : j < 16) : w.cell? ⟨R, 1 + j, none⟩ = some (.int .u32 (D j)) := by
  obtain ⟨cur, t, hh, _, _, _, hc⟩ := h.obj
  rw [cell_of_row w R (1 + j) cur t (0, 0) hh]
  exact hc j hj
theorem RdR.frozen {w : World} {R : Nat} {r : ByteArray} {D : Nat → Int} (h : RdR w R r D) (j : Nat) : w.frozen? ⟨R, j, none⟩ = false := by
  obtain ⟨cur, t, hh, _⟩ := h.obj
  exact frozen_of_row w R j cur t hh
theorem RdR.chg {S : Nat → Prop} {w w' : World} {R : Nat} {r : ByteArray} {D : Nat → Int} (h : RdR w R r D) (hc : Chg S w w') (hn : ¬ S R) : RdR w' R r D := by
  obtain ⟨cur, t, hh, r⟩ := h.obj
  exact ⟨cur, t, hc.blk hh hn, r⟩
theorem RdR.setr {w : World} {R : Nat} {r : ByteArray} {D : Nat → Int} (h : RdR w R r D) (x : ByteArray) : RdR (w.setCell ⟨R, 0, none⟩ (.string x)) R x D := by
  obtain ⟨cur, t, hh, ht, hs, h0, hc⟩ := h.obj
  refine ⟨cur.setIfInBounds 0 (.string x), t, heap_setCell_same w R 0 cur t _ hh, ht, by simpa using hs, by rw [Array.getElem?_setIfInBounds_self_of_lt (by omega)], fun j hj => ?_⟩
  rw [Array.getElem?_setIfInBounds_ne (by omega)]
  exact hc j hj
theorem RdR.setd {w : World} {R : Nat} {r : ByteArray} {D : Nat → Int} (h : RdR w R r D) (k : Nat) (x : Int) : RdR (w.setCell ⟨R, 1 + k, none⟩ (.int .u32 x)) R r (fun j => if j = k then x else D j) := by
  obtain ⟨cur, t, hh, ht, hs, h0, hc⟩ := h.obj
  refine ⟨cur.setIfInBounds (1 + k) (.int .u32 x), t, heap_setCell_same w R (1 + k) cur t _ hh, ht, by simpa using hs, by rw [Array.getElem?_setIfInBounds_ne (by omega)]; exact h0, fun j hj => ?_⟩
  by_cases e : j = k
  · subst e
    rw [if_pos rfl, Array.getElem?_setIfInBounds_self_of_lt (by omega)]
  · rw [if_neg e, Array.getElem?_setIfInBounds_ne (by omega)]
    exact hc j hj
theorem RdR.drew {w : World} {R : Nat} {r : ByteArray} {D : Nat → Int} (h : RdR w R r D) : RdR w.drew R r D := ⟨h.obj⟩
theorem RdR.drewN {w : World} {R : Nat} {r : ByteArray} {D : Nat → Int} (h : RdR w R r D) (n : Nat) : RdR (w.drewN n) R r D := ⟨h.obj⟩
def wV (x : Int) (b : Bool) : Value := .tuple #[.int .u32 x, .bool b]
def RwP (w : World) (R : Nat) (o : Option Rst) (e : Ending) (w' : World) : Prop :=
  Chg (fun k => k = R) w w' ∧ match o with
    | none => e = .returned (wV 0 false)
    | some t => e = .returned (wV t.w true) ∧ RdR w' R t.r t.d
theorem RwP.none' {w w' : World} {R : Nat} {o : Option Rst} (ho : o = none) (hc : Chg (fun k => k = R) w w') : RwP w R o (.returned (wV 0 false)) w' := by
  subst ho; exact ⟨hc, rfl⟩
theorem RwP.some' {w w' : World} {R : Nat} {o : Option Rst} {t : Rst} {x : Int} (ho : o = some t) (hx : x = t.w) (hc : Chg (fun k => k = R) w w') (hr : RdR w' R t.r t.d) : RwP w R o (.returned (wV x true)) w' := by
  subst ho; subst hx; exact ⟨hc, rfl, hr⟩
set_option maxHeartbeats 2000000 in
theorem rw_0 (r : ByteArray) (D : Nat → Int) (R : Nat) (w : World) (h : RdR w R r D) : Calls Try.prog 21 #[.pointer (some ⟨R, 0, none⟩), .int .u8 0] w (RwP w R (rdw r D 0)) := by
  have F : Hid (rdw r D 0 = some ⟨0, r, D⟩) := by show _ = _; unfold rdw; rw [if_pos rfl]
  have H := Lib.hid h
  clear h
  go_enter Try.func21, Try.ntmps21
  go_wp2
  go_ret2
  exact RwP.some' F.out rfl (Chg.refl _ _) H.out
set_option maxHeartbeats 2000000 in
theorem rw_none (r : ByteArray) (D : Nat → Int) (R tag : Nat) (w : World) (h : RdR w R r D) (ht : tag = 1 ∨ tag = 2 ∨ tag = 3) (hb : r.size < rsz tag ∨ (tag ≠ 3 ∧ 16 ≤ bt r 0)) : Calls Try.prog 21 #[.pointer (some ⟨R, 0, none⟩), .int .u8 tag] w (RwP w R (rdw r D tag)) := by
  have F : Hid (rdw r D tag = none) := by
    show _ = _
    unfold rdw
    rw [if_neg (by omega)]
    by_cases c : r.size < rsz tag
    · rw [if_pos c]
    · rw [if_neg c, if_pos (by omega)]
  have hr := h.rest
  have hL := h.lt
  clear h
  by_cases c : r.size < rsz tag
  · clear hb
    rcases ht with rfl | rfl | rfl
    · replace c : r.size < 1 := c
      go_enter Try.func21, Try.ntmps21
      go_wp2
      go_ret2
      exact RwP.none' F.out (Chg.refl _ _)
    · replace c : r.size < 3 := c
      go_enter Try.func21, Try.ntmps21
      go_wp2
      go_ret2
      exact RwP.none' F.out (Chg.refl _ _)
    · replace c : r.size < 4 := c
      go_enter Try.func21, Try.ntmps21
      go_wp2
      go_ret2
      exact RwP.none' F.out (Chg.refl _ _)
  · have hb := hb.resolve_left c
    rcases ht with rfl | rfl | rfl
    · replace c : ¬ r.size < 1 := c
      have hs : 0 < r.size := by omega
      have ha := bt_at r 0 hs
      have hg := hb.2
      clear hb
      generalize bt r 0 = x at *
      go_enter Try.func21, Try.ntmps21
      go_wp2
      go_ret2
      exact RwP.none' F.out (Chg.refl _ _)
    · replace c : ¬ r.size < 3 := c
      have hs : 0 < r.size := by omega
      have ha := bt_at r 0 hs
      have hg := hb.2
      clear hb
      generalize bt r 0 = x at *
      go_enter Try.func21, Try.ntmps21
      go_wp2
      go_ret2
      exact RwP.none' F.out (Chg.refl _ _)
    · exact absurd rfl hb.1
end Go.Proofs.Ytpfaicdoaldioaa
