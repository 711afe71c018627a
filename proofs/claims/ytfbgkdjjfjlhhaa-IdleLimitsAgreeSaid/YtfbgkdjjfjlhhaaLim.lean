/- The set of latency requests: what each call does to its block. -/
import Derived.Test.YtfbgkdjjfjlhhaaAwk
import Derived.Deep.OwnRows
import Derived.Laws.Rows
import Derived.Maps.AppendAt
import Derived.Outline
namespace Go.Proofs.Ytfbgkdjjfjlhhaa
open Go.RowKit

/-- A block of 32 requests: for each whether it is used, and its latency. -/
def lcell (U : Nat → Bool) (V : Nat → Int) (j : Nat) : Value := if j % 2 = 0 then .bool (U (j / 2)) else .int .u64 (V (j / 2))
def lrow (U : Nat → Bool) (V : Nat → Int) : Array Value := (Array.range 64).map (lcell U V)
theorem lrow_size (U : Nat → Bool) (V : Nat → Int) : (lrow U V).size = 64 := by simp [lrow]
theorem lrow_get (U : Nat → Bool) (V : Nat → Int) (j : Nat) (hj : j < 64) : (lrow U V)[j]? = some (lcell U V j) := by
  unfold lrow
  rw [Array.getElem?_map, Array.getElem?_range, if_pos hj]; rfl
theorem idx64 (U : Nat → Bool) (V : Nat → Int) (k : Nat) (hk : k < 32) (W : World) : (Instr.index 64 (.agg (lrow U V)) (.int .i64 (k : Int))).run Try.prog W = .ok (.agg #[.bool (U k), .int .u64 (V k)]) W := by
  have h1 : ¬ ((k : Int) < 0) := by omega
  have h2 : (k : Int) < 32 := by omega
  have e : (lrow U V).extract (k * 2) (k * 2 + 2) = #[.bool (U k), .int .u64 (V k)] := by
    apply Array.ext
    · simp [lrow_size]; omega
    · intro i hi hj
      have h2 : i < 2 := by simpa using hj
      have g : ((lrow U V).extract (k * 2) (k * 2 + 2))[i]? = some (lcell U V (k * 2 + i)) := by
        rw [Array.getElem?_extract, if_pos (by rw [lrow_size]; omega), lrow_get U V _ (by omega)]
      have g2 := (Array.getElem?_eq_getElem hi).symm.trans g
      injection g2 with g2
      rw [g2]
      rcases (show i = 0 ∨ i = 1 by omega) with e | e <;> subst e
      · simp [lcell]
      · unfold lcell
        rw [if_neg (by omega), show (k * 2 + 1) / 2 = k from by omega]; rfl
  simp [Instr.index, run_underlying Try.underlying64, asIntOf, go_sem, hk, e]
theorem row_of_eq (w : World) (c : Array Value) (t : TypeId) (U : Nat → Bool) (V : Nat → Int) (h : c = lrow U V) : (w.alloc (.cells c t)).rowIs w.heap.size t 64 (lcell U V) := by
  subst h
  have := World.rowIs_alloc w (lrow U V) t (lcell U V) (fun i hi => lrow_get U V i (by rw [lrow_size] at hi; exact hi))
  rwa [lrow_size] at this
theorem new_any (w : World) : Calls Try.prog 22 #[] w fun e w' => e = .returned (.pointer (some ⟨w.heap.size, 0, none⟩)) ∧ w'.rowIs w.heap.size 66 64 (lcell (fun _ => false) (fun _ => 0)) ∧ Below w.heap.size w w' := by
  go_enter Try.func22, Try.ntmps22
  go_wp2
  go_ret
  exact ⟨rfl, row_of_eq _ _ _ _ _ (by kernel_rfl), (Below.refl _ _).alloc (Nat.le_refl _) _⟩
def inR (c : Int) : Bool := decide (0 ≤ c) && decide (c < 32)
theorem isc_any (c : Int) (w : World) : Calls Try.prog 36 #[.int .i64 c] w fun e w' => e = .returned (.bool (inR c)) ∧ w = w' := by
  by_cases h0 : 0 ≤ c
  · by_cases h1 : c < 32
    · have E : Hid (inR c = true) := by show _ = _; simp [inR, h0, h1]
      go_enter Try.func36, Try.ntmps36
      go_wp2
      go_ret
      exact ⟨by rw [E.out]; rfl, rfl⟩
    · have E : Hid (inR c = false) := by show _ = _; simp [inR, h1]
      go_enter Try.func36, Try.ntmps36
      go_wp2
      go_ret
      exact ⟨by rw [E.out]; rfl, rfl⟩
  · have E : Hid (inR c = false) := by show _ = _; simp [inR, h0]
    go_enter Try.func36, Try.ntmps36
    go_wp2
    go_ret
    exact ⟨by rw [E.out]; rfl, rfl⟩
def updF {α : Type} (f : Nat → α) (k : Nat) (x : α) (i : Nat) : α := if i = k then x else f i
theorem lim_set {w : World} {b t k : Nat} {U : Nat → Bool} {V : Nat → Int} (u : Bool) (v : Int) (h : w.rowIs b t 64 (lcell U V)) (_hk : k < 32) :
    ((w.setCell ⟨b, k * 2, none⟩ (.bool u)).setCell ⟨b, k * 2 + 1, none⟩ (.int .u64 v)).rowIs b t 64 (lcell (updF U k u) (updF V k v)) := by
  refine ((h.set (k * 2) (.bool u)).set (k * 2 + 1) (.int .u64 v)).congr (fun j hj => ?_)
  by_cases hjk : j / 2 = k
  · rcases (show j = k * 2 ∨ j = k * 2 + 1 by omega) with e | e
    · rw [if_neg (by omega), if_pos e]
      unfold lcell updF
      rw [if_pos (by omega), if_pos (by omega)]
    · rw [if_pos e]
      unfold lcell updF
      rw [if_neg (by omega), if_pos (by omega)]
  · rw [if_neg (by omega), if_neg (by omega)]
    unfold lcell updF
    rw [if_neg hjk, if_neg hjk]
def SetPost (w : World) (b : Nat) (U : Nat → Bool) (V : Nat → Int) (c v : Int) (e : Ending) (w' : World) : Prop :=
  e = .returned (.int .i64 (if inR c then 0 else 1)) ∧ w'.rowIs b 66 64 (lcell (if inR c then updF U c.toNat true else U) (if inR c then updF V c.toNat v else V)) ∧ w.grownBy w' (some b)
theorem set_out (b : Nat) (U : Nat → Bool) (V : Nat → Int) (c v : Int) (w : World) (h : w.rowIs b 66 64 (lcell U V)) (hc : inR c = false) :
    Calls Try.prog 26 #[.pointer (some ⟨b, 0, none⟩), .int .i64 c, .int .u64 v] w (SetPost w b U V c v) := by
  have HC := Lib.hid hc; clear hc
  go_enter Try.func26, Try.ntmps26
  go_wp2_with fail
  refine (isc_any c w).mono ?_
  rintro e w' ⟨rfl, rfl⟩
  rw [HC.out]
  go_wp2
  go_ret
  exact ⟨by rw [HC.out]; rfl, by rw [HC.out]; exact h, World.grownBy.refl _ _⟩
theorem only_set {a w : World} {g : Nat} (h : a.grownBy w (some g)) (p : Addr) (hp : p.block = g) (u : Value) : a.grownBy (w.setCell p u) (some g) :=
  ⟨h.os, h.tape, h.output, by simpa [World.setCell] using h.size, fun i hi hne => (Below.heap_setCell w p u i (by
    rintro rfl
    exact hne (by rw [hp]))).trans (h.block i hi hne)⟩
set_option maxHeartbeats 1000000 in
theorem set_in (b : Nat) (U : Nat → Bool) (V : Nat → Int) (k : Nat) (v : Int) (w : World) (h : w.rowIs b 66 64 (lcell U V)) (hk : k < 32) :
    Calls Try.prog 26 #[.pointer (some ⟨b, 0, none⟩), .int .i64 (k : Int), .int .u64 v] w (SetPost w b U V k v) := by
  have HC : Hid (inR (k : Int) = true) := by show _ = _; simp [inR]; omega
  have c0 := h.cell (show k * 2 < 64 by omega)
  have c1 := h.cell (show k * 2 + 1 < 64 by omega)
  have f0 := h.frozen (k * 2)
  have f1 := h.frozen (k * 2 + 1)
  have R := Lib.hid (lim_set true v h hk)
  have hk' : (k : Int) < 32 := by omega
  go_enter Try.func26, Try.ntmps26
  go_wp2_with fail
  refine (isc_any k w).mono ?_
  rintro e w' ⟨rfl, rfl⟩
  rw [HC.out]
  go_wp2
  go_ret
  exact ⟨by rw [HC.out]; rfl, by rw [HC.out]; exact R.out, only_set (only_set (World.grownBy.refl _ _) ⟨b, k * 2, none⟩ rfl _) ⟨b, k * 2 + 1, none⟩ rfl _⟩
theorem set_any (b : Nat) (U : Nat → Bool) (V : Nat → Int) (c v : Int) (w : World) (h : w.rowIs b 66 64 (lcell U V)) :
    Calls Try.prog 26 #[.pointer (some ⟨b, 0, none⟩), .int .i64 c, .int .u64 v] w (SetPost w b U V c v) := by
  cases hc : inR c
  · exact set_out b U V c v w h hc
  · simp [inR] at hc
    obtain ⟨k, rfl⟩ : ∃ k : Nat, c = k := ⟨c.toNat, by omega⟩
    exact set_in b U V k v w h (by omega)

def remB (U : Nat → Bool) (c : Int) : Bool := inR c && U c.toNat
def RemPost (w : World) (b : Nat) (U : Nat → Bool) (V : Nat → Int) (c : Int) (e : Ending) (w' : World) : Prop :=
  e = .returned (.int .i64 (if inR c then (if U c.toNat then 0 else 6) else 1)) ∧ w'.rowIs b 66 64 (lcell (if remB U c then updF U c.toNat false else U) (if remB U c then updF V c.toNat 0 else V)) ∧ w.grownBy w' (some b)
theorem rem_out (b : Nat) (U : Nat → Bool) (V : Nat → Int) (c : Int) (w : World) (h : w.rowIs b 66 64 (lcell U V)) (hc : inR c = false) :
    Calls Try.prog 24 #[.pointer (some ⟨b, 0, none⟩), .int .i64 c] w (RemPost w b U V c) := by
  have HC := Lib.hid hc; clear hc
  go_enter Try.func24, Try.ntmps24
  go_wp2_with fail
  refine (isc_any c w).mono ?_
  rintro e w' ⟨rfl, rfl⟩
  rw [HC.out]
  go_wp2
  go_ret
  exact ⟨by rw [HC.out]; rfl, by rw [remB, HC.out]; exact h, World.grownBy.refl _ _⟩
set_option maxHeartbeats 1000000 in
theorem rem_in (b : Nat) (U : Nat → Bool) (V : Nat → Int) (k : Nat) (w : World) (h : w.rowIs b 66 64 (lcell U V)) (hk : k < 32) :
    Calls Try.prog 24 #[.pointer (some ⟨b, 0, none⟩), .int .i64 (k : Int)] w (RemPost w b U V k) := by
  have HC : Hid (inR (k : Int) = true) := by show _ = _; simp [inR]; omega
  have c0 := h.cell (show k * 2 < 64 by omega)
  have c1 := h.cell (show k * 2 + 1 < 64 by omega)
  have f0 := h.frozen (k * 2)
  have f1 := h.frozen (k * 2 + 1)
  have R := Lib.hid (lim_set false 0 h hk)
  have hk' : (k : Int) < 32 := by omega
  have e0 : lcell U V (k * 2) = .bool (U k) := by simp [lcell]
  rw [e0] at c0
  clear e0
  cases hu : U k
  · rw [hu] at c0
    have HU := Lib.hid hu; clear hu
    go_enter Try.func24, Try.ntmps24
    go_wp2_with fail
    refine (isc_any k w).mono ?_
    rintro e w' ⟨rfl, rfl⟩
    rw [HC.out]
    go_wp2
    go_ret
    have hb : remB U (k : Int) = false := by rw [remB, HC.out, Int.toNat_natCast, HU.out]; rfl
    exact ⟨by rw [HC.out, Int.toNat_natCast, HU.out]; rfl, by rw [hb]; exact h, World.grownBy.refl _ _⟩
  · rw [hu] at c0
    have HU := Lib.hid hu; clear hu
    go_enter Try.func24, Try.ntmps24
    go_wp2_with fail
    refine (isc_any k w).mono ?_
    rintro e w' ⟨rfl, rfl⟩
    rw [HC.out]
    go_wp2
    go_ret
    have hb : remB U (k : Int) = true := by rw [remB, HC.out, Int.toNat_natCast, HU.out]; rfl
    exact ⟨by rw [HC.out, Int.toNat_natCast, HU.out]; rfl, by rw [hb]; exact R.out, only_set (only_set (World.grownBy.refl _ _) ⟨b, k * 2, none⟩ rfl _) ⟨b, k * 2 + 1, none⟩ rfl _⟩
theorem rem_any (b : Nat) (U : Nat → Bool) (V : Nat → Int) (c : Int) (w : World) (h : w.rowIs b 66 64 (lcell U V)) :
    Calls Try.prog 24 #[.pointer (some ⟨b, 0, none⟩), .int .i64 c] w (RemPost w b U V c) := by
  cases hc : inR c
  · exact rem_out b U V c w h hc
  · simp [inR] at hc
    obtain ⟨k, rfl⟩ : ∃ k : Nat, c = k := ⟨c.toNat, by omega⟩
    exact rem_in b U V k w h (by omega)

/-- The smallest request among the first k, and whether there is one. -/
def limTo (U : Nat → Bool) (V : Nat → Int) : Nat → Int × Bool
  | 0 => (1152921504606846976, false)
  | k + 1 => if U k = true ∧ ((limTo U V k).2 = false ∨ V k < (limTo U V k).1) then (V k, true) else limTo U V k
def limV (U : Nat → Bool) (V : Nat → Int) : Int := (limTo U V 32).1
theorem row_heap {w : World} {b t : Nat} {U : Nat → Bool} {V : Nat → Int} (h : w.rowIs b t 64 (lcell U V)) : w.heap[b]? = some (.cells (lrow U V) t (0, 0)) := by
  obtain ⟨cs, hh, hs, hc⟩ := h
  rw [hh]
  have : cs = lrow U V := by
    apply Array.ext
    · rw [hs, lrow_size]
    · intro i h1 h2
      have a := hc i (by omega)
      have b := lrow_get U V i (by omega)
      rw [Array.getElem?_eq_getElem h1] at a
      rw [Array.getElem?_eq_getElem h2] at b
      injection a with a
      injection b with b
      rw [a, b]
  rw [this]
set_option maxRecDepth 100000 in
set_option maxHeartbeats 1000000 in
theorem lim_any (b : Nat) (U : Nat → Bool) (V : Nat → Int) (w : World) (h : w.rowIs b 66 64 (lcell U V)) :
    Calls Try.prog 28 #[.pointer (some ⟨b, 0, none⟩)] w fun e w' => e = .returned (.int .u64 (limV U V)) ∧ Below w.heap.size w w' := by
  have hg := row_heap h
  have hb := h.lt
  have HX := Lib.hid (fun k hk W => idx64 U V k hk W)
  have LS : Hid ((lrow U V).size = 64) := lrow_size U V
  generalize lrow U V = cs at *
  go_enter Try.func28, Try.ntmps28
  go_wp2_with (refine wpList_load_row rfl 64 _ rfl b rfl 66 cs _ _ hg Try.underlying64 rfl (by rw [LS.out]; kernel_rfl) ?_)
  clear hg
  go_loopw [3, 4, 11] (fun s f i wr => ∃ k : Nat, k ≤ 32 ∧ i = .int .i64 k ∧ s = .int .u64 (limTo U V k).1 ∧ f = .bool (limTo U V k).2 ∧ Below w.heap.size w wr) (fun _ _ i _ => 32 - (intOf i).toNat)
  case atStart => exact ⟨0, by omega, rfl, rfl, rfl, Below.refl _ _⟩
  case round =>
    obtain ⟨k, hk, rfl, rfl, rfl, B⟩ := hrel
    by_cases hlt : k < 32
    · have hX := HX.out k hlt
      have E : Hid (limTo U V (k + 1) = if U k = true ∧ ((limTo U V k).2 = false ∨ V k < (limTo U V k).1) then (V k, true) else limTo U V k) := rfl
      generalize limTo U V k = L at *
      obtain ⟨s, fd⟩ := L
      simp only at *
      have hlt' : (k : Int) < 32 := by omega
      cases hu : U k
      · rw [hu] at hX
        have HU := Lib.hid hu; clear hu
        go_wp2
        go_roundw
        case rel => exact ⟨k + 1, by omega, by go_num, by rw [E.out, HU.out]; rfl, by rw [E.out, HU.out]; rfl, B.alloc B.size _⟩
        case measure => simp [intOf]; omega
      · rw [hu] at hX
        have HU := Lib.hid hu; clear hu
        cases fd
        · generalize V k = v at *
          go_wp2
          go_roundw
          case rel => exact ⟨k + 1, by omega, by go_num, by rw [E.out, HU.out]; rfl, by rw [E.out, HU.out]; rfl, B.alloc B.size _⟩
          case measure => simp [intOf]; omega
        · generalize V k = v at *
          by_cases hv : v < s
          · have E2 : Hid (limTo U V (k + 1) = (v, true)) := by show _ = _; rw [E.out, HU.out]; simp [hv]
            clear E
            go_wp2
            go_roundw
            case rel => exact ⟨k + 1, by omega, by go_num, by rw [E2.out], by rw [E2.out], B.alloc B.size _⟩
            case measure => simp [intOf]; omega
          · have E2 : Hid (limTo U V (k + 1) = (s, true)) := by show _ = _; rw [E.out, HU.out]; simp [hv]
            clear E
            go_wp2
            go_roundw
            case rel => exact ⟨k + 1, by omega, by go_num, by rw [E2.out], by rw [E2.out], B.alloc B.size _⟩
            case measure => simp [intOf]; omega
    · have : k = 32 := by omega
      subst this
      go_wp2
      go_ret
      exact ⟨rfl, B⟩
end Go.Proofs.Ytfbgkdjjfjlhhaa
