/- The reference's set of latency requests: what each call does to its block. -/
import Derived.Test.YtfbgkdjjfjlhhaaTig
import Derived.RegionTactic
import Derived.ChangeAlike
namespace Go.Proofs.Ytfbgkdjjfjlhhaa
open Go.RowKit

theorem limTo_congr {U U' : Nat → Bool} {V V' : Nat → Int} (k : Nat) (h : ∀ j, j < k → U j = U' j ∧ (U j = true → V j = V' j)) : limTo U V k = limTo U' V' k := by
  induction k with
  | zero => rfl
  | succ k ih =>
    have h1 := ih (fun j hj => h j (by omega))
    obtain ⟨a, b⟩ := h k (by omega)
    simp only [limTo, h1, ← a]
    by_cases hu : U k = true
    · rw [b hu]
    · simp [hu]

def rcell (U : Nat → Bool) (V : Nat → Int) (j : Nat) : Value := if j < 32 then .bool (U j) else .int .u64 (V (j - 32))
def rrow (U : Nat → Bool) (V : Nat → Int) : Array Value := (Array.range 64).map (rcell U V)
theorem rrow_size (U : Nat → Bool) (V : Nat → Int) : (rrow U V).size = 64 := by simp [rrow]
theorem rrow_get (U : Nat → Bool) (V : Nat → Int) (j : Nat) (hj : j < 64) : (rrow U V)[j]? = some (rcell U V j) := by
  unfold rrow
  rw [Array.getElem?_map, Array.getElem?_range, if_pos hj]; rfl
theorem rrow_of_eq (w : World) (c : Array Value) (t : TypeId) (U : Nat → Bool) (V : Nat → Int) (h : c = rrow U V) : (w.alloc (.cells c t)).rowIs w.heap.size t 64 (rcell U V) := by
  subst h
  have := World.rowIs_alloc w (rrow U V) t (rcell U V) (fun i hi => rrow_get U V i (by rw [rrow_size] at hi; exact hi))
  rwa [rrow_size] at this
theorem rnew_any (w : World) : Calls Try.prog 23 #[] w fun e w' => e = .returned (.pointer (some ⟨w.heap.size, 0, none⟩)) ∧ w'.rowIs w.heap.size 70 64 (rcell U0 V0) ∧ Below w.heap.size w w' := by
  go_enter Try.func23, Try.ntmps23
  go_wp2
  go_ret
  exact ⟨rfl, rrow_of_eq _ _ _ _ _ (by kernel_rfl), (Below.refl _ _).alloc (Nat.le_refl _) _⟩
theorem rlim_u {w : World} {b t k : Nat} {U : Nat → Bool} {V : Nat → Int} (u : Bool) (h : w.rowIs b t 64 (rcell U V)) (hk : k < 32) :
    (w.setCell ⟨b, k, none⟩ (.bool u)).rowIs b t 64 (rcell (updF U k u) V) := by
  refine (h.set k (.bool u)).congr (fun j hj => ?_)
  unfold rcell updF
  by_cases e : j = k
  · subst e; simp [hk]
  · by_cases h2 : j < 32 <;> simp [e, h2]
theorem rlim_v {w : World} {b t k : Nat} {U : Nat → Bool} {V : Nat → Int} (v : Int) (h : w.rowIs b t 64 (rcell U V)) (hk : k < 32) :
    (w.setCell ⟨b, 32 + k, none⟩ (.int .u64 v)).rowIs b t 64 (rcell U (updF V k v)) := by
  refine (h.set (32 + k) (.int .u64 v)).congr (fun j hj => ?_)
  unfold rcell updF
  by_cases h2 : j < 32
  · rw [if_neg (by omega), if_pos h2, if_pos h2]
  · rw [if_neg h2, if_neg h2]
    by_cases e : j = 32 + k
    · rw [if_pos e, if_pos (by omega)]
    · rw [if_neg e, if_neg (by omega)]
theorem only_drew2 {a w : World} {row : Option Nat} (h : a.grownBy w row) : a.grownBy w.drew row := ⟨h.os, h.tape, h.output, h.size, h.block⟩
def RSetPost (w : World) (b : Nat) (U : Nat → Bool) (V : Nat → Int) (c v : Int) (e : Ending) (w' : World) : Prop :=
  e = .returned (.int .i64 (if inR c then 0 else 1)) ∧ w'.rowIs b 70 64 (rcell (if inR c then updF U c.toNat true else U) (if inR c then updF V c.toNat v else V)) ∧ w.grownBy w' (some b)
set_option maxHeartbeats 1000000 in
theorem rset_in (b : Nat) (U : Nat → Bool) (V : Nat → Int) (k : Nat) (v : Int) (w : World) (h : w.rowIs b 70 64 (rcell U V)) (hk : k < 32) :
    Calls Try.prog 27 #[.pointer (some ⟨b, 0, none⟩), .int .i64 (k : Int), .int .u64 v] w (RSetPost w b U V k v) := by
  have HC : Hid (inR (k : Int) = true) := by show _ = _; simp [inR]; omega
  have c0 := h.cell (show k < 64 by omega)
  have c1 := h.cell (show 32 + k < 64 by omega)
  have f0 := h.frozen k
  have f1 := h.frozen (32 + k)
  have R := Lib.hid ((rlim_v v (rlim_u true h hk) hk).drew)
  have hk' : (k : Int) < 32 := by omega
  go_enter Try.func27, Try.ntmps27
  go_wp2_with fail
  go_region
  all_goals
    go_wp2
    go_ret
  exact ⟨by rw [HC.out]; rfl, by rw [HC.out]; exact R.out, only_drew2 (only_set (only_set (World.grownBy.refl _ _) ⟨b, k, none⟩ rfl _) ⟨b, 32 + k, none⟩ rfl _)⟩
theorem rset_out (b : Nat) (U : Nat → Bool) (V : Nat → Int) (c v : Int) (w : World) (h : w.rowIs b 70 64 (rcell U V)) (hc : inR c = false) :
    Calls Try.prog 27 #[.pointer (some ⟨b, 0, none⟩), .int .i64 c, .int .u64 v] w (RSetPost w b U V c v) := by
  have HC := Lib.hid hc
  by_cases h0 : c < 0
  · clear hc
    go_enter Try.func27, Try.ntmps27
    go_wp2
    go_ret
    exact ⟨by rw [HC.out]; rfl, by rw [HC.out]; exact h, World.grownBy.refl _ _⟩
  · have h1 : ¬ c < 32 := by simp [inR] at hc; omega
    clear hc
    go_enter Try.func27, Try.ntmps27
    go_wp2
    go_ret
    exact ⟨by rw [HC.out]; rfl, by rw [HC.out]; exact h, World.grownBy.refl _ _⟩
theorem rset_any (b : Nat) (U : Nat → Bool) (V : Nat → Int) (c v : Int) (w : World) (h : w.rowIs b 70 64 (rcell U V)) :
    Calls Try.prog 27 #[.pointer (some ⟨b, 0, none⟩), .int .i64 c, .int .u64 v] w (RSetPost w b U V c v) := by
  cases hc : inR c
  · exact rset_out b U V c v w h hc
  · simp [inR] at hc
    obtain ⟨k, rfl⟩ : ∃ k : Nat, c = k := ⟨c.toNat, by omega⟩
    exact rset_in b U V k v w h (by omega)
def RRemPost (w : World) (b : Nat) (U : Nat → Bool) (V : Nat → Int) (c : Int) (e : Ending) (w' : World) : Prop :=
  e = .returned (.int .i64 (if inR c then (if U c.toNat then 0 else 6) else 1)) ∧ w'.rowIs b 70 64 (rcell (if remB U c then updF U c.toNat false else U) V) ∧ w.grownBy w' (some b)
theorem rrem_out (b : Nat) (U : Nat → Bool) (V : Nat → Int) (c : Int) (w : World) (h : w.rowIs b 70 64 (rcell U V)) (hc : inR c = false) :
    Calls Try.prog 25 #[.pointer (some ⟨b, 0, none⟩), .int .i64 c] w (RRemPost w b U V c) := by
  have HC := Lib.hid hc
  by_cases h0 : c < 0
  · clear hc
    go_enter Try.func25, Try.ntmps25
    go_wp2
    go_ret
    exact ⟨by rw [HC.out]; rfl, by rw [remB, HC.out]; exact h, World.grownBy.refl _ _⟩
  · have h1 : ¬ c < 32 := by simp [inR] at hc; omega
    clear hc
    go_enter Try.func25, Try.ntmps25
    go_wp2
    go_ret
    exact ⟨by rw [HC.out]; rfl, by rw [remB, HC.out]; exact h, World.grownBy.refl _ _⟩
set_option maxHeartbeats 1000000 in
theorem rrem_in (b : Nat) (U : Nat → Bool) (V : Nat → Int) (k : Nat) (w : World) (h : w.rowIs b 70 64 (rcell U V)) (hk : k < 32) :
    Calls Try.prog 25 #[.pointer (some ⟨b, 0, none⟩), .int .i64 (k : Int)] w (RRemPost w b U V k) := by
  have HC : Hid (inR (k : Int) = true) := by show _ = _; simp [inR]; omega
  have c0 := h.cell (show k < 64 by omega)
  have f0 := h.frozen k
  have R := Lib.hid (rlim_u false h hk)
  have hk' : (k : Int) < 32 := by omega
  have e0 : rcell U V k = .bool (U k) := by simp [rcell, hk]
  rw [e0] at c0
  clear e0
  cases hu : U k
  · rw [hu] at c0
    have HU := Lib.hid hu; clear hu
    go_enter Try.func25, Try.ntmps25
    go_wp2
    go_ret
    have hb : remB U (k : Int) = false := by rw [remB, HC.out, Int.toNat_natCast, HU.out]; rfl
    exact ⟨by rw [HC.out, Int.toNat_natCast, HU.out]; rfl, by rw [hb]; exact h, World.grownBy.refl _ _⟩
  · rw [hu] at c0
    have HU := Lib.hid hu; clear hu
    go_enter Try.func25, Try.ntmps25
    go_wp2
    go_ret
    have hb : remB U (k : Int) = true := by rw [remB, HC.out, Int.toNat_natCast, HU.out]; rfl
    exact ⟨by rw [HC.out, Int.toNat_natCast, HU.out]; rfl, by rw [hb]; exact R.out, only_set (World.grownBy.refl _ _) ⟨b, k, none⟩ rfl _⟩
theorem rrem_any (b : Nat) (U : Nat → Bool) (V : Nat → Int) (c : Int) (w : World) (h : w.rowIs b 70 64 (rcell U V)) :
    Calls Try.prog 25 #[.pointer (some ⟨b, 0, none⟩), .int .i64 c] w (RRemPost w b U V c) := by
  cases hc : inR c
  · exact rrem_out b U V c w h hc
  · simp [inR] at hc
    obtain ⟨k, rfl⟩ : ∃ k : Nat, c = k := ⟨c.toNat, by omega⟩
    exact rrem_in b U V k w h (by omega)
set_option maxRecDepth 100000 in
set_option maxHeartbeats 1000000 in
theorem rlim_any (b : Nat) (U : Nat → Bool) (V : Nat → Int) (w : World) (h : w.rowIs b 70 64 (rcell U V)) :
    Calls Try.prog 29 #[.pointer (some ⟨b, 0, none⟩)] w fun e w' => e = .returned (.int .u64 (limV U V)) ∧ w = w' := by
  have HR := Lib.hid (fun i hi => h.cell (i := i) hi)
  go_enter Try.func29, Try.ntmps29
  go_wp2_with fail
  go_loop [3, 4, 5] (fun s f i => ∃ k : Nat, k ≤ 32 ∧ i = .int .i64 k ∧ s = .int .u64 (limTo U V k).1 ∧ f = .bool (limTo U V k).2) (fun _ _ i => 32 - (intOf i).toNat)
  case atStart => exact ⟨0, by omega, rfl, rfl, rfl⟩
  case round =>
    obtain ⟨k, hk, rfl, rfl, rfl⟩ := hrel
    by_cases hlt : k < 32
    · have c0 := HR.out k (by omega)
      have c1 := HR.out (32 + k) (by omega)
      rw [show rcell U V k = .bool (U k) from by simp [rcell, hlt]] at c0
      rw [show rcell U V (32 + k) = .int .u64 (V k) from by simp [rcell]] at c1
      have E : Hid (limTo U V (k + 1) = if U k = true ∧ ((limTo U V k).2 = false ∨ V k < (limTo U V k).1) then (V k, true) else limTo U V k) := rfl
      generalize limTo U V k = L at *
      obtain ⟨s, fd⟩ := L
      simp only at *
      have hlt' : (k : Int) < 32 := by omega
      generalize V k = v at *
      cases hu : U k
      · rw [hu] at c0
        have HU := Lib.hid hu; clear hu
        go_wp2
        go_round
        case rel => exact ⟨k + 1, by omega, by go_num, by rw [E.out, HU.out]; rfl, by rw [E.out, HU.out]; rfl⟩
        case measure => simp [intOf]; omega
      · rw [hu] at c0
        have HU := Lib.hid hu; clear hu
        cases fd
        · go_wp2
          go_round
          case rel => exact ⟨k + 1, by omega, by go_num, by rw [E.out, HU.out]; rfl, by rw [E.out, HU.out]; rfl⟩
          case measure => simp [intOf]; omega
        · by_cases hv : v < s
          · have E2 : Hid (limTo U V (k + 1) = (v, true)) := by show _ = _; rw [E.out, HU.out]; simp [hv]
            clear E
            go_wp2
            go_round
            case rel => exact ⟨k + 1, by omega, by go_num, by rw [E2.out], by rw [E2.out]⟩
            case measure => simp [intOf]; omega
          · have E2 : Hid (limTo U V (k + 1) = (s, true)) := by show _ = _; rw [E.out, HU.out]; simp [hv]
            clear E
            go_wp2
            go_round
            case rel => exact ⟨k + 1, by omega, by go_num, by rw [E2.out], by rw [E2.out]⟩
            case measure => simp [intOf]; omega
    · have : k = 32 := by omega
      subst this
      go_wp2
      go_ret
      exact ⟨rfl, rfl⟩
end Go.Proofs.Ytfbgkdjjfjlhhaa
