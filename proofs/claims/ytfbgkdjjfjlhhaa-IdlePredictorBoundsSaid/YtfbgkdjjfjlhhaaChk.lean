/- idle.Check returns 0 exactly at a valid list of states. -/
import Derived.Test.YtfbgkdjjfjlhhaaRows
import Derived.WalkKit
import Derived.WalkSpells
import Derived.WalkLawsBesides
import Derived.Lib.Hide
import Derived.Deep.QuietTactic
import Derived.BigQuiet
import Derived.WalkSmall
namespace Go.Proofs.Ytfbgkdjjfjlhhaa
open Go.RowKit

/-- One state: latency, residency, power. -/
structure St where
  l : Int
  r : Int
  p : Int

def St.okB (x : St) : Bool := decide (x.l ≤ 1073741824) && decide (x.r ≤ 1073741824) && decide (x.p ≤ 1048576)
def St.ltB (x y : St) : Bool := decide (x.l < y.l) && decide (x.r < y.r) && decide (y.p < x.p)
def okAt (f : Nat → St) (k : Nat) : Bool := (f k).okB && (k == 0 || (f (k - 1)).ltB (f k))
def okTo (f : Nat → St) : Nat → Bool
  | 0 => true
  | k + 1 => okTo f k && okAt f k
def vld (n : Nat) (f : Nat → St) : Bool := decide (1 ≤ n) && decide (n ≤ 10) && decide ((f 0).l = 0) && decide ((f 0).r = 0) && okTo f n

theorem okTo_le (f : Nat → St) {m n : Nat} (h : m ≤ n) (ho : okTo f n = true) : okTo f m = true := by
  induction n with
  | zero => have : m = 0 := by omega
            subst this; exact ho
  | succ n ih =>
    rcases Nat.lt_or_ge m (n + 1) with h1 | h1
    · simp only [okTo, Bool.and_eq_true] at ho; exact ih (by omega) ho.1
    · have : m = n + 1 := by omega
      subst this; exact ho
theorem okTo_not (f : Nat → St) {m n : Nat} (h : m < n) (ho : okAt f m = false) : okTo f n = false := by
  cases he : okTo f n
  · rfl
  · have := okTo_le f (show m + 1 ≤ n by omega) he
    simp [okTo, ho] at this

/-- The cells of a slice of states. -/
def Sts (w : World) (b off n : Nat) (f : Nat → St) : Prop :=
  ∀ i, i < n → w.cell? ⟨b, off + i * 3, none⟩ = some (.int .u64 (f i).l) ∧ w.cell? ⟨b, off + i * 3 + 1, none⟩ = some (.int .u64 (f i).r) ∧ w.cell? ⟨b, off + i * 3 + 2, none⟩ = some (.int .u64 (f i).p)
def U64 (x : Int) : Prop := 0 ≤ x ∧ x < 18446744073709551616

def ChkPost (w : World) (n : Nat) (f : Nat → St) (e : Ending) (w' : World) : Prop :=
  e = .returned (.int .i64 (if vld n f then 0 else 1)) ∧ Below w.heap.size w w'

theorem chk_none (A : Option Addr) (c : Nat) (f : Nat → St) (w : World) :
    Calls Try.prog 18 #[.slice A 0 c] w (ChkPost w 0 f) := by
  go_enter Try.func18, Try.ntmps18
  go_wp2
  go_ret
  exact ⟨rfl, Below.refl _ _⟩
set_option maxRecDepth 100000 in
theorem chk_long (A : Option Addr) (n c : Nat) (f : Nat → St) (w : World) (h : 10 < n) (hn : n ≤ 9223372036854775807) :
    Calls Try.prog 18 #[.slice A n c] w (ChkPost w n f) := by
  have h1 : ¬ ((n : Int) < 1) := by omega
  have h2 : (10 : Int) < n := by omega
  go_enter Try.func18, Try.ntmps18
  go_wp2
  go_ret
  refine ⟨?_, Below.refl _ _⟩
  have : vld n f = false := by simp [vld]; omega
  rw [this]; rfl

theorem vld_bad {n k : Nat} {f : Nat → St} (hk : k < n) (h : okAt f k = false) : vld n f = false := by
  unfold vld; rw [okTo_not f hk h]; simp
theorem post_bad {w w' : World} {n : Nat} {f : Nat → St} (h : vld n f = false) (hb : Below w.heap.size w w') : ChkPost w n f (.returned (.int .i64 1)) w' := by
  refine ⟨?_, hb⟩; rw [h]; rfl
theorem post_good {w w' : World} {n : Nat} {f : Nat → St} (h : vld n f = true) (hb : Below w.heap.size w w') : ChkPost w n f (.returned (.int .i64 0)) w' := by
  refine ⟨?_, hb⟩; rw [h]; rfl
theorem bad_l {f : Nat → St} {k : Nat} (h : 1073741824 < (f k).l) : okAt f k = false := by simp [okAt, St.okB]; omega
theorem bad_r {f : Nat → St} {k : Nat} (h : 1073741824 < (f k).r) : okAt f k = false := by simp [okAt, St.okB]; omega
theorem bad_p {f : Nat → St} {k : Nat} (h : 1048576 < (f k).p) : okAt f k = false := by simp [okAt, St.okB]; omega
theorem bad_l2 {f : Nat → St} {k : Nat} (h : (f (k + 1)).l ≤ (f k).l) : okAt f (k + 1) = false := by simp [okAt, St.ltB]; omega
theorem bad_r2 {f : Nat → St} {k : Nat} (h : (f (k + 1)).r ≤ (f k).r) : okAt f (k + 1) = false := by simp [okAt, St.ltB]; omega
theorem bad_p2 {f : Nat → St} {k : Nat} (h : (f k).p ≤ (f (k + 1)).p) : okAt f (k + 1) = false := by simp [okAt, St.ltB]; omega
theorem ok_0 {f : Nat → St} (a1 : (f 0).l ≤ 1073741824) (a2 : (f 0).r ≤ 1073741824) (a3 : (f 0).p ≤ 1048576) : okTo f 1 = true := by
  simp [okTo, okAt, St.okB]; omega
theorem ok_s {f : Nat → St} {j : Nat} (ho : okTo f (j + 1) = true) (a1 : ¬ 1073741824 < (f (j + 1)).l) (a2 : ¬ 1073741824 < (f (j + 1)).r) (a3 : ¬ 1048576 < (f (j + 1)).p)
    (b1 : ¬ (f (j + 1)).l ≤ (f j).l) (b2 : ¬ (f (j + 1)).r ≤ (f j).r) (b3 : ¬ (f j).p ≤ (f (j + 1)).p) : okTo f (j + 1 + 1) = true := by
  rw [okTo, ho]
  simp [okAt, St.okB, St.ltB]; omega

theorem box3 (w : World) (x y z : Int) :
    (w.alloc (Obj.cells #[Value.int IntKind.u64 x, Value.int IntKind.u64 y, Value.int IntKind.u64 z] 25)).cell? ⟨w.heap.size, 0, none⟩ = some (.int .u64 x) ∧
    (w.alloc (Obj.cells #[Value.int IntKind.u64 x, Value.int IntKind.u64 y, Value.int IntKind.u64 z] 25)).cell? ⟨w.heap.size, 1, none⟩ = some (.int .u64 y) ∧
    (w.alloc (Obj.cells #[Value.int IntKind.u64 x, Value.int IntKind.u64 y, Value.int IntKind.u64 z] 25)).cell? ⟨w.heap.size, 2, none⟩ = some (.int .u64 z) := by
  refine ⟨?_, ?_, ?_⟩ <;> simp [go_sem]
set_option maxRecDepth 100000 in
set_option maxHeartbeats 2000000 in
theorem chk_mid (b off n c : Nat) (f : Nat → St) (w : World) (h : 1 ≤ n) (hn : n ≤ 10) (hb : b < w.heap.size) (hc : Sts w b off n f) :
    Calls Try.prog 18 #[.slice (some ⟨b, off, none⟩) n c] w (ChkPost w n f) := by
  have h1 : ¬ ((n : Int) < 1) := by omega
  have h2 : ¬ (10 : Int) < n := by omega
  have hc0 := hc 0 (by omega)
  obtain ⟨c0, c1, c2⟩ := hc0
  simp only [Nat.zero_mul, Nat.add_zero] at c0 c1 c2
  by_cases hl : (f 0).l = 0
  · by_cases hr : (f 0).r = 0
    · have hl' : ((f 0).l != 0) = false := by simp [hl]
      have hr' : ((f 0).r != 0) = false := by simp [hr]
      have Hl := Lib.hid hl; clear hl
      have Hr := Lib.hid hr; clear hr
      go_enter Try.func18, Try.ntmps18
      go_wp2
      go_loopw [29] (fun i wr => ∃ k : Nat, k ≤ n ∧ i = .int .i64 k ∧ Below w.heap.size w wr ∧ Hid (okTo f k = true)) (fun i _ => n - (intOf i).toNat)
      case atStart => exact ⟨0, Nat.zero_le _, rfl, Below.refl _ _, rfl⟩
      case round =>
        obtain ⟨k, hk, rfl, hbel, Ho⟩ := hrel
        by_cases hlt : k < n
        · obtain ⟨d0, d1, d2⟩ := hc k hlt
          rw [← hbel.cell hb] at d0 d1 d2
          by_cases a1 : 1073741824 < (f k).l
          · go_wp2
            go_ret
            exact post_bad (vld_bad hlt (bad_l a1)) (hbel.alloc hbel.size _)
          by_cases a2 : 1073741824 < (f k).r
          · go_wp2
            go_ret
            exact post_bad (vld_bad hlt (bad_r a2)) (hbel.alloc hbel.size _)
          by_cases a3 : 1048576 < (f k).p
          · go_wp2
            go_ret
            exact post_bad (vld_bad hlt (bad_p a3)) (hbel.alloc hbel.size _)
          rcases Nat.eq_zero_or_pos k with hk0 | hk0
          · subst hk0
            simp only [Nat.zero_mul, Nat.add_zero] at d0 d1 d2
            go_wp2_with fail
            go_quiet (fail)
            go_wp2
            go_roundw
            case rel => exact ⟨1, by omega, by go_num, below_drewN (hbel.alloc hbel.size _) _, ok_0 (by omega) (by omega) (by omega)⟩
            case measure => simp [intOf]; omega
          · obtain ⟨j, rfl⟩ : ∃ j, k = j + 1 := ⟨k - 1, by omega⟩
            obtain ⟨e0, e1, e2⟩ := hc j (by omega)
            rw [← hbel.cell hb] at e0 e1 e2
            have g : (0 : Int) < (j : Int) + 1 := by omega
            have w1 : IntKind.i64.wrap (j : Int) = (j : Int) := IntWalk.i64_in _ (by omega)
            have w2 : (j : Int) < n := by omega
            have hbw : b < wr.heap.size := by have := hbel.size; omega
            go_wp2_with fail
            generalize hX : f (j + 1) = X at *
            generalize hY : f j = Y at *
            obtain ⟨xl, xr, xp⟩ := X
            obtain ⟨yl, yr, yp⟩ := Y
            simp only at *
            have HX := Lib.hid hX; clear hX
            have HY := Lib.hid hY; clear hY
            have bel2 := hbel.alloc hbel.size (Obj.cells #[Value.int IntKind.u64 xl, Value.int IntKind.u64 xr, Value.int IntKind.u64 xp] 25)
            rw [← World.cell?_alloc_lt wr (Obj.cells #[Value.int IntKind.u64 xl, Value.int IntKind.u64 xr, Value.int IntKind.u64 xp] 25) _ hbw] at e0 e1 e2
            obtain ⟨g0, g1, g2⟩ := box3 wr xl xr xp
            generalize hW : wr.alloc (Obj.cells #[Value.int IntKind.u64 xl, Value.int IntKind.u64 xr, Value.int IntKind.u64 xp] 25) = W at *
            generalize hB : wr.heap.size = B at *
            clear hW hB hbel d0 d1 d2 c0 c1 c2 hc hb hbw h1 h2 hl' hr'
            have BL := Lib.hid bel2; clear bel2
            by_cases b1 : xl ≤ yl
            · go_quiet (fail)
              go_wp2
              go_ret
              exact post_bad (vld_bad hlt (bad_l2 (by rw [HX.out, HY.out]; exact b1))) (below_drewN BL.out _)
            by_cases b2 : xr ≤ yr
            · go_quiet (fail)
              go_wp2
              go_ret
              exact post_bad (vld_bad hlt (bad_r2 (by rw [HX.out, HY.out]; exact b2))) (below_drewN BL.out _)
            by_cases b3 : yp ≤ xp
            · go_quiet (fail)
              go_wp2
              go_ret
              exact post_bad (vld_bad hlt (bad_p2 (by rw [HX.out, HY.out]; exact b3))) (below_drewN BL.out _)
            go_quiet (fail)
            go_wp2
            go_roundw
            case rel => exact ⟨j + 1 + 1, by omega, by go_num, below_drewN BL.out _, ok_s Ho.out (by rw [HX.out]; simpa using a1) (by rw [HX.out]; simpa using a2) (by rw [HX.out]; simpa using a3) (by rw [HX.out, HY.out]; simpa using b1) (by rw [HX.out, HY.out]; simpa using b2) (by rw [HX.out, HY.out]; simpa using b3)⟩
            case measure => simp [intOf]; omega
        · have : k = n := by omega
          subst this
          go_wp2
          go_ret
          exact post_good (by simp [vld, Ho.out, Hl.out, Hr.out]; omega) hbel
    · have hl' : ((f 0).l != 0) = false := by simp [hl]
      have hr' : ((f 0).r != 0) = true := by simp [hr]
      have Hl := Lib.hid hl; clear hl
      have Hr := Lib.hid hr; clear hr
      go_enter Try.func18, Try.ntmps18
      go_wp2
      go_ret
      exact post_bad (by simp [vld, Hr.out]) (Below.refl _ _)
  · have hl' : ((f 0).l != 0) = true := by simp [hl]
    have Hl := Lib.hid hl; clear hl
    go_enter Try.func18, Try.ntmps18
    go_wp2
    go_ret
    exact post_bad (by simp [vld, Hl.out]) (Below.refl _ _)
end Go.Proofs.Ytfbgkdjjfjlhhaa
