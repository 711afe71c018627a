/- Valid depths, valid rails. -/
import Derived.Test.YtejfopjnokopeaaDev
namespace Go.Proofs.Ytejfopjnokopeaa
open Go.ChangeShapes Go.WideShapes Go.ChangeAt Go.RowKit Go.Deep Go.Joins

def shv (d : PD) (k : Nat) : Int := if k = 0 then 0 else d.e (k - 1)
/-- The deepest states from the first on. -/
def dpB (d : PD) : Nat → Bool
  | 0 => true
  | k + 1 => dpB d k && (isS (d.e k) && decide (shv d k ≤ d.e k))
def hdB (d : PD) : Bool := decide (d.e 0 = 0) && (decide (0 ≤ d.ws) && (decide (d.ws ≤ 4) && (decide (0 ≤ d.wd) && decide (d.wd ≤ 3))))
def vdB (d : PD) : Bool := hdB d && dpB d 6
theorem dpB_no {d : PD} {k n : Nat} (hk : k < n) (h : (isS (d.e k) && decide (shv d k ≤ d.e k)) = false) : dpB d n = false := by
  induction n with
  | zero => omega
  | succ n ih =>
    show (dpB d n && _) = false
    rcases Nat.lt_or_ge k n with h1 | h1
    · rw [ih h1]; rfl
    · have : k = n := by omega
      subst this
      rw [h, Bool.and_false]
set_option maxRecDepth 20000 in
theorem arr_at (e : Nat → Int) (k : Nat) (h : k < 6) (w : World) : (Instr.index 31 (.agg #[.int .i64 (e 0), .int .i64 (e 1), .int .i64 (e 2), .int .i64 (e 3), .int .i64 (e 4), .int .i64 (e 5)]) (.int .i64 k)).run Try.prog w = .ok (.int .i64 (e k)) w := by
  rcases (show k = 0 ∨ k = 1 ∨ k = 2 ∨ k = 3 ∨ k = 4 ∨ k = 5 by omega) with rfl | rfl | rfl | rfl | rfl | rfl <;> kernel_rfl
set_option maxRecDepth 20000 in
set_option maxHeartbeats 16000000 in
theorem vd_any (d : PD) (w : World) : Calls Try.prog 40 #[.agg d.cells] w (BPost w (vdB d)) := by
  have b1 : Below w.heap.size w (w.alloc (.cells d.cells 33)) := bal (Below.refl _ _) _
  have z : ∀ j, (w.alloc (.cells d.cells 33)).cell? ⟨w.heap.size, j, none⟩ = d.cells[j]? := fun j => new_c w _ 33 j
  have hZ : w.heap.size < (w.alloc (.cells d.cells 33)).heap.size := by simp
  have B1 := Lib.hid b1
  have z5 : (w.alloc (.cells d.cells 33)).cell? ⟨w.heap.size, 5, none⟩ = some (.int .i64 (d.e 0)) := by rw [z]; rfl
  have z6 : (w.alloc (.cells d.cells 33)).cell? ⟨w.heap.size, 6, none⟩ = some (.int .i64 (d.e 1)) := by rw [z]; rfl
  have z7 : (w.alloc (.cells d.cells 33)).cell? ⟨w.heap.size, 7, none⟩ = some (.int .i64 (d.e 2)) := by rw [z]; rfl
  have z8 : (w.alloc (.cells d.cells 33)).cell? ⟨w.heap.size, 8, none⟩ = some (.int .i64 (d.e 3)) := by rw [z]; rfl
  have z9 : (w.alloc (.cells d.cells 33)).cell? ⟨w.heap.size, 9, none⟩ = some (.int .i64 (d.e 4)) := by rw [z]; rfl
  have z10 : (w.alloc (.cells d.cells 33)).cell? ⟨w.heap.size, 10, none⟩ = some (.int .i64 (d.e 5)) := by rw [z]; rfl
  have zw : (w.alloc (.cells d.cells 33)).cell? ⟨w.heap.size, 11, none⟩ = some (.int .i64 d.wd) := by rw [z]; rfl
  have zs : (w.alloc (.cells d.cells 33)).cell? ⟨w.heap.size, 12, none⟩ = some (.int .i64 d.ws) := by rw [z]; rfl
  have HD : Hid ((d.e 0 ≠ 0 → vdB d = false) ∧ (d.ws < 0 → vdB d = false) ∧ (4 < d.ws → vdB d = false) ∧ (d.wd < 0 → vdB d = false) ∧ (3 < d.wd → vdB d = false)) := by
    refine ⟨fun h => ?_, fun h => ?_, fun h => ?_, fun h => ?_, fun h => ?_⟩ <;> unfold vdB hdB
    · rw [decide_eq_false h]; rfl
    · rw [decide_eq_false (show ¬ 0 ≤ d.ws by omega)]; simp
    · rw [decide_eq_false (show ¬ d.ws ≤ 4 by omega)]; simp
    · rw [decide_eq_false (show ¬ 0 ≤ d.wd by omega)]; simp
    · rw [decide_eq_false (show ¬ d.wd ≤ 3 by omega)]; simp
  have OK : Hid (d.e 0 = 0 → 0 ≤ d.ws → d.ws ≤ 4 → 0 ≤ d.wd → d.wd ≤ 3 → vdB d = dpB d 6) := fun h1 h2 h3 h4 h5 => by
    unfold vdB hdB
    rw [decide_eq_true h1, decide_eq_true h2, decide_eq_true h3, decide_eq_true h4, decide_eq_true h5]
    rfl
  have ARR := Lib.hid (fun k (hk : k < 6) W => arr_at d.e k hk W)
  have NO := Lib.hid (fun k (hk : k < 6) h => dpB_no (d := d) hk h)
  clear z b1
  generalize hR : vdB d = R at *
  clear hR
  go_enter Try.func40, Try.ntmps40
  go_upto_region 1 with fail
  generalize w.alloc (.cells d.cells 33) = w1 at *
  obtain ⟨h1, h2, h3, h4, h5⟩ := HD.out
  clear HD
  by_cases k1 : d.e 0 = 0
  case neg =>
    have F := Lib.hid (h1 k1)
    have q : (d.e 0 == 0) = false := by simp [k1]
    have q2 : (d.e 0 != 0) = true := by simp [k1]
    clear h1 h2 h3 h4 h5 OK
    go_wp2
    go_ret
    exact ⟨by rw [F.out]; rfl, B1.out⟩
  case pos =>
  have q : (d.e 0 == 0) = true := by simp [k1]
  have q2 : (d.e 0 != 0) = false := by simp [k1]
  by_cases k2 : d.ws < 0
  · have F := Lib.hid (h2 k2)
    clear h1 h2 h3 h4 h5 OK k1
    go_wp2
    go_ret
    exact ⟨by rw [F.out]; rfl, B1.out⟩
  by_cases k3 : 4 < d.ws
  · have F := Lib.hid (h3 k3)
    clear h1 h2 h3 h4 h5 OK k1
    go_wp2
    go_ret
    exact ⟨by rw [F.out]; rfl, B1.out⟩
  by_cases k4 : d.wd < 0
  · have F := Lib.hid (h4 k4)
    clear h1 h2 h3 h4 h5 OK k1
    go_wp2
    go_ret
    exact ⟨by rw [F.out]; rfl, B1.out⟩
  by_cases k5 : 3 < d.wd
  · have F := Lib.hid (h5 k5)
    clear h1 h2 h3 h4 h5 OK k1
    go_wp2
    go_ret
    exact ⟨by rw [F.out]; rfl, B1.out⟩
  have OK2 := Lib.hid (OK.out k1 (by omega) (by omega) (by omega) (by omega))
  clear OK h1 h2 h3 h4 h5 k1
  go_wp2_with fail
  go_loopw [32, 3] (fun vi vs wr => ∃ k : Nat, vi = .int .i64 k ∧ vs = .int .i64 (shv d k) ∧ k ≤ 6 ∧ w1 = wr ∧ Hid (dpB d k = true)) (fun i _ _ => 6 - (intOf i).toNat)
  case atStart => exact ⟨0, rfl, rfl, by omega, rfl, rfl⟩
  case round =>
    obtain ⟨k, rfl, rfl, hk, rfl, HT⟩ := hrel
    by_cases hlt : k < 6
    · have AR := ARR.out k hlt w1
      have IS := iss_any (d.e k) w1
      have NK := Lib.hid (NO.out k hlt)
      have SK : Hid (dpB d (k + 1) = (dpB d k && (isS (d.e k) && decide (shv d k ≤ d.e k)))) := rfl
      have NXT : Hid (d.e k = shv d (k + 1)) := rfl
      have NR : Hid (dpB d 6 = false → R = false) := fun h => by rw [OK2.out, h]
      have hk6 : (k : Int) < 6 := by omega
      generalize isS (d.e k) = b at *
      generalize d.e k = x at *
      generalize shv d k = y at *
      clear ARR NO OK2
      cases b with
      | false =>
        have F := Lib.hid (NR.out (NK.out rfl))
        clear NK SK NR
        go_wp2_with (go_at_call 42; refine IS.mono ?_; rintro e w5 ⟨rfl, rfl⟩)
        go_ret
        exact ⟨by rw [F.out]; rfl, B1.out⟩
      | true =>
        by_cases hxy : x < y
        · have F := Lib.hid (NR.out (NK.out (by rw [decide_eq_false (by omega)]; rfl)))
          clear NK SK NR
          go_wp2_with (go_at_call 42; refine IS.mono ?_; rintro e w5 ⟨rfl, rfl⟩)
          go_ret
          exact ⟨by rw [F.out]; rfl, B1.out⟩
        · have K : Hid (dpB d (k + 1) = true) := by
            show _ = _
            rw [SK.out, HT.out, decide_eq_true (by omega)]
            rfl
          clear NK SK NR
          go_wp2_with (go_at_call 42; refine IS.mono ?_; rintro e w5 ⟨rfl, rfl⟩)
          go_roundw
          case rel => exact ⟨k + 1, by go_num, by rw [← NXT.out], by omega, trivial, K⟩
          case measure => simp [intOf]; omega
    · obtain rfl : k = 6 := by omega
      have F : Hid (R = true) := OK2.out.trans HT.out
      clear OK2 HT
      go_wp2
      go_ret
      exact ⟨by rw [F.out]; rfl, B1.out⟩
end Go.Proofs.Ytejfopjnokopeaa
