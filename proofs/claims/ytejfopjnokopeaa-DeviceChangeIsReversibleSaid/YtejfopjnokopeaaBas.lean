/- Devices as values; Mod, isState, Target. -/
import Derived.Test.YtejfopjnokopeaaGen
namespace Go.Proofs.Ytejfopjnokopeaa
open Go.ChangeShapes Go.WideShapes Go.ChangeAt Go.RowKit Go.Deep Go.Joins

theorem mod_any (v : Int) (n : Nat) (hn : 1 ≤ n) (hn2 : n ≤ 1000000) (w : World) : Calls Try.prog 15 #[.int .i64 v, .int .i64 n] w fun e w' => e = .returned (.int .i64 (modOf v n : Nat)) ∧ w = w' := by
  have H := Lib.hid (modOf_spec v n hn hn2).1
  have hnz : ((n : Int) == 0) = false := beq_eq_false_iff_ne.2 (by omega)
  have hw : IntKind.u64.wrap (n : Int) = n := by rw [IntKind.wrap_u64]; omega
  go_enter Try.func15, Try.ntmps15
  go_wp2
  go_ret
  refine ⟨?_, rfl⟩
  rw [H.out]
  rfl
/-- A device as a value: the rails' slices by their states, the deepest states. -/
structure PD where
  p : Int
  A : Nat → Option Addr
  n : Nat → Nat
  c : Nat → Nat
  e : Nat → Int
  wd : Int
  ws : Int
def PD.cells (d : PD) : Array Value := #[.int .i64 d.p, .slice (d.A 0) (d.n 0) (d.c 0), .slice (d.A 1) (d.n 1) (d.c 1), .slice (d.A 2) (d.n 2) (d.c 2), .slice (d.A 3) (d.n 3) (d.c 3), .int .i64 (d.e 0), .int .i64 (d.e 1), .int .i64 (d.e 2), .int .i64 (d.e 3), .int .i64 (d.e 4), .int .i64 (d.e 5), .int .i64 d.wd, .int .i64 d.ws]
theorem new_c (w : World) (a : Array Value) (t j : Nat) : (w.alloc (.cells a t)).cell? ⟨w.heap.size, j, none⟩ = a[j]? := by
  unfold World.cell?
  rw [heap_alloc_new w _]
  simp
def tgt (d : PD) (s : Int) (wake : Bool) : Int × Int :=
  if s < 0 ∨ 5 < s then (0, 1) else if wake then (if d.ws < s then (0, 13) else (min (d.e s.toNat) d.wd, 0)) else (d.e s.toNat, 0)
def TgP (w : World) (r : Int × Int) (e : Ending) (w' : World) : Prop := e = .returned (.tuple #[.int .i64 r.1, .int .i64 r.2]) ∧ Below w.heap.size w w'
set_option maxRecDepth 20000 in
set_option maxHeartbeats 4000000 in
theorem tgt_no (d : PD) (s : Int) (wake : Bool) (w : World) (h : s < 0 ∨ 5 < s) : Calls Try.prog 19 #[.agg d.cells, .int .i64 s, .bool wake] w (TgP w (tgt d s wake)) ∧ Calls Try.prog 20 #[.agg d.cells, .int .i64 s, .bool wake] w (TgP w (tgt d s wake)) := by
  have E : Hid (tgt d s wake = (0, 1)) := if_pos h
  generalize tgt d s wake = R at *
  unfold PD.cells
  constructor
  · rcases h with h | h
    · go_enter Try.func19, Try.ntmps19
      go_wp2
      go_ret2
      rw [E.out]
      exact ⟨rfl, bal (Below.refl _ _) _⟩
    · have h2 : ¬ s < 0 := by omega
      go_enter Try.func19, Try.ntmps19
      go_wp2
      go_ret2
      rw [E.out]
      exact ⟨rfl, bal (Below.refl _ _) _⟩
  · rcases h with h | h
    · go_enter Try.func20, Try.ntmps20
      go_wp2
      go_ret2
      rw [E.out]
      exact ⟨rfl, bal (Below.refl _ _) _⟩
    · have h2 : ¬ s < 0 := by omega
      go_enter Try.func20, Try.ntmps20
      go_wp2
      go_ret2
      rw [E.out]
      exact ⟨rfl, bal (Below.refl _ _) _⟩
set_option maxRecDepth 20000 in
set_option maxHeartbeats 16000000 in
theorem tgt_in19 (d : PD) (k : Nat) (wake : Bool) (w : World) (h : k < 6) : Calls Try.prog 19 #[.agg d.cells, .int .i64 k, .bool wake] w (TgP w (tgt d k wake)) := by
  have E0 : Hid (wake = false → tgt d k wake = (d.e k, 0)) := fun hw => by
    unfold tgt
    rw [if_neg (by omega), hw]
    rfl
  have E1 : Hid (wake = true → d.ws < k → tgt d k wake = (0, 13)) := fun hw h2 => by
    unfold tgt
    rw [if_neg (by omega), hw, if_pos rfl, if_pos h2]
  have E2 : Hid (wake = true → ¬ d.ws < k → tgt d k wake = (min (d.e k) d.wd, 0)) := fun hw h2 => by
    unfold tgt
    rw [if_neg (by omega), hw, if_pos rfl, if_neg h2]
    rfl
  generalize tgt d k wake = R at *
  have b1 : Below w.heap.size w (w.alloc (.cells d.cells 33)) := bal (Below.refl _ _) _
  have z : ∀ j, (w.alloc (.cells d.cells 33)).cell? ⟨w.heap.size, j, none⟩ = d.cells[j]? := fun j => new_c w _ 33 j
  have hZ : w.heap.size < (w.alloc (.cells d.cells 33)).heap.size := by simp
  have B1 := Lib.hid b1
  have ze : (w.alloc (.cells d.cells 33)).cell? ⟨w.heap.size, 5 + k, none⟩ = some (.int .i64 (d.e k)) := by
    rw [z]
    rcases (show k = 0 ∨ k = 1 ∨ k = 2 ∨ k = 3 ∨ k = 4 ∨ k = 5 by omega) with rfl | rfl | rfl | rfl | rfl | rfl <;> rfl
  have zw : (w.alloc (.cells d.cells 33)).cell? ⟨w.heap.size, 11, none⟩ = some (.int .i64 d.wd) := by rw [z]; rfl
  have zs : (w.alloc (.cells d.cells 33)).cell? ⟨w.heap.size, 12, none⟩ = some (.int .i64 d.ws) := by rw [z]; rfl
  clear z b1
  go_enter Try.func19, Try.ntmps19
  go_upto_region 1 with fail
  generalize w.alloc (.cells d.cells 33) = w1 at *
  generalize d.e k = ek at *
  generalize d.wd = wd at *
  generalize d.ws = ws at *
  have k6 : (k : Int) < 6 := by omega
  cases wake with
  | false =>
    have F := Lib.hid (E0.out rfl)
    clear E0 E1 E2
    go_wp2
    go_ret2
    rw [F.out]
    exact ⟨rfl, B1.out⟩
  | true =>
    by_cases h2 : ws < k
    · have F := Lib.hid (E1.out rfl h2)
      clear E0 E1 E2
      go_wp2
      go_ret2
      rw [F.out]
      exact ⟨rfl, B1.out⟩
    · have F := Lib.hid (E2.out rfl h2)
      clear E0 E1 E2
      by_cases h3 : wd < ek
      · have M : Hid (min ek wd = wd) := by show _ = _; omega
        go_upto_region 7 with fail
        go_quiet (fail)
        go_wp2
        go_ret2
        rw [F.out, M.out]
        exact ⟨rfl, below_drewN B1.out _⟩
      · have M : Hid (min ek wd = ek) := by show _ = _; omega
        go_upto_region 7 with fail
        go_quiet (fail)
        go_wp2
        go_ret2
        rw [F.out, M.out]
        exact ⟨rfl, below_drewN B1.out _⟩
set_option maxRecDepth 20000 in
set_option maxHeartbeats 16000000 in
theorem tgt_in20 (d : PD) (k : Nat) (wake : Bool) (w : World) (h : k < 6) : Calls Try.prog 20 #[.agg d.cells, .int .i64 k, .bool wake] w (TgP w (tgt d k wake)) := by
  have E0 : Hid (wake = false → tgt d k wake = (d.e k, 0)) := fun hw => by
    unfold tgt
    rw [if_neg (by omega), hw]
    rfl
  have E1 : Hid (wake = true → d.ws < k → tgt d k wake = (0, 13)) := fun hw h2 => by
    unfold tgt
    rw [if_neg (by omega), hw, if_pos rfl, if_pos h2]
  have E2 : Hid (wake = true → ¬ d.ws < k → tgt d k wake = (min (d.e k) d.wd, 0)) := fun hw h2 => by
    unfold tgt
    rw [if_neg (by omega), hw, if_pos rfl, if_neg h2]
    rfl
  generalize tgt d k wake = R at *
  have b1 : Below w.heap.size w (w.alloc (.cells d.cells 33)) := bal (Below.refl _ _) _
  have z : ∀ j, (w.alloc (.cells d.cells 33)).cell? ⟨w.heap.size, j, none⟩ = d.cells[j]? := fun j => new_c w _ 33 j
  have hZ : w.heap.size < (w.alloc (.cells d.cells 33)).heap.size := by simp
  have B1 := Lib.hid b1
  have ze : (w.alloc (.cells d.cells 33)).cell? ⟨w.heap.size, 5 + k, none⟩ = some (.int .i64 (d.e k)) := by
    rw [z]
    rcases (show k = 0 ∨ k = 1 ∨ k = 2 ∨ k = 3 ∨ k = 4 ∨ k = 5 by omega) with rfl | rfl | rfl | rfl | rfl | rfl <;> rfl
  have zw : (w.alloc (.cells d.cells 33)).cell? ⟨w.heap.size, 11, none⟩ = some (.int .i64 d.wd) := by rw [z]; rfl
  have zs : (w.alloc (.cells d.cells 33)).cell? ⟨w.heap.size, 12, none⟩ = some (.int .i64 d.ws) := by rw [z]; rfl
  clear z b1
  go_enter Try.func20, Try.ntmps20
  go_upto_region 1 with fail
  generalize w.alloc (.cells d.cells 33) = w1 at *
  generalize d.e k = ek at *
  generalize d.wd = wd at *
  generalize d.ws = ws at *
  have k6 : (k : Int) < 6 := by omega
  cases wake with
  | false =>
    have F := Lib.hid (E0.out rfl)
    clear E0 E1 E2
    go_wp2
    go_ret2
    rw [F.out]
    exact ⟨rfl, B1.out⟩
  | true =>
    by_cases h2 : ws < k
    · have F := Lib.hid (E1.out rfl h2)
      clear E0 E1 E2
      go_wp2
      go_ret2
      rw [F.out]
      exact ⟨rfl, B1.out⟩
    · have F := Lib.hid (E2.out rfl h2)
      clear E0 E1 E2
      by_cases h3 : wd < ek
      · have M : Hid (min ek wd = wd) := by show _ = _; omega
        go_upto_region 7 with fail
        go_quiet (fail)
        go_wp2
        go_ret2
        rw [F.out, M.out]
        exact ⟨rfl, below_drewN B1.out _⟩
      · have M : Hid (min ek wd = ek) := by show _ = _; omega
        go_upto_region 7 with fail
        go_quiet (fail)
        go_wp2
        go_ret2
        rw [F.out, M.out]
        exact ⟨rfl, below_drewN B1.out _⟩
theorem tgt_any (d : PD) (s : Int) (wake : Bool) (w : World) : Calls Try.prog 19 #[.agg d.cells, .int .i64 s, .bool wake] w (TgP w (tgt d s wake)) := by
  by_cases h : s < 0 ∨ 5 < s
  · exact (tgt_no d s wake w h).1
  · obtain ⟨k, rfl⟩ := Int.eq_ofNat_of_zero_le (show 0 ≤ s by omega)
    exact tgt_in19 d k wake w (by omega)
theorem rtgt_any (d : PD) (s : Int) (wake : Bool) (w : World) : Calls Try.prog 20 #[.agg d.cells, .int .i64 s, .bool wake] w (TgP w (tgt d s wake)) := by
  by_cases h : s < 0 ∨ 5 < s
  · exact (tgt_no d s wake w h).2
  · obtain ⟨k, rfl⟩ := Int.eq_ofNat_of_zero_le (show 0 ≤ s by omega)
    exact tgt_in20 d k wake w (by omega)
end Go.Proofs.Ytejfopjnokopeaa
