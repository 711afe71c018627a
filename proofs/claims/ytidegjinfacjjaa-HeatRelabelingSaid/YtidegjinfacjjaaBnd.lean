/- Bound, of a valid model. -/
import Derived.Test.YtidegjinfacjjaaSys
namespace Go.Proofs.Ytidegjinfacjjaa
open Go.ChangeShapes Go.WideShapes Go.ChangeAt Go.RowKit Go.Deep Go.Joins

def riQ (D : Nat → Dm) (Z : Nat → Int) (i : Nat) : Int := (Z i + (D i).a - 1).tdiv (D i).a
def riK (D : Nat → Dm) (Z : Nat → Int) : Nat → Int
  | 0 => 0
  | k + 1 => if riK D Z k < riQ D Z k then riQ D Z k else riK D Z k
theorem riQ_b {D : Nat → Dm} {Z : Nat → Int} {i : Nat} (ha : 1 ≤ (D i).a) (hz : 0 ≤ Z i) : 0 ≤ riQ D Z i ∧ riQ D Z i ≤ Z i ∧ Z i ≤ (D i).a * riQ D Z i := by
  unfold riQ
  rw [Int.tdiv_eq_ediv_of_nonneg (by omega)]
  generalize (D i).a = a at *
  generalize Z i = z at *
  have e1 := Int.emod_add_mul_ediv (z + a - 1) a
  have e2 := Int.emod_nonneg (z + a - 1) (show a ≠ 0 by omega)
  have e3 := Int.emod_lt_of_pos (z + a - 1) (show 0 < a by omega)
  have e0 : 0 ≤ (z + a - 1) / a := Int.ediv_nonneg (by omega) (by omega)
  refine ⟨e0, ?_, by omega⟩
  rcases Int.lt_or_le z ((z + a - 1) / a) with h | h
  · exfalso
    have m1 : 0 ≤ (a - 1) * ((z + a - 1) / a - 1) := Int.mul_nonneg (by omega) (by omega)
    simp only [Int.mul_sub, Int.sub_mul, Int.mul_one, Int.one_mul] at m1
    omega
  · exact h
theorem riK_b {D : Nat → Dm} {Z : Nat → Int} {n : Nat} {t : Int} (ha : ∀ i, i < n → 1 ≤ (D i).a) (hz : ∀ i, i < n → 0 ≤ Z i ∧ Z i ≤ t) (ht : 0 ≤ t) (k : Nat) (hk : k ≤ n) : 0 ≤ riK D Z k ∧ riK D Z k ≤ t ∧ ∀ i, i < k → riQ D Z i ≤ riK D Z k := by
  induction k with
  | zero => exact ⟨Int.le_refl _, ht, fun i hi => by omega⟩
  | succ k ih =>
    obtain ⟨a1, a2, a3⟩ := ih (by omega)
    obtain ⟨b1, b2, _⟩ := riQ_b (D := D) (Z := Z) (ha k (by omega)) (hz k (by omega)).1
    have := hz k (by omega)
    unfold riK
    split
    · rename_i h
      refine ⟨b1, by omega, fun i hi => ?_⟩
      rcases Nat.lt_or_ge i k with e | e
      · have := a3 i e; omega
      · obtain rfl : i = k := by omega
        exact Int.le_refl _
    · rename_i h
      refine ⟨a1, a2, fun i hi => ?_⟩
      rcases Nat.lt_or_ge i k with e | e
      · exact a3 i e
      · obtain rfl : i = k := by omega
        omega
set_option maxRecDepth 20000 in
set_option maxHeartbeats 8000000 in
theorem bnd_any {n m : Nat} {D : Nat → Dm} {K : Nat → Lk} {s : Int} (v : Va n D m K s) (A : Option Addr) (ca : Nat) (B : Option Addr) (cb : Nat) (P : Option Addr) (cp : Nat) (Z : Nat → Int) (w : World) (hA : Fl w A 2 n (dV D)) (hB : Fl w B 3 m (lV K)) (hP : Fl w P 1 n (eV Z)) (hz : ∀ i, i < n → 0 ≤ Z i ∧ Z i ≤ 16777216) :
    Calls Try.prog 17 #[.slice A n ca, .slice B m cb, .int .i64 s, .slice P n cp] w (QuP w (.tuple #[.int .i64 (s + riK D Z n), .int .i64 0])) := by
  have VL := vld_any v A ca B cb w hA hB
  have VP := Lib.hid (fun (W : World) (hb : Below w.heap.size w W) => vp_any A n ca P n cp Z W (hP.below' hb))
  rw [vp_of rfl hz] at VP
  have V := Lib.hid v
  have HA := Lib.hid hA
  have HZ := Lib.hid hz
  have HP := Lib.hid hP
  have n1 := v.n1
  have n2 := v.n2
  have sb := v.s
  obtain ⟨b, off, rfl, -⟩ := hA.addr n1
  obtain ⟨pb, po, rfl, -⟩ := hP.addr n1
  have RB := Lib.hid (fun (k : Nat) (hk : k ≤ n) => riK_b (D := D) (Z := Z) (n := n) (t := 16777216) (fun i hi => (v.d i hi).1) hz (by omega) k hk)
  clear v hA hB hz hP
  go_enter Try.func17, Try.ntmps17
  go_wp2_with fail
  refine VL.mono ?_
  clear VL
  rintro e w1 ⟨rfl, hb1⟩
  have P1 := VP.out w1 hb1
  go_wp2_with fail
  refine P1.mono ?_
  clear P1 VP
  rintro e w2 ⟨rfl, rfl⟩
  have HB1 := Lib.hid hb1
  clear hb1
  go_wp2_with fail
  go_loopw [10, 26] (fun v10 v26 wr => ∃ k : Nat, v10 = .int .i64 (riK D Z k) ∧ v26 = .int .i64 k ∧ k ≤ n ∧ Below w.heap.size w wr) (fun v10 v26 _ => n - (intOf v26).toNat)
  case atStart => exact ⟨0, rfl, rfl, Nat.zero_le _, HB1.out⟩
  case round =>
    obtain ⟨k, rfl, rfl, hk, hB⟩ := hrel
    obtain ⟨r0, r1, -⟩ := RB.out k hk
    by_cases hlt : k < n
    · obtain ⟨hb, d0, d1⟩ := (HA.out.below' hB).dat' rfl hlt
      obtain ⟨pl, p0⟩ := (HP.out.below' hB).eat' rfl hlt
      obtain ⟨a1, a2, a3⟩ := V.out.d k hlt
      obtain ⟨z1, z2⟩ := HZ.out k hlt
      obtain ⟨q0, q1, -⟩ := riQ_b (D := D) (Z := Z) a1 z1
      have hx : Below wr.heap.size wr (wr.alloc (.cells #[.int .i64 (D k).c, .int .i64 (D k).a] 31)) := bal (Below.refl _ wr) _
      obtain ⟨-, y1⟩ := bx2 wr (.int .i64 (D k).c) (.int .i64 (D k).a) 31
      have lQ : wr.heap.size < (wr.alloc (.cells #[.int .i64 (D k).c, .int .i64 (D k).a] 31)).heap.size := by simp
      have p0 := (hx.cell (p := ⟨pb, po + k, none⟩) pl).trans p0
      have pl := Nat.lt_of_lt_of_le pl hx.size
      have NB := Lib.hid (bel2 hB hx)
      obtain ⟨u1, hu1⟩ : ∃ u1, u1 = Z k + (D k).a := ⟨_, rfl⟩
      obtain ⟨u2, hu2⟩ : ∃ u2, u2 = u1 - 1 := ⟨_, rfl⟩
      obtain ⟨rq, hrq⟩ : ∃ rq, rq = riQ D Z k := ⟨_, rfl⟩
      have WH1 := Lib.hid (both (x := Z k + (D k).a) (y := u1) (by omega) hu1.symm)
      have WH2 := Lib.hid (both (x := u1 - 1) (y := u2) (by omega) hu2.symm)
      have WH3 := Lib.hid (both (x := u2.tdiv (D k).a) (y := rq) (by
        have : u2.tdiv (D k).a = riQ D Z k := by rw [hu2, hu1]; rfl
        rw [this]; omega) (by rw [hrq, hu2, hu1]; rfl))
      have NZ : Hid (((D k).a == 0) = false) := beq_eq_false_iff_ne.2 (by omega)
      have ES : Hid (riK D Z (k + 1) = if riK D Z k < rq then rq else riK D Z k) := by show riK D Z (k + 1) = _; rw [hrq]; rfl
      have hways : riK D Z k < rq ∨ ¬ riK D Z k < rq := by omega
      generalize riK D Z k = rk at *
      clear hu1 hu2 hrq q0 q1 hB
      clear r0 r1 a2 a3 z1 z2
      generalize (D k).c = dc at *
      generalize (D k).a = da at *
      generalize Z k = zk at *
      go_upto_region 7 with fail
      generalize wr.alloc (.cells #[.int .i64 dc, .int .i64 da] 31) = w3 at *
      clear d0 d1 hb hx
      generalize hQ : wr.heap.size = Q at *
      clear hQ
      obtain ⟨W1, W1w⟩ := WH1.out
      obtain ⟨W2, W2w⟩ := WH2.out
      obtain ⟨W3, W3w⟩ := WH3.out
      have nz := NZ.out
      clear WH1 WH2 WH3 NZ
      rcases hways with hw | hw
      all_goals
        go_quiet (fail)
        have NB2 := Lib.hid (bel_drewN NB.out nq)
        clear W1 W2 W3 W1w W2w W3w nz
        go_wp2
        go_roundw
        case rel => exact ⟨k + 1, by rw [ES.out]; first | rw [if_pos hw] | rw [if_neg (by omega)], by go_num, by omega, NB2.out⟩
        case measure => simp [intOf]; omega
    · obtain rfl : k = n := by omega
      have hq : ¬ (k : Int) < (k : Int) := by omega
      have F := Lib.hid hB
      clear hB
      generalize riK D Z k = rk at *
      go_wp2
      go_ret2
      exact ⟨rfl, F.out⟩
end Go.Proofs.Ytidegjinfacjjaa
