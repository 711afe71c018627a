/- Length and ReadLength on every string. -/
import Derived.Test.YtkolghjjifcjkaaLnp
namespace Go.Proofs.Ytkolghjjifcjkaa
open Go.ChangeShapes Go.WideShapes Go.ChangeAt Go.RowKit Go.Deep Go.Joins

def triN (t : Int × Int × Int) : Value := .tuple #[.int .i64 t.1, .int .i64 t.2.1, .int .i64 t.2.2]
def TrN (w : World) (t : Int × Int × Int) (e : Ending) (w' : World) : Prop := e = .returned (triN t) ∧ Below w.heap.size w w'
theorem TrN.mk {w w' : World} {t : Int × Int × Int} {a b c : Int} (h : t = (a, b, c)) (hb : Below w.heap.size w w') : TrN w t (.returned (.tuple #[.int .i64 a, .int .i64 b, .int .i64 c])) w' := by subst h; exact ⟨rfl, hb⟩
theorem alen_nil (n : Int) (w : World) (hn : -9223372036854775808 ≤ n ∧ n ≤ 9223372036854775807) : Calls Try.prog 13 #[.string { data := #[] }, .int .i64 n] w (StB w (strOfNums (lenL n))) := by
  have h := alen_any { data := #[] } n w (by show 0 ≤ _; omega) hn
  have e : ({ data := #[] } : ByteArray) ++ strOfNums (lenL n) = strOfNums (lenL n) := by apply ByteArray.ext; rw [ByteArray.data_append]; simp
  rw [e] at h
  exact h
theorem Below.drewN {B : Nat} {a b : World} (h : Below B a b) (n : Nat) : Below B a (b.drewN n) := ⟨h.os, h.tape, h.output, h.size, h.block⟩
theorem num3 (s : ByteArray) (i k : Nat) (hk : k ≤ 3) : 0 ≤ numAt s i k ∧ numAt s i k < 16777216 := by
  have h := (numAt_bd s i k)
  have h2 : (256 : Int) ^ k ≤ 16777216 := by
    rcases (show k = 0 ∨ k = 1 ∨ k = 2 ∨ k = 3 by omega) with rfl | rfl | rfl | rfl <;> decide
  omega
theorem or_gen (t x : Int) (m : Nat) (h0 : 0 ≤ t) (h1 : t < 2 ^ m) (hx : 0 ≤ x) (hb : x * 2 ^ m < 1099511627776) (ht : t < 1099511627776) : bits BinOp.or IntKind.i64 t (x * 2 ^ m) = t + x * 2 ^ m := by
  obtain ⟨T, rfl⟩ := Int.eq_ofNat_of_zero_le h0
  obtain ⟨X, rfl⟩ := Int.eq_ofNat_of_zero_le hx
  have hT : T < 2 ^ m := by exact Int.ofNat_lt.1 (by simpa using h1)
  have hc : (X : Int) * 2 ^ m = ((X * 2 ^ m : Nat) : Int) := by simp
  rw [hc] at hb ⊢
  have e1 : (BitVec.ofInt 64 (T : Int)).toNat = T := by rw [BitVec.toNat_ofInt]; omega
  have e2 : (BitVec.ofInt 64 ((X * 2 ^ m : Nat) : Int)).toNat = X * 2 ^ m := by rw [BitVec.toNat_ofInt]; omega
  have e3 : T ||| X * 2 ^ m = T + X * 2 ^ m := by
    have := Nat.two_pow_add_eq_or_of_lt (i := m) (b := T) hT X
    rw [Nat.or_comm, Nat.mul_comm X, ← this, Nat.add_comm]
  show IntKind.i64.wrap (((BitVec.ofInt 64 (T : Int)) ||| (BitVec.ofInt 64 ((X * 2 ^ m : Nat) : Int))).toNat : Int) = _
  rw [BitVec.toNat_or, e1, e2, e3, IntWalk.i64_in _ (by omega)]
  simp
theorem sh_pow (i : Nat) (hi : i < 3) : (2 : Int) ^ (8 * i + 4) = 16 * 256 ^ i := by
  rcases (show i = 0 ∨ i = 1 ∨ i = 2 by omega) with rfl | rfl | rfl <;> decide
theorem sh_step (s : ByteArray) (i : Nat) (lo : Int) (hi : i < 3) (hlo : 0 ≤ lo ∧ lo < 16) :
    IntKind.i64.wrap (bt s (i + 1) * 2 ^ (8 * i + 4)) = bt s (i + 1) * 2 ^ (8 * i + 4) ∧ wrap64 (bt s (i + 1) * 2 ^ (8 * i + 4)) = bt s (i + 1) * 2 ^ (8 * i + 4) ∧ bits BinOp.or IntKind.i64 (lo + 16 * numAt s 1 i) (bt s (i + 1) * 2 ^ (8 * i + 4)) = lo + 16 * numAt s 1 (i + 1) := by
  have hb := bt_bd s (i + 1)
  have hn := numAt_bd s 1 i
  have hs := numAt_snoc s 1 i
  rw [Nat.add_comm 1 i] at hs
  have hp := sh_pow i hi
  have hq : (1 : Int) ≤ 256 ^ i ∧ (256 : Int) ^ i ≤ 65536 := by
    rcases (show i = 0 ∨ i = 1 ∨ i = 2 by omega) with rfl | rfl | rfl <;> decide
  have hm : 0 ≤ 256 ^ i * bt s (i + 1) ∧ 256 ^ i * bt s (i + 1) ≤ 65536 * 255 := ⟨Int.mul_nonneg (by omega) hb.1, Int.mul_le_mul hq.2 (by omega) hb.1 (by omega)⟩
  have hx : bt s (i + 1) * 2 ^ (8 * i + 4) = 16 * (256 ^ i * bt s (i + 1)) := by rw [hp, Int.mul_comm, Int.mul_assoc]
  refine ⟨IntWalk.i64_in _ (by omega), IntWalk.wrap64_in _ (by omega), ?_⟩
  rw [or_gen _ _ _ (by omega) (by rw [hp]; omega) hb.1 (by omega) (by omega), hx, hs]
  omega
theorem tail_fin (s : ByteArray) (k : Nat) (t : Int) (w : World) (r : Bool) (ht : ¬ t < k) (hr : ((strOfNums (lenL (t - k))).toList == (s.extract 0 k).toList) = r) : ∀ w', Below w.heap.size w w' → TrN w (tailN s k t) (.returned (if r then .tuple #[.int .i64 (t - k), .int .i64 k, .int .i64 0] else .tuple #[.int .i64 0, .int .i64 0, .int .i64 3])) w' := fun w' hb => by
  have e : tailN s k t = if r then (t - k, (k : Int), 0) else (0, 0, 3) := by
    unfold tailN
    rw [if_neg ht]
    by_cases q : strOfNums (lenL (t - k)) = s.extract 0 k
    · rw [if_pos q, ← hr, str_t q]; rfl
    · rw [if_neg q, ← hr, str_f q]; rfl
  rw [e]
  cases r
  · exact ⟨rfl, hb⟩
  · exact ⟨rfl, hb⟩
set_option maxHeartbeats 4000000 in
theorem len_any (s : ByteArray) (w : World) (hs : s.size ≤ 281474976710656) : Calls Try.prog 14 #[.string s] w (TrN w (decN s)) := by
  by_cases h0 : s.size = 0
  · have F : Hid (decN s = (0, 0, 4)) := by show _ = _; unfold decN; rw [if_pos h0]
    have he := emp_t s h0
    clear h0
    go_enter Try.func14, Try.ntmps14
    go_wp2
    go_ret3
    exact TrN.mk F.out (Below.refl _ _)
  have he := emp_f s h0
  have hs1 : 0 < s.size := by omega
  have ha := bt_at s 0 hs1
  have hb := bt_bd s 0
  have a63 := and63 _ hb
  have a15 := and15b _ hb
  have a48 := and48i _ hb
  have D : Hid (decN s = if bt s 0 / 64 = 0 then tailN s 1 (bt s 0 % 64) else if 15 < bt s 0 % 64 then (0, 0, 3) else if (s.size : Int) < bt s 0 / 64 + 1 then (0, 0, 4) else tailN s ((bt s 0 / 64).toNat + 1) (bt s 0 % 16 + 16 * numAt s 1 (bt s 0 / 64).toNat)) := by show _ = _; unfold decN; rw [if_neg h0]
  clear h0
  have hk3 : bt s 0 / 64 = 0 ∨ bt s 0 / 64 = 1 ∨ bt s 0 / 64 = 2 ∨ bt s 0 / 64 = 3 := by omega
  have hlow : 0 ≤ bt s 0 % 64 ∧ bt s 0 % 64 < 64 := by omega
  have hm16 : bt s 0 % 16 = bt s 0 % 64 % 16 := by omega
  rw [hm16] at D
  rcases hk3 with hk | hk | hk | hk
  · have E : Hid (decN s = tailN s 1 (bt s 0 % 64)) := by show _ = _; rw [D.out, if_pos hk]
    clear a48 a15 hm16
    generalize bt s 0 = y at *
    generalize y % 64 = t at *
    clear D
    go_enter Try.func14, Try.ntmps14
    by_cases q3 : t < 1
    · have F : Hid (tailN s 1 t = (0, 0, 3)) := by show _ = _; unfold tailN; rw [if_pos (by omega)]
      have dq : decide (t < 1) = true := decide_eq_true q3
      go_upto_region 14 with fail
      go_quiet (fail)
      go_wp2
      go_ret3
      exact TrN.mk (by rw [E.out, F.out]) (bel2 (Below.refl _ _) (Below.drewN (Below.refl _ _) _))
    · have dq : decide (t < 1) = false := decide_eq_false q3
      obtain ⟨r, hr⟩ : ∃ r : Bool, ((strOfNums (lenL (t - 1))).toList == (s.extract 0 1).toList) = r := ⟨_, rfl⟩
      have F := Lib.hid (tail_fin s 1 t w r (by omega) (by simpa using hr))
      have P := fun w' => alen_nil (t - 1) w' (by omega)
      have hw : IntKind.i64.wrap (t - 1) = t - 1 := IntWalk.i64_in _ (by omega)
      have hsz : 1 ≤ s.size := by omega
      have hsz2 : (1 : Int) ≤ (s.size : Int) := by omega
      rw [← E.out] at F
      clear E
      have HW := Lib.hid hw
      clear hw q3
      go_upto_region 14 with fail
      have hw := HW.out
      have KP : Hid (∀ w' : World, Below w.drew.heap.size w.drew w' → True) := fun _ _ => trivial
      refine wp_region_noPanic ?_
      refine wp_region_held_drew (S := fun _ => True) (by kernel_rfl) (KP.out _ (Below.refl _ _)) (fun hHeld => ?_)
      refine wpAnyH_take (i := 0) (v := ?vb0) (by simp only [List.getElem?_toArray]; rfl) (by kernel_rfl) (by kernel_rfl) (by kernel_rfl) (fun _ _ _ h => h) (Or.inl ⟨by rfl, ?yb0⟩) hHeld ?_
      case yb0 => (intro w hSw; go_simp <;> with_reducible rfl)
      simp only [Act.put, List.setIfInBounds_toArray, List.set_cons_zero, List.set_cons_succ]
      refine wpAnyH_take (i := 1) (v := ?vb1) (by simp only [List.getElem?_toArray]; rfl) (by kernel_rfl) (by kernel_rfl) (by kernel_rfl) (fun _ _ _ h => h) (Or.inl ⟨by rfl, ?yb1⟩) hHeld ?_
      case yb1 => (intro w hSw; go_simp <;> with_reducible rfl)
      simp only [Act.put, List.setIfInBounds_toArray, List.set_cons_zero, List.set_cons_succ]
      refine wpAnyH_take (i := 2) (v := ?vb2) (by simp only [List.getElem?_toArray]; rfl) (by kernel_rfl) (by kernel_rfl) (by kernel_rfl) (fun _ _ _ h => h) (Or.inl ⟨by rfl, ?yb2⟩) hHeld ?_
      case yb2 => (intro w hSw; go_simp <;> with_reducible rfl)
      simp only [Act.put, List.setIfInBounds_toArray, List.set_cons_zero, List.set_cons_succ]
      refine wpAnyH_take (i := 3) (v := ?vb3) (by simp only [List.getElem?_toArray]; rfl) (by kernel_rfl) (by kernel_rfl) (by kernel_rfl) (fun _ _ _ h => h) (Or.inl ⟨by rfl, ?yb3⟩) hHeld ?_
      case yb3 => (intro w hSw; go_simp <;> with_reducible rfl)
      simp only [Act.put, List.setIfInBounds_toArray, List.set_cons_zero, List.set_cons_succ]
      refine wpAnyH_take (i := 4) (v := ?vb4) (by simp only [List.getElem?_toArray]; rfl) (by kernel_rfl) (by kernel_rfl) (by kernel_rfl) (fun _ _ _ h => h) (Or.inl ⟨by rfl, ?yb4⟩) hHeld ?_
      case yb4 => (intro w hSw; go_simp <;> with_reducible rfl)
      simp only [Act.put, List.setIfInBounds_toArray, List.set_cons_zero, List.set_cons_succ]
      refine wpAnyH_take (i := 5) (v := ?vb5) (by simp only [List.getElem?_toArray]; rfl) (by kernel_rfl) (by kernel_rfl) (by kernel_rfl) (fun _ _ _ h => h) (Or.inl ⟨by rfl, ?yb5⟩) hHeld ?_
      case yb5 => (intro w hSw; go_simp <;> with_reducible rfl)
      simp only [Act.put, List.setIfInBounds_toArray, List.set_cons_zero, List.set_cons_succ]
      refine wpAnyH_take (i := 6) (v := ?vb6) (by simp only [List.getElem?_toArray]; rfl) (by kernel_rfl) (by kernel_rfl) (by kernel_rfl) (fun _ _ _ h => h) (Or.inl ⟨by rfl, ?yb6⟩) hHeld ?_
      case yb6 => (intro w hSw; go_simp <;> with_reducible rfl)
      simp only [Act.put, List.setIfInBounds_toArray, List.set_cons_zero, List.set_cons_succ]
      refine wpAnyH_take (i := 8) (v := ?vb8) (by simp only [List.getElem?_toArray]; rfl) (by kernel_rfl) (by kernel_rfl) (by kernel_rfl) (fun _ _ _ h => h) (Or.inl ⟨by rfl, ?yb8⟩) hHeld ?_
      case yb8 => (intro w hSw; go_simp <;> with_reducible rfl)
      simp only [Act.put, List.setIfInBounds_toArray, List.set_cons_zero, List.set_cons_succ]
      refine wpAnyH_take (i := 9) (v := ?vb9) (by simp only [List.getElem?_toArray]; rfl) (by kernel_rfl) (by kernel_rfl) (by kernel_rfl) (fun _ _ _ h => h) (Or.inl ⟨by rfl, ?yb9⟩) hHeld ?_
      case yb9 => (intro w hSw; go_simp <;> with_reducible rfl)
      simp only [Act.put, List.setIfInBounds_toArray, List.set_cons_zero, List.set_cons_succ]
      refine wpAnyH_take (i := 10) (v := ?vb10) (by simp only [List.getElem?_toArray]; rfl) (by kernel_rfl) (by kernel_rfl) (by kernel_rfl) (fun _ _ _ h => h) (Or.inl ⟨by rfl, ?yb10⟩) hHeld ?_
      case yb10 => (intro w hSw; go_simp <;> with_reducible rfl)
      simp only [Act.put, List.setIfInBounds_toArray, List.set_cons_zero, List.set_cons_succ]
      refine wpAnyH_ready (rs := [7]) (by kernel_rfl) (by simp) ?_
      refine AllReadyH.cons (by simp only [List.getElem?_toArray]; rfl) (fun K hK => ?_) ?_
      rotate_left
      · exact AllReadyH.nil
      go_simp
      go_at_call 13
      refine (P _).mono ?_
      rintro e w9 ⟨rfl, hb9⟩
      go_wp2_with fail
      refine hK.out _ _ ?_ (fun hHeld => ?_)
      · exact trivial
      clear hK K
      refine wpAnyH_take (i := 11) (v := ?vb11) (by simp only [List.getElem?_toArray]; rfl) (by kernel_rfl) (by kernel_rfl) (by kernel_rfl) (fun _ _ _ h => h) (Or.inl ⟨by rfl, ?yb11⟩) hHeld ?_
      case yb11 => (intro w hSw; go_simp <;> with_reducible rfl)
      simp only [Act.put, List.setIfInBounds_toArray, List.set_cons_zero, List.set_cons_succ]
      refine wpAnyH_take (i := 12) (v := ?vb12) (by simp only [List.getElem?_toArray]; rfl) (by kernel_rfl) (by kernel_rfl) (by kernel_rfl) (fun _ _ _ h => h) (Or.inl ⟨by rfl, ?yb12⟩) hHeld ?_
      case yb12 => (intro w hSw; go_simp <;> with_reducible rfl)
      simp only [Act.put, List.setIfInBounds_toArray, List.set_cons_zero, List.set_cons_succ]
      refine wpAnyH_done (by kernel_rfl) ?_ _
      refine NoPanic.normal ?_
      have HB := Lib.hid hb9
      clear hb9 hw KP
      cases r
      all_goals
        go_wp2
        go_ret3
        exact F.out _ (bel2 (bel2 (Below.refl _ _) ((Below.refl _ _).drew)) HB.out)
  · by_cases q1 : 15 < bt s 0 % 64
    · have F : Hid (decN s = (0, 0, 3)) := by show _ = _; rw [D.out, if_neg (by omega), if_pos q1]
      have dq : decide (15 < bt s 0 % 64) = true := decide_eq_true q1
      clear D
      generalize bt s 0 = y at *
      rw [dq] at a48
      generalize y % 64 = t at *
      go_enter Try.func14, Try.ntmps14
      go_wp2
      go_ret3
      exact TrN.mk F.out (Below.refl _ _)
    have dq1 : decide (15 < bt s 0 % 64) = false := decide_eq_false q1
    rw [dq1] at a48
    by_cases q2 : s.size < 2
    · have F : Hid (decN s = (0, 0, 4)) := by show _ = _; rw [D.out, if_neg (by omega), if_neg q1, if_pos (by omega)]
      clear D
      generalize bt s 0 = y at *
      generalize y % 64 = t at *
      go_enter Try.func14, Try.ntmps14
      go_wp2
      go_ret3
      exact TrN.mk F.out (Below.refl _ _)
    have E0 : Hid (decN s = tailN s 2 (bt s 0 % 64 % 16 + 16 * numAt s 1 1)) := by show _ = _; rw [D.out, if_neg (by omega), if_neg q1, if_neg (by omega), hk]; rfl
    have e16 : bt s 0 % 64 % 16 = bt s 0 % 64 := by omega
    rw [e16] at E0 hm16
    clear D e16
    have hlo : 0 ≤ bt s 0 % 64 ∧ bt s 0 % 64 < 16 := by omega
    generalize bt s 0 = y at *
    generalize y % 64 = lo at *
    clear a48 a15 hm16
    go_enter Try.func14, Try.ntmps14
    go_wp2_with fail
    go_loopg [7, 6] 1 (fun g vi vt wr => ∃ i : Nat, i + g = 1 ∧ vi = .int .i64 ((i : Int) + 1) ∧ vt = .int .i64 (lo + 16 * numAt s 1 i) ∧ w = wr)
    case atStart => exact ⟨0, by omega, rfl, by simp [numAt], rfl⟩
    case round =>
      obtain ⟨i, hg, rfl, rfl, rfl⟩ := hrel
      by_cases hi : i < 1
      · obtain ⟨g, rfl⟩ : ∃ g, gk = g + 1 := ⟨gk - 1, by omega⟩
        have hii : i + 1 < s.size := by omega
        have hai := bt_at s (i + 1) hii
        obtain ⟨z1, z0, z2⟩ := sh_step s i lo (by omega) hlo
        have z3 : wrap64 (bt s (i + 1) * 2 ^ (8 * i + 4)) = bt s (i + 1) * 2 ^ (8 * i + 4) := z0
        have hbb := bt_bd s (i + 1)
        have z4 : wrap64 (bt s (i + 1)) = bt s (i + 1) := IntWalk.wrap64_in _ (by omega)
        have z5 : IntKind.i64.wrap (bt s (i + 1)) = bt s (i + 1) := IntWalk.i64_in _ (by omega)
        have dd : decide ((i : Int) + 1 < 2) = true := decide_eq_true (by omega)
        have e0 : ((i : Int) + 1).toNat = i + 1 := by omega
        have e00 : 0 ≤ (i : Int) + 1 := by omega
        have e000 : (i : Int) + 1 < (s.size : Int) := by omega
        have e1 : IntKind.i64.wrap (8 * ((i : Int) + 1)) = 8 * ((i : Int) + 1) := IntWalk.i64_in _ (by omega)
        have e2 : IntKind.i64.wrap (8 * ((i : Int) + 1) - 4) = 8 * ((i : Int) + 1) - 4 := IntWalk.i64_in _ (by omega)
        have e3 : 0 ≤ 8 * ((i : Int) + 1) - 4 := by omega
        have e4 : (8 * ((i : Int) + 1) - 4).toNat = 8 * i + 4 := by omega
        have e5 : 8 * ((i : Int) + 1) - 4 ≤ 64 := by omega
        have HG := Lib.hid hg
        clear hg E0
        go_upto_region 13 with fail
        go_wp2
        go_roundg g
        case measure => omega
        case rel => exact ⟨i + 1, by have := HG.out; omega, by go_num, rfl, rfl⟩
      · obtain rfl : i = 1 := by omega
        have hn := num3 s 1 1 (by omega)
        have hlow : 0 ≤ lo + 16 * numAt s 1 1 ∧ lo + 16 * numAt s 1 1 < 1000000000 := by omega
        have E := E0
        clear E0 hn hg hi
        generalize lo + 16 * numAt s 1 1 = t at *
        have dd : decide (((1 : Nat) : Int) + 1 < 2) = false := by decide
        by_cases q3 : t < 2
        · have F : Hid (tailN s 2 t = (0, 0, 3)) := by show _ = _; unfold tailN; rw [if_pos (by omega)]
          have dq : decide (t < 2) = true := decide_eq_true q3
          go_upto_region 14 with fail
          go_quiet (fail)
          go_wp2
          go_ret3
          exact TrN.mk (by rw [E.out, F.out]) (bel2 (Below.refl _ _) (Below.drewN (Below.refl _ _) _))
        · have dq : decide (t < 2) = false := decide_eq_false q3
          obtain ⟨r, hr⟩ : ∃ r : Bool, ((strOfNums (lenL (t - 2))).toList == (s.extract 0 2).toList) = r := ⟨_, rfl⟩
          have F := Lib.hid (tail_fin s 2 t w r (by omega) (by simpa using hr))
          have P := fun w' => alen_nil (t - 2) w' (by omega)
          have hw : IntKind.i64.wrap (t - 2) = t - 2 := IntWalk.i64_in _ (by omega)
          have hsz : 2 ≤ s.size := by omega
          have hsz2 : (2 : Int) ≤ (s.size : Int) := by omega
          rw [← E.out] at F
          clear E
          have HW := Lib.hid hw
          clear hw q3
          go_upto_region 14 with fail
          have hw := HW.out
          have KP : Hid (∀ w' : World, Below w.drew.heap.size w.drew w' → True) := fun _ _ => trivial
          refine wp_region_noPanic ?_
          refine wp_region_held_drew (S := fun _ => True) (by kernel_rfl) (KP.out _ (Below.refl _ _)) (fun hHeld => ?_)
          refine wpAnyH_take (i := 0) (v := ?vc0) (by simp only [List.getElem?_toArray]; rfl) (by kernel_rfl) (by kernel_rfl) (by kernel_rfl) (fun _ _ _ h => h) (Or.inl ⟨by rfl, ?yc0⟩) hHeld ?_
          case yc0 => (intro w hSw; go_simp <;> with_reducible rfl)
          simp only [Act.put, List.setIfInBounds_toArray, List.set_cons_zero, List.set_cons_succ]
          refine wpAnyH_take (i := 1) (v := ?vc1) (by simp only [List.getElem?_toArray]; rfl) (by kernel_rfl) (by kernel_rfl) (by kernel_rfl) (fun _ _ _ h => h) (Or.inl ⟨by rfl, ?yc1⟩) hHeld ?_
          case yc1 => (intro w hSw; go_simp <;> with_reducible rfl)
          simp only [Act.put, List.setIfInBounds_toArray, List.set_cons_zero, List.set_cons_succ]
          refine wpAnyH_take (i := 2) (v := ?vc2) (by simp only [List.getElem?_toArray]; rfl) (by kernel_rfl) (by kernel_rfl) (by kernel_rfl) (fun _ _ _ h => h) (Or.inl ⟨by rfl, ?yc2⟩) hHeld ?_
          case yc2 => (intro w hSw; go_simp <;> with_reducible rfl)
          simp only [Act.put, List.setIfInBounds_toArray, List.set_cons_zero, List.set_cons_succ]
          refine wpAnyH_take (i := 3) (v := ?vc3) (by simp only [List.getElem?_toArray]; rfl) (by kernel_rfl) (by kernel_rfl) (by kernel_rfl) (fun _ _ _ h => h) (Or.inl ⟨by rfl, ?yc3⟩) hHeld ?_
          case yc3 => (intro w hSw; go_simp <;> with_reducible rfl)
          simp only [Act.put, List.setIfInBounds_toArray, List.set_cons_zero, List.set_cons_succ]
          refine wpAnyH_take (i := 4) (v := ?vc4) (by simp only [List.getElem?_toArray]; rfl) (by kernel_rfl) (by kernel_rfl) (by kernel_rfl) (fun _ _ _ h => h) (Or.inl ⟨by rfl, ?yc4⟩) hHeld ?_
          case yc4 => (intro w hSw; go_simp <;> with_reducible rfl)
          simp only [Act.put, List.setIfInBounds_toArray, List.set_cons_zero, List.set_cons_succ]
          refine wpAnyH_take (i := 5) (v := ?vc5) (by simp only [List.getElem?_toArray]; rfl) (by kernel_rfl) (by kernel_rfl) (by kernel_rfl) (fun _ _ _ h => h) (Or.inl ⟨by rfl, ?yc5⟩) hHeld ?_
          case yc5 => (intro w hSw; go_simp <;> with_reducible rfl)
          simp only [Act.put, List.setIfInBounds_toArray, List.set_cons_zero, List.set_cons_succ]
          refine wpAnyH_take (i := 6) (v := ?vc6) (by simp only [List.getElem?_toArray]; rfl) (by kernel_rfl) (by kernel_rfl) (by kernel_rfl) (fun _ _ _ h => h) (Or.inl ⟨by rfl, ?yc6⟩) hHeld ?_
          case yc6 => (intro w hSw; go_simp <;> with_reducible rfl)
          simp only [Act.put, List.setIfInBounds_toArray, List.set_cons_zero, List.set_cons_succ]
          refine wpAnyH_take (i := 8) (v := ?vc8) (by simp only [List.getElem?_toArray]; rfl) (by kernel_rfl) (by kernel_rfl) (by kernel_rfl) (fun _ _ _ h => h) (Or.inl ⟨by rfl, ?yc8⟩) hHeld ?_
          case yc8 => (intro w hSw; go_simp <;> with_reducible rfl)
          simp only [Act.put, List.setIfInBounds_toArray, List.set_cons_zero, List.set_cons_succ]
          refine wpAnyH_take (i := 9) (v := ?vc9) (by simp only [List.getElem?_toArray]; rfl) (by kernel_rfl) (by kernel_rfl) (by kernel_rfl) (fun _ _ _ h => h) (Or.inl ⟨by rfl, ?yc9⟩) hHeld ?_
          case yc9 => (intro w hSw; go_simp <;> with_reducible rfl)
          simp only [Act.put, List.setIfInBounds_toArray, List.set_cons_zero, List.set_cons_succ]
          refine wpAnyH_take (i := 10) (v := ?vc10) (by simp only [List.getElem?_toArray]; rfl) (by kernel_rfl) (by kernel_rfl) (by kernel_rfl) (fun _ _ _ h => h) (Or.inl ⟨by rfl, ?yc10⟩) hHeld ?_
          case yc10 => (intro w hSw; go_simp <;> with_reducible rfl)
          simp only [Act.put, List.setIfInBounds_toArray, List.set_cons_zero, List.set_cons_succ]
          refine wpAnyH_ready (rs := [7]) (by kernel_rfl) (by simp) ?_
          refine AllReadyH.cons (by simp only [List.getElem?_toArray]; rfl) (fun K hK => ?_) ?_
          rotate_left
          · exact AllReadyH.nil
          go_simp
          go_at_call 13
          refine (P _).mono ?_
          rintro e w9 ⟨rfl, hb9⟩
          go_wp2_with fail
          refine hK.out _ _ ?_ (fun hHeld => ?_)
          · exact trivial
          clear hK K
          refine wpAnyH_take (i := 11) (v := ?vc11) (by simp only [List.getElem?_toArray]; rfl) (by kernel_rfl) (by kernel_rfl) (by kernel_rfl) (fun _ _ _ h => h) (Or.inl ⟨by rfl, ?yc11⟩) hHeld ?_
          case yc11 => (intro w hSw; go_simp <;> with_reducible rfl)
          simp only [Act.put, List.setIfInBounds_toArray, List.set_cons_zero, List.set_cons_succ]
          refine wpAnyH_take (i := 12) (v := ?vc12) (by simp only [List.getElem?_toArray]; rfl) (by kernel_rfl) (by kernel_rfl) (by kernel_rfl) (fun _ _ _ h => h) (Or.inl ⟨by rfl, ?yc12⟩) hHeld ?_
          case yc12 => (intro w hSw; go_simp <;> with_reducible rfl)
          simp only [Act.put, List.setIfInBounds_toArray, List.set_cons_zero, List.set_cons_succ]
          refine wpAnyH_done (by kernel_rfl) ?_ _
          refine NoPanic.normal ?_
          have HB := Lib.hid hb9
          clear hb9 hw KP
          cases r
          all_goals
            go_wp2
            go_ret3
            exact F.out _ (bel2 (bel2 (Below.refl _ _) ((Below.refl _ _).drew)) HB.out)
  · by_cases q1 : 15 < bt s 0 % 64
    · have F : Hid (decN s = (0, 0, 3)) := by show _ = _; rw [D.out, if_neg (by omega), if_pos q1]
      have dq : decide (15 < bt s 0 % 64) = true := decide_eq_true q1
      clear D
      generalize bt s 0 = y at *
      rw [dq] at a48
      generalize y % 64 = t at *
      go_enter Try.func14, Try.ntmps14
      go_wp2
      go_ret3
      exact TrN.mk F.out (Below.refl _ _)
    have dq1 : decide (15 < bt s 0 % 64) = false := decide_eq_false q1
    rw [dq1] at a48
    by_cases q2 : s.size < 3
    · have F : Hid (decN s = (0, 0, 4)) := by show _ = _; rw [D.out, if_neg (by omega), if_neg q1, if_pos (by omega)]
      clear D
      generalize bt s 0 = y at *
      generalize y % 64 = t at *
      go_enter Try.func14, Try.ntmps14
      go_wp2
      go_ret3
      exact TrN.mk F.out (Below.refl _ _)
    have E0 : Hid (decN s = tailN s 3 (bt s 0 % 64 % 16 + 16 * numAt s 1 2)) := by show _ = _; rw [D.out, if_neg (by omega), if_neg q1, if_neg (by omega), hk]; rfl
    have e16 : bt s 0 % 64 % 16 = bt s 0 % 64 := by omega
    rw [e16] at E0 hm16
    clear D e16
    have hlo : 0 ≤ bt s 0 % 64 ∧ bt s 0 % 64 < 16 := by omega
    generalize bt s 0 = y at *
    generalize y % 64 = lo at *
    clear a48 a15 hm16
    go_enter Try.func14, Try.ntmps14
    go_wp2_with fail
    go_loopg [7, 6] 2 (fun g vi vt wr => ∃ i : Nat, i + g = 2 ∧ vi = .int .i64 ((i : Int) + 1) ∧ vt = .int .i64 (lo + 16 * numAt s 1 i) ∧ w = wr)
    case atStart => exact ⟨0, by omega, rfl, by simp [numAt], rfl⟩
    case round =>
      obtain ⟨i, hg, rfl, rfl, rfl⟩ := hrel
      by_cases hi : i < 2
      · obtain ⟨g, rfl⟩ : ∃ g, gk = g + 1 := ⟨gk - 1, by omega⟩
        have hii : i + 1 < s.size := by omega
        have hai := bt_at s (i + 1) hii
        obtain ⟨z1, z0, z2⟩ := sh_step s i lo (by omega) hlo
        have z3 : wrap64 (bt s (i + 1) * 2 ^ (8 * i + 4)) = bt s (i + 1) * 2 ^ (8 * i + 4) := z0
        have hbb := bt_bd s (i + 1)
        have z4 : wrap64 (bt s (i + 1)) = bt s (i + 1) := IntWalk.wrap64_in _ (by omega)
        have z5 : IntKind.i64.wrap (bt s (i + 1)) = bt s (i + 1) := IntWalk.i64_in _ (by omega)
        have dd : decide ((i : Int) + 1 < 3) = true := decide_eq_true (by omega)
        have e0 : ((i : Int) + 1).toNat = i + 1 := by omega
        have e00 : 0 ≤ (i : Int) + 1 := by omega
        have e000 : (i : Int) + 1 < (s.size : Int) := by omega
        have e1 : IntKind.i64.wrap (8 * ((i : Int) + 1)) = 8 * ((i : Int) + 1) := IntWalk.i64_in _ (by omega)
        have e2 : IntKind.i64.wrap (8 * ((i : Int) + 1) - 4) = 8 * ((i : Int) + 1) - 4 := IntWalk.i64_in _ (by omega)
        have e3 : 0 ≤ 8 * ((i : Int) + 1) - 4 := by omega
        have e4 : (8 * ((i : Int) + 1) - 4).toNat = 8 * i + 4 := by omega
        have e5 : 8 * ((i : Int) + 1) - 4 ≤ 64 := by omega
        have HG := Lib.hid hg
        clear hg E0
        go_upto_region 13 with fail
        go_wp2
        go_roundg g
        case measure => omega
        case rel => exact ⟨i + 1, by have := HG.out; omega, by go_num, rfl, rfl⟩
      · obtain rfl : i = 2 := by omega
        have hn := num3 s 1 2 (by omega)
        have hlow : 0 ≤ lo + 16 * numAt s 1 2 ∧ lo + 16 * numAt s 1 2 < 1000000000 := by omega
        have E := E0
        clear E0 hn hg hi
        generalize lo + 16 * numAt s 1 2 = t at *
        have dd : decide (((2 : Nat) : Int) + 1 < 3) = false := by decide
        by_cases q3 : t < 3
        · have F : Hid (tailN s 3 t = (0, 0, 3)) := by show _ = _; unfold tailN; rw [if_pos (by omega)]
          have dq : decide (t < 3) = true := decide_eq_true q3
          go_upto_region 14 with fail
          go_quiet (fail)
          go_wp2
          go_ret3
          exact TrN.mk (by rw [E.out, F.out]) (bel2 (Below.refl _ _) (Below.drewN (Below.refl _ _) _))
        · have dq : decide (t < 3) = false := decide_eq_false q3
          obtain ⟨r, hr⟩ : ∃ r : Bool, ((strOfNums (lenL (t - 3))).toList == (s.extract 0 3).toList) = r := ⟨_, rfl⟩
          have F := Lib.hid (tail_fin s 3 t w r (by omega) (by simpa using hr))
          have P := fun w' => alen_nil (t - 3) w' (by omega)
          have hw : IntKind.i64.wrap (t - 3) = t - 3 := IntWalk.i64_in _ (by omega)
          have hsz : 3 ≤ s.size := by omega
          have hsz2 : (3 : Int) ≤ (s.size : Int) := by omega
          rw [← E.out] at F
          clear E
          have HW := Lib.hid hw
          clear hw q3
          go_upto_region 14 with fail
          have hw := HW.out
          have KP : Hid (∀ w' : World, Below w.drew.heap.size w.drew w' → True) := fun _ _ => trivial
          refine wp_region_noPanic ?_
          refine wp_region_held_drew (S := fun _ => True) (by kernel_rfl) (KP.out _ (Below.refl _ _)) (fun hHeld => ?_)
          refine wpAnyH_take (i := 0) (v := ?vd0) (by simp only [List.getElem?_toArray]; rfl) (by kernel_rfl) (by kernel_rfl) (by kernel_rfl) (fun _ _ _ h => h) (Or.inl ⟨by rfl, ?yd0⟩) hHeld ?_
          case yd0 => (intro w hSw; go_simp <;> with_reducible rfl)
          simp only [Act.put, List.setIfInBounds_toArray, List.set_cons_zero, List.set_cons_succ]
          refine wpAnyH_take (i := 1) (v := ?vd1) (by simp only [List.getElem?_toArray]; rfl) (by kernel_rfl) (by kernel_rfl) (by kernel_rfl) (fun _ _ _ h => h) (Or.inl ⟨by rfl, ?yd1⟩) hHeld ?_
          case yd1 => (intro w hSw; go_simp <;> with_reducible rfl)
          simp only [Act.put, List.setIfInBounds_toArray, List.set_cons_zero, List.set_cons_succ]
          refine wpAnyH_take (i := 2) (v := ?vd2) (by simp only [List.getElem?_toArray]; rfl) (by kernel_rfl) (by kernel_rfl) (by kernel_rfl) (fun _ _ _ h => h) (Or.inl ⟨by rfl, ?yd2⟩) hHeld ?_
          case yd2 => (intro w hSw; go_simp <;> with_reducible rfl)
          simp only [Act.put, List.setIfInBounds_toArray, List.set_cons_zero, List.set_cons_succ]
          refine wpAnyH_take (i := 3) (v := ?vd3) (by simp only [List.getElem?_toArray]; rfl) (by kernel_rfl) (by kernel_rfl) (by kernel_rfl) (fun _ _ _ h => h) (Or.inl ⟨by rfl, ?yd3⟩) hHeld ?_
          case yd3 => (intro w hSw; go_simp <;> with_reducible rfl)
          simp only [Act.put, List.setIfInBounds_toArray, List.set_cons_zero, List.set_cons_succ]
          refine wpAnyH_take (i := 4) (v := ?vd4) (by simp only [List.getElem?_toArray]; rfl) (by kernel_rfl) (by kernel_rfl) (by kernel_rfl) (fun _ _ _ h => h) (Or.inl ⟨by rfl, ?yd4⟩) hHeld ?_
          case yd4 => (intro w hSw; go_simp <;> with_reducible rfl)
          simp only [Act.put, List.setIfInBounds_toArray, List.set_cons_zero, List.set_cons_succ]
          refine wpAnyH_take (i := 5) (v := ?vd5) (by simp only [List.getElem?_toArray]; rfl) (by kernel_rfl) (by kernel_rfl) (by kernel_rfl) (fun _ _ _ h => h) (Or.inl ⟨by rfl, ?yd5⟩) hHeld ?_
          case yd5 => (intro w hSw; go_simp <;> with_reducible rfl)
          simp only [Act.put, List.setIfInBounds_toArray, List.set_cons_zero, List.set_cons_succ]
          refine wpAnyH_take (i := 6) (v := ?vd6) (by simp only [List.getElem?_toArray]; rfl) (by kernel_rfl) (by kernel_rfl) (by kernel_rfl) (fun _ _ _ h => h) (Or.inl ⟨by rfl, ?yd6⟩) hHeld ?_
          case yd6 => (intro w hSw; go_simp <;> with_reducible rfl)
          simp only [Act.put, List.setIfInBounds_toArray, List.set_cons_zero, List.set_cons_succ]
          refine wpAnyH_take (i := 8) (v := ?vd8) (by simp only [List.getElem?_toArray]; rfl) (by kernel_rfl) (by kernel_rfl) (by kernel_rfl) (fun _ _ _ h => h) (Or.inl ⟨by rfl, ?yd8⟩) hHeld ?_
          case yd8 => (intro w hSw; go_simp <;> with_reducible rfl)
          simp only [Act.put, List.setIfInBounds_toArray, List.set_cons_zero, List.set_cons_succ]
          refine wpAnyH_take (i := 9) (v := ?vd9) (by simp only [List.getElem?_toArray]; rfl) (by kernel_rfl) (by kernel_rfl) (by kernel_rfl) (fun _ _ _ h => h) (Or.inl ⟨by rfl, ?yd9⟩) hHeld ?_
          case yd9 => (intro w hSw; go_simp <;> with_reducible rfl)
          simp only [Act.put, List.setIfInBounds_toArray, List.set_cons_zero, List.set_cons_succ]
          refine wpAnyH_take (i := 10) (v := ?vd10) (by simp only [List.getElem?_toArray]; rfl) (by kernel_rfl) (by kernel_rfl) (by kernel_rfl) (fun _ _ _ h => h) (Or.inl ⟨by rfl, ?yd10⟩) hHeld ?_
          case yd10 => (intro w hSw; go_simp <;> with_reducible rfl)
          simp only [Act.put, List.setIfInBounds_toArray, List.set_cons_zero, List.set_cons_succ]
          refine wpAnyH_ready (rs := [7]) (by kernel_rfl) (by simp) ?_
          refine AllReadyH.cons (by simp only [List.getElem?_toArray]; rfl) (fun K hK => ?_) ?_
          rotate_left
          · exact AllReadyH.nil
          go_simp
          go_at_call 13
          refine (P _).mono ?_
          rintro e w9 ⟨rfl, hb9⟩
          go_wp2_with fail
          refine hK.out _ _ ?_ (fun hHeld => ?_)
          · exact trivial
          clear hK K
          refine wpAnyH_take (i := 11) (v := ?vd11) (by simp only [List.getElem?_toArray]; rfl) (by kernel_rfl) (by kernel_rfl) (by kernel_rfl) (fun _ _ _ h => h) (Or.inl ⟨by rfl, ?yd11⟩) hHeld ?_
          case yd11 => (intro w hSw; go_simp <;> with_reducible rfl)
          simp only [Act.put, List.setIfInBounds_toArray, List.set_cons_zero, List.set_cons_succ]
          refine wpAnyH_take (i := 12) (v := ?vd12) (by simp only [List.getElem?_toArray]; rfl) (by kernel_rfl) (by kernel_rfl) (by kernel_rfl) (fun _ _ _ h => h) (Or.inl ⟨by rfl, ?yd12⟩) hHeld ?_
          case yd12 => (intro w hSw; go_simp <;> with_reducible rfl)
          simp only [Act.put, List.setIfInBounds_toArray, List.set_cons_zero, List.set_cons_succ]
          refine wpAnyH_done (by kernel_rfl) ?_ _
          refine NoPanic.normal ?_
          have HB := Lib.hid hb9
          clear hb9 hw KP
          cases r
          all_goals
            go_wp2
            go_ret3
            exact F.out _ (bel2 (bel2 (Below.refl _ _) ((Below.refl _ _).drew)) HB.out)
  · by_cases q1 : 15 < bt s 0 % 64
    · have F : Hid (decN s = (0, 0, 3)) := by show _ = _; rw [D.out, if_neg (by omega), if_pos q1]
      have dq : decide (15 < bt s 0 % 64) = true := decide_eq_true q1
      clear D
      generalize bt s 0 = y at *
      rw [dq] at a48
      generalize y % 64 = t at *
      go_enter Try.func14, Try.ntmps14
      go_wp2
      go_ret3
      exact TrN.mk F.out (Below.refl _ _)
    have dq1 : decide (15 < bt s 0 % 64) = false := decide_eq_false q1
    rw [dq1] at a48
    by_cases q2 : s.size < 4
    · have F : Hid (decN s = (0, 0, 4)) := by show _ = _; rw [D.out, if_neg (by omega), if_neg q1, if_pos (by omega)]
      clear D
      generalize bt s 0 = y at *
      generalize y % 64 = t at *
      go_enter Try.func14, Try.ntmps14
      go_wp2
      go_ret3
      exact TrN.mk F.out (Below.refl _ _)
    have E0 : Hid (decN s = tailN s 4 (bt s 0 % 64 % 16 + 16 * numAt s 1 3)) := by show _ = _; rw [D.out, if_neg (by omega), if_neg q1, if_neg (by omega), hk]; rfl
    have e16 : bt s 0 % 64 % 16 = bt s 0 % 64 := by omega
    rw [e16] at E0 hm16
    clear D e16
    have hlo : 0 ≤ bt s 0 % 64 ∧ bt s 0 % 64 < 16 := by omega
    generalize bt s 0 = y at *
    generalize y % 64 = lo at *
    clear a48 a15 hm16
    go_enter Try.func14, Try.ntmps14
    go_wp2_with fail
    go_loopg [7, 6] 3 (fun g vi vt wr => ∃ i : Nat, i + g = 3 ∧ vi = .int .i64 ((i : Int) + 1) ∧ vt = .int .i64 (lo + 16 * numAt s 1 i) ∧ w = wr)
    case atStart => exact ⟨0, by omega, rfl, by simp [numAt], rfl⟩
    case round =>
      obtain ⟨i, hg, rfl, rfl, rfl⟩ := hrel
      by_cases hi : i < 3
      · obtain ⟨g, rfl⟩ : ∃ g, gk = g + 1 := ⟨gk - 1, by omega⟩
        have hii : i + 1 < s.size := by omega
        have hai := bt_at s (i + 1) hii
        obtain ⟨z1, z0, z2⟩ := sh_step s i lo (by omega) hlo
        have z3 : wrap64 (bt s (i + 1) * 2 ^ (8 * i + 4)) = bt s (i + 1) * 2 ^ (8 * i + 4) := z0
        have hbb := bt_bd s (i + 1)
        have z4 : wrap64 (bt s (i + 1)) = bt s (i + 1) := IntWalk.wrap64_in _ (by omega)
        have z5 : IntKind.i64.wrap (bt s (i + 1)) = bt s (i + 1) := IntWalk.i64_in _ (by omega)
        have dd : decide ((i : Int) + 1 < 4) = true := decide_eq_true (by omega)
        have e0 : ((i : Int) + 1).toNat = i + 1 := by omega
        have e00 : 0 ≤ (i : Int) + 1 := by omega
        have e000 : (i : Int) + 1 < (s.size : Int) := by omega
        have e1 : IntKind.i64.wrap (8 * ((i : Int) + 1)) = 8 * ((i : Int) + 1) := IntWalk.i64_in _ (by omega)
        have e2 : IntKind.i64.wrap (8 * ((i : Int) + 1) - 4) = 8 * ((i : Int) + 1) - 4 := IntWalk.i64_in _ (by omega)
        have e3 : 0 ≤ 8 * ((i : Int) + 1) - 4 := by omega
        have e4 : (8 * ((i : Int) + 1) - 4).toNat = 8 * i + 4 := by omega
        have e5 : 8 * ((i : Int) + 1) - 4 ≤ 64 := by omega
        have HG := Lib.hid hg
        clear hg E0
        go_upto_region 13 with fail
        go_wp2
        go_roundg g
        case measure => omega
        case rel => exact ⟨i + 1, by have := HG.out; omega, by go_num, rfl, rfl⟩
      · obtain rfl : i = 3 := by omega
        have hn := num3 s 1 3 (by omega)
        have hlow : 0 ≤ lo + 16 * numAt s 1 3 ∧ lo + 16 * numAt s 1 3 < 1000000000 := by omega
        have E := E0
        clear E0 hn hg hi
        generalize lo + 16 * numAt s 1 3 = t at *
        have dd : decide (((3 : Nat) : Int) + 1 < 4) = false := by decide
        by_cases q3 : t < 4
        · have F : Hid (tailN s 4 t = (0, 0, 3)) := by show _ = _; unfold tailN; rw [if_pos (by omega)]
          have dq : decide (t < 4) = true := decide_eq_true q3
          go_upto_region 14 with fail
          go_quiet (fail)
          go_wp2
          go_ret3
          exact TrN.mk (by rw [E.out, F.out]) (bel2 (Below.refl _ _) (Below.drewN (Below.refl _ _) _))
        · have dq : decide (t < 4) = false := decide_eq_false q3
          obtain ⟨r, hr⟩ : ∃ r : Bool, ((strOfNums (lenL (t - 4))).toList == (s.extract 0 4).toList) = r := ⟨_, rfl⟩
          have F := Lib.hid (tail_fin s 4 t w r (by omega) (by simpa using hr))
          have P := fun w' => alen_nil (t - 4) w' (by omega)
          have hw : IntKind.i64.wrap (t - 4) = t - 4 := IntWalk.i64_in _ (by omega)
          have hsz : 4 ≤ s.size := by omega
          have hsz2 : (4 : Int) ≤ (s.size : Int) := by omega
          rw [← E.out] at F
          clear E
          have HW := Lib.hid hw
          clear hw q3
          go_upto_region 14 with fail
          have hw := HW.out
          have KP : Hid (∀ w' : World, Below w.drew.heap.size w.drew w' → True) := fun _ _ => trivial
          refine wp_region_noPanic ?_
          refine wp_region_held_drew (S := fun _ => True) (by kernel_rfl) (KP.out _ (Below.refl _ _)) (fun hHeld => ?_)
          refine wpAnyH_take (i := 0) (v := ?ve0) (by simp only [List.getElem?_toArray]; rfl) (by kernel_rfl) (by kernel_rfl) (by kernel_rfl) (fun _ _ _ h => h) (Or.inl ⟨by rfl, ?ye0⟩) hHeld ?_
          case ye0 => (intro w hSw; go_simp <;> with_reducible rfl)
          simp only [Act.put, List.setIfInBounds_toArray, List.set_cons_zero, List.set_cons_succ]
          refine wpAnyH_take (i := 1) (v := ?ve1) (by simp only [List.getElem?_toArray]; rfl) (by kernel_rfl) (by kernel_rfl) (by kernel_rfl) (fun _ _ _ h => h) (Or.inl ⟨by rfl, ?ye1⟩) hHeld ?_
          case ye1 => (intro w hSw; go_simp <;> with_reducible rfl)
          simp only [Act.put, List.setIfInBounds_toArray, List.set_cons_zero, List.set_cons_succ]
          refine wpAnyH_take (i := 2) (v := ?ve2) (by simp only [List.getElem?_toArray]; rfl) (by kernel_rfl) (by kernel_rfl) (by kernel_rfl) (fun _ _ _ h => h) (Or.inl ⟨by rfl, ?ye2⟩) hHeld ?_
          case ye2 => (intro w hSw; go_simp <;> with_reducible rfl)
          simp only [Act.put, List.setIfInBounds_toArray, List.set_cons_zero, List.set_cons_succ]
          refine wpAnyH_take (i := 3) (v := ?ve3) (by simp only [List.getElem?_toArray]; rfl) (by kernel_rfl) (by kernel_rfl) (by kernel_rfl) (fun _ _ _ h => h) (Or.inl ⟨by rfl, ?ye3⟩) hHeld ?_
          case ye3 => (intro w hSw; go_simp <;> with_reducible rfl)
          simp only [Act.put, List.setIfInBounds_toArray, List.set_cons_zero, List.set_cons_succ]
          refine wpAnyH_take (i := 4) (v := ?ve4) (by simp only [List.getElem?_toArray]; rfl) (by kernel_rfl) (by kernel_rfl) (by kernel_rfl) (fun _ _ _ h => h) (Or.inl ⟨by rfl, ?ye4⟩) hHeld ?_
          case ye4 => (intro w hSw; go_simp <;> with_reducible rfl)
          simp only [Act.put, List.setIfInBounds_toArray, List.set_cons_zero, List.set_cons_succ]
          refine wpAnyH_take (i := 5) (v := ?ve5) (by simp only [List.getElem?_toArray]; rfl) (by kernel_rfl) (by kernel_rfl) (by kernel_rfl) (fun _ _ _ h => h) (Or.inl ⟨by rfl, ?ye5⟩) hHeld ?_
          case ye5 => (intro w hSw; go_simp <;> with_reducible rfl)
          simp only [Act.put, List.setIfInBounds_toArray, List.set_cons_zero, List.set_cons_succ]
          refine wpAnyH_take (i := 6) (v := ?ve6) (by simp only [List.getElem?_toArray]; rfl) (by kernel_rfl) (by kernel_rfl) (by kernel_rfl) (fun _ _ _ h => h) (Or.inl ⟨by rfl, ?ye6⟩) hHeld ?_
          case ye6 => (intro w hSw; go_simp <;> with_reducible rfl)
          simp only [Act.put, List.setIfInBounds_toArray, List.set_cons_zero, List.set_cons_succ]
          refine wpAnyH_take (i := 8) (v := ?ve8) (by simp only [List.getElem?_toArray]; rfl) (by kernel_rfl) (by kernel_rfl) (by kernel_rfl) (fun _ _ _ h => h) (Or.inl ⟨by rfl, ?ye8⟩) hHeld ?_
          case ye8 => (intro w hSw; go_simp <;> with_reducible rfl)
          simp only [Act.put, List.setIfInBounds_toArray, List.set_cons_zero, List.set_cons_succ]
          refine wpAnyH_take (i := 9) (v := ?ve9) (by simp only [List.getElem?_toArray]; rfl) (by kernel_rfl) (by kernel_rfl) (by kernel_rfl) (fun _ _ _ h => h) (Or.inl ⟨by rfl, ?ye9⟩) hHeld ?_
          case ye9 => (intro w hSw; go_simp <;> with_reducible rfl)
          simp only [Act.put, List.setIfInBounds_toArray, List.set_cons_zero, List.set_cons_succ]
          refine wpAnyH_take (i := 10) (v := ?ve10) (by simp only [List.getElem?_toArray]; rfl) (by kernel_rfl) (by kernel_rfl) (by kernel_rfl) (fun _ _ _ h => h) (Or.inl ⟨by rfl, ?ye10⟩) hHeld ?_
          case ye10 => (intro w hSw; go_simp <;> with_reducible rfl)
          simp only [Act.put, List.setIfInBounds_toArray, List.set_cons_zero, List.set_cons_succ]
          refine wpAnyH_ready (rs := [7]) (by kernel_rfl) (by simp) ?_
          refine AllReadyH.cons (by simp only [List.getElem?_toArray]; rfl) (fun K hK => ?_) ?_
          rotate_left
          · exact AllReadyH.nil
          go_simp
          go_at_call 13
          refine (P _).mono ?_
          rintro e w9 ⟨rfl, hb9⟩
          go_wp2_with fail
          refine hK.out _ _ ?_ (fun hHeld => ?_)
          · exact trivial
          clear hK K
          refine wpAnyH_take (i := 11) (v := ?ve11) (by simp only [List.getElem?_toArray]; rfl) (by kernel_rfl) (by kernel_rfl) (by kernel_rfl) (fun _ _ _ h => h) (Or.inl ⟨by rfl, ?ye11⟩) hHeld ?_
          case ye11 => (intro w hSw; go_simp <;> with_reducible rfl)
          simp only [Act.put, List.setIfInBounds_toArray, List.set_cons_zero, List.set_cons_succ]
          refine wpAnyH_take (i := 12) (v := ?ve12) (by simp only [List.getElem?_toArray]; rfl) (by kernel_rfl) (by kernel_rfl) (by kernel_rfl) (fun _ _ _ h => h) (Or.inl ⟨by rfl, ?ye12⟩) hHeld ?_
          case ye12 => (intro w hSw; go_simp <;> with_reducible rfl)
          simp only [Act.put, List.setIfInBounds_toArray, List.set_cons_zero, List.set_cons_succ]
          refine wpAnyH_done (by kernel_rfl) ?_ _
          refine NoPanic.normal ?_
          have HB := Lib.hid hb9
          clear hb9 hw KP
          cases r
          all_goals
            go_wp2
            go_ret3
            exact F.out _ (bel2 (bel2 (Below.refl _ _) ((Below.refl _ _).drew)) HB.out)
set_option maxHeartbeats 4000000 in
theorem rln_any (s : ByteArray) (w : World) (hs : s.size ≤ 281474976710656) : Calls Try.prog 15 #[.string s] w (TrN w (decN s)) := by
  by_cases h0 : s.size = 0
  · have F : Hid (decN s = (0, 0, 4)) := by show _ = _; unfold decN; rw [if_pos h0]
    have he := emp_t s h0
    clear h0
    go_enter Try.func15, Try.ntmps15
    go_wp2
    go_ret3
    exact TrN.mk F.out (Below.refl _ _)
  have he := emp_f s h0
  have hs1 : 0 < s.size := by omega
  have ha := bt_at s 0 hs1
  have hb := bt_bd s 0
  have a63 := and63 _ hb
  have a15 := and15b _ hb
  have a48 := and48i _ hb
  have D : Hid (decN s = if bt s 0 / 64 = 0 then tailN s 1 (bt s 0 % 64) else if 15 < bt s 0 % 64 then (0, 0, 3) else if (s.size : Int) < bt s 0 / 64 + 1 then (0, 0, 4) else tailN s ((bt s 0 / 64).toNat + 1) (bt s 0 % 16 + 16 * numAt s 1 (bt s 0 / 64).toNat)) := by show _ = _; unfold decN; rw [if_neg h0]
  clear h0
  have hk3 : bt s 0 / 64 = 0 ∨ bt s 0 / 64 = 1 ∨ bt s 0 / 64 = 2 ∨ bt s 0 / 64 = 3 := by omega
  have hlow : 0 ≤ bt s 0 % 64 ∧ bt s 0 % 64 < 64 := by omega
  have hm16 : bt s 0 % 16 = bt s 0 % 64 % 16 := by omega
  rw [hm16] at D
  rcases hk3 with hk | hk | hk | hk
  · have E : Hid (decN s = tailN s 1 (bt s 0 % 64)) := by show _ = _; rw [D.out, if_pos hk]
    clear a48 a15 hm16
    by_cases hz : bt s 0 = 0
    · have F : Hid (decN s = (0, 0, 3)) := by
        show _ = _
        rw [D.out, if_pos hk]
        unfold tailN
        rw [if_pos (by omega)]
      have ez : (bt s 0 == 0) = true := beq_iff_eq.2 hz
      generalize bt s 0 = y at *
      generalize y % 64 = t at *
      clear D hz
      go_enter Try.func15, Try.ntmps15
      go_wp2
      go_ret3
      exact TrN.mk F.out (Below.refl _ _)
    have ez : (bt s 0 == 0) = false := beq_eq_false_iff_ne.2 hz
    generalize bt s 0 = y at *
    generalize y % 64 = t at *
    clear D
    go_enter Try.func15, Try.ntmps15
    by_cases q3 : t < 1
    · have F : Hid (tailN s 1 t = (0, 0, 3)) := by show _ = _; unfold tailN; rw [if_pos (by omega)]
      have dq : decide (t < 1) = true := decide_eq_true q3
      go_upto_region 11 with fail
      go_quiet (fail)
      go_wp2
      go_ret3
      exact TrN.mk (by rw [E.out, F.out]) (bel2 (Below.refl _ _) (Below.drewN (Below.refl _ _) _))
    · have dq : decide (t < 1) = false := decide_eq_false q3
      obtain ⟨r, hr⟩ : ∃ r : Bool, ((strOfNums (lenL (t - 1))).toList == (s.extract 0 1).toList) = r := ⟨_, rfl⟩
      have F := Lib.hid (tail_fin s 1 t w r (by omega) (by simpa using hr))
      have P := fun w' => rlen_any (t - 1) w' (by omega)
      have hw : IntKind.i64.wrap (t - 1) = t - 1 := IntWalk.i64_in _ (by omega)
      have hsz : 1 ≤ s.size := by omega
      have hsz2 : (1 : Int) ≤ (s.size : Int) := by omega
      rw [← E.out] at F
      clear E
      have HW := Lib.hid hw
      clear hw q3
      go_upto_region 11 with fail
      have hw := HW.out
      have KP : Hid (∀ w' : World, Below w.drew.heap.size w.drew w' → True) := fun _ _ => trivial
      refine wp_region_noPanic ?_
      refine wp_region_held_drew (S := fun _ => True) (by kernel_rfl) (KP.out _ (Below.refl _ _)) (fun hHeld => ?_)
      refine wpAnyH_take (i := 0) (v := ?vf0) (by simp only [List.getElem?_toArray]; rfl) (by kernel_rfl) (by kernel_rfl) (by kernel_rfl) (fun _ _ _ h => h) (Or.inl ⟨by rfl, ?yf0⟩) hHeld ?_
      case yf0 => (intro w hSw; go_simp <;> with_reducible rfl)
      simp only [Act.put, List.setIfInBounds_toArray, List.set_cons_zero, List.set_cons_succ]
      refine wpAnyH_take (i := 1) (v := ?vf1) (by simp only [List.getElem?_toArray]; rfl) (by kernel_rfl) (by kernel_rfl) (by kernel_rfl) (fun _ _ _ h => h) (Or.inl ⟨by rfl, ?yf1⟩) hHeld ?_
      case yf1 => (intro w hSw; go_simp <;> with_reducible rfl)
      simp only [Act.put, List.setIfInBounds_toArray, List.set_cons_zero, List.set_cons_succ]
      refine wpAnyH_take (i := 2) (v := ?vf2) (by simp only [List.getElem?_toArray]; rfl) (by kernel_rfl) (by kernel_rfl) (by kernel_rfl) (fun _ _ _ h => h) (Or.inl ⟨by rfl, ?yf2⟩) hHeld ?_
      case yf2 => (intro w hSw; go_simp <;> with_reducible rfl)
      simp only [Act.put, List.setIfInBounds_toArray, List.set_cons_zero, List.set_cons_succ]
      refine wpAnyH_take (i := 3) (v := ?vf3) (by simp only [List.getElem?_toArray]; rfl) (by kernel_rfl) (by kernel_rfl) (by kernel_rfl) (fun _ _ _ h => h) (Or.inl ⟨by rfl, ?yf3⟩) hHeld ?_
      case yf3 => (intro w hSw; go_simp <;> with_reducible rfl)
      simp only [Act.put, List.setIfInBounds_toArray, List.set_cons_zero, List.set_cons_succ]
      refine wpAnyH_take (i := 4) (v := ?vf4) (by simp only [List.getElem?_toArray]; rfl) (by kernel_rfl) (by kernel_rfl) (by kernel_rfl) (fun _ _ _ h => h) (Or.inl ⟨by rfl, ?yf4⟩) hHeld ?_
      case yf4 => (intro w hSw; go_simp <;> with_reducible rfl)
      simp only [Act.put, List.setIfInBounds_toArray, List.set_cons_zero, List.set_cons_succ]
      refine wpAnyH_take (i := 5) (v := ?vf5) (by simp only [List.getElem?_toArray]; rfl) (by kernel_rfl) (by kernel_rfl) (by kernel_rfl) (fun _ _ _ h => h) (Or.inl ⟨by rfl, ?yf5⟩) hHeld ?_
      case yf5 => (intro w hSw; go_simp <;> with_reducible rfl)
      simp only [Act.put, List.setIfInBounds_toArray, List.set_cons_zero, List.set_cons_succ]
      refine wpAnyH_take (i := 6) (v := ?vf6) (by simp only [List.getElem?_toArray]; rfl) (by kernel_rfl) (by kernel_rfl) (by kernel_rfl) (fun _ _ _ h => h) (Or.inl ⟨by rfl, ?yf6⟩) hHeld ?_
      case yf6 => (intro w hSw; go_simp <;> with_reducible rfl)
      simp only [Act.put, List.setIfInBounds_toArray, List.set_cons_zero, List.set_cons_succ]
      refine wpAnyH_take (i := 8) (v := ?vf8) (by simp only [List.getElem?_toArray]; rfl) (by kernel_rfl) (by kernel_rfl) (by kernel_rfl) (fun _ _ _ h => h) (Or.inl ⟨by rfl, ?yf8⟩) hHeld ?_
      case yf8 => (intro w hSw; go_simp <;> with_reducible rfl)
      simp only [Act.put, List.setIfInBounds_toArray, List.set_cons_zero, List.set_cons_succ]
      refine wpAnyH_take (i := 9) (v := ?vf9) (by simp only [List.getElem?_toArray]; rfl) (by kernel_rfl) (by kernel_rfl) (by kernel_rfl) (fun _ _ _ h => h) (Or.inl ⟨by rfl, ?yf9⟩) hHeld ?_
      case yf9 => (intro w hSw; go_simp <;> with_reducible rfl)
      simp only [Act.put, List.setIfInBounds_toArray, List.set_cons_zero, List.set_cons_succ]
      refine wpAnyH_take (i := 10) (v := ?vf10) (by simp only [List.getElem?_toArray]; rfl) (by kernel_rfl) (by kernel_rfl) (by kernel_rfl) (fun _ _ _ h => h) (Or.inl ⟨by rfl, ?yf10⟩) hHeld ?_
      case yf10 => (intro w hSw; go_simp <;> with_reducible rfl)
      simp only [Act.put, List.setIfInBounds_toArray, List.set_cons_zero, List.set_cons_succ]
      refine wpAnyH_ready (rs := [7]) (by kernel_rfl) (by simp) ?_
      refine AllReadyH.cons (by simp only [List.getElem?_toArray]; rfl) (fun K hK => ?_) ?_
      rotate_left
      · exact AllReadyH.nil
      go_simp
      go_at_call 12
      refine (P _).mono ?_
      rintro e w9 ⟨rfl, hb9⟩
      go_wp2_with fail
      refine hK.out _ _ ?_ (fun hHeld => ?_)
      · exact trivial
      clear hK K
      refine wpAnyH_take (i := 11) (v := ?vf11) (by simp only [List.getElem?_toArray]; rfl) (by kernel_rfl) (by kernel_rfl) (by kernel_rfl) (fun _ _ _ h => h) (Or.inl ⟨by rfl, ?yf11⟩) hHeld ?_
      case yf11 => (intro w hSw; go_simp <;> with_reducible rfl)
      simp only [Act.put, List.setIfInBounds_toArray, List.set_cons_zero, List.set_cons_succ]
      refine wpAnyH_take (i := 12) (v := ?vf12) (by simp only [List.getElem?_toArray]; rfl) (by kernel_rfl) (by kernel_rfl) (by kernel_rfl) (fun _ _ _ h => h) (Or.inl ⟨by rfl, ?yf12⟩) hHeld ?_
      case yf12 => (intro w hSw; go_simp <;> with_reducible rfl)
      simp only [Act.put, List.setIfInBounds_toArray, List.set_cons_zero, List.set_cons_succ]
      refine wpAnyH_done (by kernel_rfl) ?_ _
      refine NoPanic.normal ?_
      have HB := Lib.hid hb9
      clear hb9 hw KP
      cases r
      all_goals
        go_wp2
        go_ret3
        exact F.out _ (bel2 (bel2 (Below.refl _ _) ((Below.refl _ _).drew)) HB.out)
  · by_cases q1 : 15 < bt s 0 % 64
    · have F : Hid (decN s = (0, 0, 3)) := by show _ = _; rw [D.out, if_neg (by omega), if_pos q1]
      have dq : decide (15 < bt s 0 % 64) = true := decide_eq_true q1
      clear D
      generalize bt s 0 = y at *
      rw [dq] at a48
      generalize y % 64 = t at *
      go_enter Try.func15, Try.ntmps15
      go_wp2
      go_ret3
      exact TrN.mk F.out (Below.refl _ _)
    have dq1 : decide (15 < bt s 0 % 64) = false := decide_eq_false q1
    rw [dq1] at a48
    by_cases q2 : s.size < 2
    · have F : Hid (decN s = (0, 0, 4)) := by show _ = _; rw [D.out, if_neg (by omega), if_neg q1, if_pos (by omega)]
      clear D
      generalize bt s 0 = y at *
      generalize y % 64 = t at *
      go_enter Try.func15, Try.ntmps15
      go_wp2
      go_ret3
      exact TrN.mk F.out (Below.refl _ _)
    have E0 : Hid (decN s = tailN s 2 (bt s 0 % 64 % 16 + 16 * numAt s 1 1)) := by show _ = _; rw [D.out, if_neg (by omega), if_neg q1, if_neg (by omega), hk]; rfl
    have e16 : bt s 0 % 64 % 16 = bt s 0 % 64 := by omega
    rw [e16] at E0 hm16
    clear D e16
    have hlo : 0 ≤ bt s 0 % 64 ∧ bt s 0 % 64 < 16 := by omega
    rw [hm16] at a15
    have hn := num3 s 1 1 (by omega)
    have Q := fun w' => rnum_any (s.extract 1 (1 + 1)) w' (by rw [ext_size s 1 (by omega)]; omega)
    rw [ext_size s 1 (by omega), numAt_ext s 1 (by omega)] at Q
    simp only [Nat.reduceAdd] at Q
    have o1 := or_gen (bt s 0 % 64) (numAt s 1 1) 4 (by omega) (by simp; omega) hn.1 (by simp; omega) (by omega)
    simp only [Int.reducePow] at o1
    have o2 : IntKind.i64.wrap (numAt s 1 1) = numAt s 1 1 := IntWalk.i64_in _ (by omega)
    have o3 : IntKind.i64.wrap (numAt s 1 1 * 16) = numAt s 1 1 * 16 := IntWalk.i64_in _ (by omega)
    have o4 : 2 ≤ s.size := by omega
    have o5 : (2 : Int) ≤ (s.size : Int) := by omega
    have o6 : bt s 0 % 64 + numAt s 1 1 * 16 = bt s 0 % 64 + 16 * numAt s 1 1 := by omega
    rw [o6] at o1
    clear o6
    generalize bt s 0 = y at *
    generalize y % 64 = lo at *
    generalize numAt s 1 1 = x at *
    have E := E0
    have hl2 : 0 ≤ lo + 16 * x ∧ lo + 16 * x < 1000000000 := by omega
    clear E0 hm16
    generalize lo + 16 * x = t at *
    have O2 := Lib.hid o2
    have O3 := Lib.hid o3
    clear o2 o3
    go_enter Try.func15, Try.ntmps15
    go_upto_region 10 with fail
    have o2 := O2.out
    have o3 := O3.out
    go_quiet ((go_at_call 22; exact Calls.quiet_of_same ((Q _).mono fun e w' h => ⟨h.1, h.2.symm⟩)))
    clear o1 o2 o3 Q
    have BQ : Hid (Below w.heap.size w (w.drewN nq)) := Below.drewN (Below.refl _ _) nq
    generalize w.drewN nq = wq at *
    by_cases q3 : t < 2
    · have F : Hid (tailN s 2 t = (0, 0, 3)) := by show _ = _; unfold tailN; rw [if_pos (by omega)]
      have dq : decide (t < 2) = true := decide_eq_true q3
      go_upto_region 11 with fail
      go_quiet (fail)
      go_wp2
      go_ret3
      exact TrN.mk (by rw [E.out, F.out]) (bel2 BQ.out (Below.drewN (Below.refl _ _) _))
    · have dq : decide (t < 2) = false := decide_eq_false q3
      obtain ⟨r, hr⟩ : ∃ r : Bool, ((strOfNums (lenL (t - 2))).toList == (s.extract 0 2).toList) = r := ⟨_, rfl⟩
      have F := Lib.hid (tail_fin s 2 t w r (by omega) (by simpa using hr))
      have P := fun w' => rlen_any (t - 2) w' (by omega)
      have hw : IntKind.i64.wrap (t - 2) = t - 2 := IntWalk.i64_in _ (by omega)
      have hsz : 2 ≤ s.size := by omega
      have hsz2 : (2 : Int) ≤ (s.size : Int) := by omega
      rw [← E.out] at F
      clear E
      have HW := Lib.hid hw
      clear hw q3
      go_upto_region 11 with fail
      have hw := HW.out
      have KP : Hid (∀ w' : World, Below wq.drew.heap.size wq.drew w' → True) := fun _ _ => trivial
      refine wp_region_noPanic ?_
      refine wp_region_held_drew (S := fun _ => True) (by kernel_rfl) (KP.out _ (Below.refl _ _)) (fun hHeld => ?_)
      refine wpAnyH_take (i := 0) (v := ?vg0) (by simp only [List.getElem?_toArray]; rfl) (by kernel_rfl) (by kernel_rfl) (by kernel_rfl) (fun _ _ _ h => h) (Or.inl ⟨by rfl, ?yg0⟩) hHeld ?_
      case yg0 => (intro w hSw; go_simp <;> with_reducible rfl)
      simp only [Act.put, List.setIfInBounds_toArray, List.set_cons_zero, List.set_cons_succ]
      refine wpAnyH_take (i := 1) (v := ?vg1) (by simp only [List.getElem?_toArray]; rfl) (by kernel_rfl) (by kernel_rfl) (by kernel_rfl) (fun _ _ _ h => h) (Or.inl ⟨by rfl, ?yg1⟩) hHeld ?_
      case yg1 => (intro w hSw; go_simp <;> with_reducible rfl)
      simp only [Act.put, List.setIfInBounds_toArray, List.set_cons_zero, List.set_cons_succ]
      refine wpAnyH_take (i := 2) (v := ?vg2) (by simp only [List.getElem?_toArray]; rfl) (by kernel_rfl) (by kernel_rfl) (by kernel_rfl) (fun _ _ _ h => h) (Or.inl ⟨by rfl, ?yg2⟩) hHeld ?_
      case yg2 => (intro w hSw; go_simp <;> with_reducible rfl)
      simp only [Act.put, List.setIfInBounds_toArray, List.set_cons_zero, List.set_cons_succ]
      refine wpAnyH_take (i := 3) (v := ?vg3) (by simp only [List.getElem?_toArray]; rfl) (by kernel_rfl) (by kernel_rfl) (by kernel_rfl) (fun _ _ _ h => h) (Or.inl ⟨by rfl, ?yg3⟩) hHeld ?_
      case yg3 => (intro w hSw; go_simp <;> with_reducible rfl)
      simp only [Act.put, List.setIfInBounds_toArray, List.set_cons_zero, List.set_cons_succ]
      refine wpAnyH_take (i := 4) (v := ?vg4) (by simp only [List.getElem?_toArray]; rfl) (by kernel_rfl) (by kernel_rfl) (by kernel_rfl) (fun _ _ _ h => h) (Or.inl ⟨by rfl, ?yg4⟩) hHeld ?_
      case yg4 => (intro w hSw; go_simp <;> with_reducible rfl)
      simp only [Act.put, List.setIfInBounds_toArray, List.set_cons_zero, List.set_cons_succ]
      refine wpAnyH_take (i := 5) (v := ?vg5) (by simp only [List.getElem?_toArray]; rfl) (by kernel_rfl) (by kernel_rfl) (by kernel_rfl) (fun _ _ _ h => h) (Or.inl ⟨by rfl, ?yg5⟩) hHeld ?_
      case yg5 => (intro w hSw; go_simp <;> with_reducible rfl)
      simp only [Act.put, List.setIfInBounds_toArray, List.set_cons_zero, List.set_cons_succ]
      refine wpAnyH_take (i := 6) (v := ?vg6) (by simp only [List.getElem?_toArray]; rfl) (by kernel_rfl) (by kernel_rfl) (by kernel_rfl) (fun _ _ _ h => h) (Or.inl ⟨by rfl, ?yg6⟩) hHeld ?_
      case yg6 => (intro w hSw; go_simp <;> with_reducible rfl)
      simp only [Act.put, List.setIfInBounds_toArray, List.set_cons_zero, List.set_cons_succ]
      refine wpAnyH_take (i := 8) (v := ?vg8) (by simp only [List.getElem?_toArray]; rfl) (by kernel_rfl) (by kernel_rfl) (by kernel_rfl) (fun _ _ _ h => h) (Or.inl ⟨by rfl, ?yg8⟩) hHeld ?_
      case yg8 => (intro w hSw; go_simp <;> with_reducible rfl)
      simp only [Act.put, List.setIfInBounds_toArray, List.set_cons_zero, List.set_cons_succ]
      refine wpAnyH_take (i := 9) (v := ?vg9) (by simp only [List.getElem?_toArray]; rfl) (by kernel_rfl) (by kernel_rfl) (by kernel_rfl) (fun _ _ _ h => h) (Or.inl ⟨by rfl, ?yg9⟩) hHeld ?_
      case yg9 => (intro w hSw; go_simp <;> with_reducible rfl)
      simp only [Act.put, List.setIfInBounds_toArray, List.set_cons_zero, List.set_cons_succ]
      refine wpAnyH_take (i := 10) (v := ?vg10) (by simp only [List.getElem?_toArray]; rfl) (by kernel_rfl) (by kernel_rfl) (by kernel_rfl) (fun _ _ _ h => h) (Or.inl ⟨by rfl, ?yg10⟩) hHeld ?_
      case yg10 => (intro w hSw; go_simp <;> with_reducible rfl)
      simp only [Act.put, List.setIfInBounds_toArray, List.set_cons_zero, List.set_cons_succ]
      refine wpAnyH_ready (rs := [7]) (by kernel_rfl) (by simp) ?_
      refine AllReadyH.cons (by simp only [List.getElem?_toArray]; rfl) (fun K hK => ?_) ?_
      rotate_left
      · exact AllReadyH.nil
      go_simp
      go_at_call 12
      refine (P _).mono ?_
      rintro e w9 ⟨rfl, hb9⟩
      go_wp2_with fail
      refine hK.out _ _ ?_ (fun hHeld => ?_)
      · exact trivial
      clear hK K
      refine wpAnyH_take (i := 11) (v := ?vg11) (by simp only [List.getElem?_toArray]; rfl) (by kernel_rfl) (by kernel_rfl) (by kernel_rfl) (fun _ _ _ h => h) (Or.inl ⟨by rfl, ?yg11⟩) hHeld ?_
      case yg11 => (intro w hSw; go_simp <;> with_reducible rfl)
      simp only [Act.put, List.setIfInBounds_toArray, List.set_cons_zero, List.set_cons_succ]
      refine wpAnyH_take (i := 12) (v := ?vg12) (by simp only [List.getElem?_toArray]; rfl) (by kernel_rfl) (by kernel_rfl) (by kernel_rfl) (fun _ _ _ h => h) (Or.inl ⟨by rfl, ?yg12⟩) hHeld ?_
      case yg12 => (intro w hSw; go_simp <;> with_reducible rfl)
      simp only [Act.put, List.setIfInBounds_toArray, List.set_cons_zero, List.set_cons_succ]
      refine wpAnyH_done (by kernel_rfl) ?_ _
      refine NoPanic.normal ?_
      have HB := Lib.hid hb9
      clear hb9 hw KP
      cases r
      all_goals
        go_wp2
        go_ret3
        exact F.out _ (bel2 (bel2 BQ.out ((Below.refl _ _).drew)) HB.out)
  · by_cases q1 : 15 < bt s 0 % 64
    · have F : Hid (decN s = (0, 0, 3)) := by show _ = _; rw [D.out, if_neg (by omega), if_pos q1]
      have dq : decide (15 < bt s 0 % 64) = true := decide_eq_true q1
      clear D
      generalize bt s 0 = y at *
      rw [dq] at a48
      generalize y % 64 = t at *
      go_enter Try.func15, Try.ntmps15
      go_wp2
      go_ret3
      exact TrN.mk F.out (Below.refl _ _)
    have dq1 : decide (15 < bt s 0 % 64) = false := decide_eq_false q1
    rw [dq1] at a48
    by_cases q2 : s.size < 3
    · have F : Hid (decN s = (0, 0, 4)) := by show _ = _; rw [D.out, if_neg (by omega), if_neg q1, if_pos (by omega)]
      clear D
      generalize bt s 0 = y at *
      generalize y % 64 = t at *
      go_enter Try.func15, Try.ntmps15
      go_wp2
      go_ret3
      exact TrN.mk F.out (Below.refl _ _)
    have E0 : Hid (decN s = tailN s 3 (bt s 0 % 64 % 16 + 16 * numAt s 1 2)) := by show _ = _; rw [D.out, if_neg (by omega), if_neg q1, if_neg (by omega), hk]; rfl
    have e16 : bt s 0 % 64 % 16 = bt s 0 % 64 := by omega
    rw [e16] at E0 hm16
    clear D e16
    have hlo : 0 ≤ bt s 0 % 64 ∧ bt s 0 % 64 < 16 := by omega
    rw [hm16] at a15
    have hn := num3 s 1 2 (by omega)
    have Q := fun w' => rnum_any (s.extract 1 (1 + 2)) w' (by rw [ext_size s 2 (by omega)]; omega)
    rw [ext_size s 2 (by omega), numAt_ext s 2 (by omega)] at Q
    simp only [Nat.reduceAdd] at Q
    have o1 := or_gen (bt s 0 % 64) (numAt s 1 2) 4 (by omega) (by simp; omega) hn.1 (by simp; omega) (by omega)
    simp only [Int.reducePow] at o1
    have o2 : IntKind.i64.wrap (numAt s 1 2) = numAt s 1 2 := IntWalk.i64_in _ (by omega)
    have o3 : IntKind.i64.wrap (numAt s 1 2 * 16) = numAt s 1 2 * 16 := IntWalk.i64_in _ (by omega)
    have o4 : 3 ≤ s.size := by omega
    have o5 : (3 : Int) ≤ (s.size : Int) := by omega
    have o6 : bt s 0 % 64 + numAt s 1 2 * 16 = bt s 0 % 64 + 16 * numAt s 1 2 := by omega
    rw [o6] at o1
    clear o6
    generalize bt s 0 = y at *
    generalize y % 64 = lo at *
    generalize numAt s 1 2 = x at *
    have E := E0
    have hl2 : 0 ≤ lo + 16 * x ∧ lo + 16 * x < 1000000000 := by omega
    clear E0 hm16
    generalize lo + 16 * x = t at *
    have O2 := Lib.hid o2
    have O3 := Lib.hid o3
    clear o2 o3
    go_enter Try.func15, Try.ntmps15
    go_upto_region 10 with fail
    have o2 := O2.out
    have o3 := O3.out
    go_quiet ((go_at_call 22; exact Calls.quiet_of_same ((Q _).mono fun e w' h => ⟨h.1, h.2.symm⟩)))
    clear o1 o2 o3 Q
    have BQ : Hid (Below w.heap.size w (w.drewN nq)) := Below.drewN (Below.refl _ _) nq
    generalize w.drewN nq = wq at *
    by_cases q3 : t < 3
    · have F : Hid (tailN s 3 t = (0, 0, 3)) := by show _ = _; unfold tailN; rw [if_pos (by omega)]
      have dq : decide (t < 3) = true := decide_eq_true q3
      go_upto_region 11 with fail
      go_quiet (fail)
      go_wp2
      go_ret3
      exact TrN.mk (by rw [E.out, F.out]) (bel2 BQ.out (Below.drewN (Below.refl _ _) _))
    · have dq : decide (t < 3) = false := decide_eq_false q3
      obtain ⟨r, hr⟩ : ∃ r : Bool, ((strOfNums (lenL (t - 3))).toList == (s.extract 0 3).toList) = r := ⟨_, rfl⟩
      have F := Lib.hid (tail_fin s 3 t w r (by omega) (by simpa using hr))
      have P := fun w' => rlen_any (t - 3) w' (by omega)
      have hw : IntKind.i64.wrap (t - 3) = t - 3 := IntWalk.i64_in _ (by omega)
      have hsz : 3 ≤ s.size := by omega
      have hsz2 : (3 : Int) ≤ (s.size : Int) := by omega
      rw [← E.out] at F
      clear E
      have HW := Lib.hid hw
      clear hw q3
      go_upto_region 11 with fail
      have hw := HW.out
      have KP : Hid (∀ w' : World, Below wq.drew.heap.size wq.drew w' → True) := fun _ _ => trivial
      refine wp_region_noPanic ?_
      refine wp_region_held_drew (S := fun _ => True) (by kernel_rfl) (KP.out _ (Below.refl _ _)) (fun hHeld => ?_)
      refine wpAnyH_take (i := 0) (v := ?vh0) (by simp only [List.getElem?_toArray]; rfl) (by kernel_rfl) (by kernel_rfl) (by kernel_rfl) (fun _ _ _ h => h) (Or.inl ⟨by rfl, ?yh0⟩) hHeld ?_
      case yh0 => (intro w hSw; go_simp <;> with_reducible rfl)
      simp only [Act.put, List.setIfInBounds_toArray, List.set_cons_zero, List.set_cons_succ]
      refine wpAnyH_take (i := 1) (v := ?vh1) (by simp only [List.getElem?_toArray]; rfl) (by kernel_rfl) (by kernel_rfl) (by kernel_rfl) (fun _ _ _ h => h) (Or.inl ⟨by rfl, ?yh1⟩) hHeld ?_
      case yh1 => (intro w hSw; go_simp <;> with_reducible rfl)
      simp only [Act.put, List.setIfInBounds_toArray, List.set_cons_zero, List.set_cons_succ]
      refine wpAnyH_take (i := 2) (v := ?vh2) (by simp only [List.getElem?_toArray]; rfl) (by kernel_rfl) (by kernel_rfl) (by kernel_rfl) (fun _ _ _ h => h) (Or.inl ⟨by rfl, ?yh2⟩) hHeld ?_
      case yh2 => (intro w hSw; go_simp <;> with_reducible rfl)
      simp only [Act.put, List.setIfInBounds_toArray, List.set_cons_zero, List.set_cons_succ]
      refine wpAnyH_take (i := 3) (v := ?vh3) (by simp only [List.getElem?_toArray]; rfl) (by kernel_rfl) (by kernel_rfl) (by kernel_rfl) (fun _ _ _ h => h) (Or.inl ⟨by rfl, ?yh3⟩) hHeld ?_
      case yh3 => (intro w hSw; go_simp <;> with_reducible rfl)
      simp only [Act.put, List.setIfInBounds_toArray, List.set_cons_zero, List.set_cons_succ]
      refine wpAnyH_take (i := 4) (v := ?vh4) (by simp only [List.getElem?_toArray]; rfl) (by kernel_rfl) (by kernel_rfl) (by kernel_rfl) (fun _ _ _ h => h) (Or.inl ⟨by rfl, ?yh4⟩) hHeld ?_
      case yh4 => (intro w hSw; go_simp <;> with_reducible rfl)
      simp only [Act.put, List.setIfInBounds_toArray, List.set_cons_zero, List.set_cons_succ]
      refine wpAnyH_take (i := 5) (v := ?vh5) (by simp only [List.getElem?_toArray]; rfl) (by kernel_rfl) (by kernel_rfl) (by kernel_rfl) (fun _ _ _ h => h) (Or.inl ⟨by rfl, ?yh5⟩) hHeld ?_
      case yh5 => (intro w hSw; go_simp <;> with_reducible rfl)
      simp only [Act.put, List.setIfInBounds_toArray, List.set_cons_zero, List.set_cons_succ]
      refine wpAnyH_take (i := 6) (v := ?vh6) (by simp only [List.getElem?_toArray]; rfl) (by kernel_rfl) (by kernel_rfl) (by kernel_rfl) (fun _ _ _ h => h) (Or.inl ⟨by rfl, ?yh6⟩) hHeld ?_
      case yh6 => (intro w hSw; go_simp <;> with_reducible rfl)
      simp only [Act.put, List.setIfInBounds_toArray, List.set_cons_zero, List.set_cons_succ]
      refine wpAnyH_take (i := 8) (v := ?vh8) (by simp only [List.getElem?_toArray]; rfl) (by kernel_rfl) (by kernel_rfl) (by kernel_rfl) (fun _ _ _ h => h) (Or.inl ⟨by rfl, ?yh8⟩) hHeld ?_
      case yh8 => (intro w hSw; go_simp <;> with_reducible rfl)
      simp only [Act.put, List.setIfInBounds_toArray, List.set_cons_zero, List.set_cons_succ]
      refine wpAnyH_take (i := 9) (v := ?vh9) (by simp only [List.getElem?_toArray]; rfl) (by kernel_rfl) (by kernel_rfl) (by kernel_rfl) (fun _ _ _ h => h) (Or.inl ⟨by rfl, ?yh9⟩) hHeld ?_
      case yh9 => (intro w hSw; go_simp <;> with_reducible rfl)
      simp only [Act.put, List.setIfInBounds_toArray, List.set_cons_zero, List.set_cons_succ]
      refine wpAnyH_take (i := 10) (v := ?vh10) (by simp only [List.getElem?_toArray]; rfl) (by kernel_rfl) (by kernel_rfl) (by kernel_rfl) (fun _ _ _ h => h) (Or.inl ⟨by rfl, ?yh10⟩) hHeld ?_
      case yh10 => (intro w hSw; go_simp <;> with_reducible rfl)
      simp only [Act.put, List.setIfInBounds_toArray, List.set_cons_zero, List.set_cons_succ]
      refine wpAnyH_ready (rs := [7]) (by kernel_rfl) (by simp) ?_
      refine AllReadyH.cons (by simp only [List.getElem?_toArray]; rfl) (fun K hK => ?_) ?_
      rotate_left
      · exact AllReadyH.nil
      go_simp
      go_at_call 12
      refine (P _).mono ?_
      rintro e w9 ⟨rfl, hb9⟩
      go_wp2_with fail
      refine hK.out _ _ ?_ (fun hHeld => ?_)
      · exact trivial
      clear hK K
      refine wpAnyH_take (i := 11) (v := ?vh11) (by simp only [List.getElem?_toArray]; rfl) (by kernel_rfl) (by kernel_rfl) (by kernel_rfl) (fun _ _ _ h => h) (Or.inl ⟨by rfl, ?yh11⟩) hHeld ?_
      case yh11 => (intro w hSw; go_simp <;> with_reducible rfl)
      simp only [Act.put, List.setIfInBounds_toArray, List.set_cons_zero, List.set_cons_succ]
      refine wpAnyH_take (i := 12) (v := ?vh12) (by simp only [List.getElem?_toArray]; rfl) (by kernel_rfl) (by kernel_rfl) (by kernel_rfl) (fun _ _ _ h => h) (Or.inl ⟨by rfl, ?yh12⟩) hHeld ?_
      case yh12 => (intro w hSw; go_simp <;> with_reducible rfl)
      simp only [Act.put, List.setIfInBounds_toArray, List.set_cons_zero, List.set_cons_succ]
      refine wpAnyH_done (by kernel_rfl) ?_ _
      refine NoPanic.normal ?_
      have HB := Lib.hid hb9
      clear hb9 hw KP
      cases r
      all_goals
        go_wp2
        go_ret3
        exact F.out _ (bel2 (bel2 BQ.out ((Below.refl _ _).drew)) HB.out)
  · by_cases q1 : 15 < bt s 0 % 64
    · have F : Hid (decN s = (0, 0, 3)) := by show _ = _; rw [D.out, if_neg (by omega), if_pos q1]
      have dq : decide (15 < bt s 0 % 64) = true := decide_eq_true q1
      clear D
      generalize bt s 0 = y at *
      rw [dq] at a48
      generalize y % 64 = t at *
      go_enter Try.func15, Try.ntmps15
      go_wp2
      go_ret3
      exact TrN.mk F.out (Below.refl _ _)
    have dq1 : decide (15 < bt s 0 % 64) = false := decide_eq_false q1
    rw [dq1] at a48
    by_cases q2 : s.size < 4
    · have F : Hid (decN s = (0, 0, 4)) := by show _ = _; rw [D.out, if_neg (by omega), if_neg q1, if_pos (by omega)]
      clear D
      generalize bt s 0 = y at *
      generalize y % 64 = t at *
      go_enter Try.func15, Try.ntmps15
      go_wp2
      go_ret3
      exact TrN.mk F.out (Below.refl _ _)
    have E0 : Hid (decN s = tailN s 4 (bt s 0 % 64 % 16 + 16 * numAt s 1 3)) := by show _ = _; rw [D.out, if_neg (by omega), if_neg q1, if_neg (by omega), hk]; rfl
    have e16 : bt s 0 % 64 % 16 = bt s 0 % 64 := by omega
    rw [e16] at E0 hm16
    clear D e16
    have hlo : 0 ≤ bt s 0 % 64 ∧ bt s 0 % 64 < 16 := by omega
    rw [hm16] at a15
    have hn := num3 s 1 3 (by omega)
    have Q := fun w' => rnum_any (s.extract 1 (1 + 3)) w' (by rw [ext_size s 3 (by omega)]; omega)
    rw [ext_size s 3 (by omega), numAt_ext s 3 (by omega)] at Q
    simp only [Nat.reduceAdd] at Q
    have o1 := or_gen (bt s 0 % 64) (numAt s 1 3) 4 (by omega) (by simp; omega) hn.1 (by simp; omega) (by omega)
    simp only [Int.reducePow] at o1
    have o2 : IntKind.i64.wrap (numAt s 1 3) = numAt s 1 3 := IntWalk.i64_in _ (by omega)
    have o3 : IntKind.i64.wrap (numAt s 1 3 * 16) = numAt s 1 3 * 16 := IntWalk.i64_in _ (by omega)
    have o4 : 4 ≤ s.size := by omega
    have o5 : (4 : Int) ≤ (s.size : Int) := by omega
    have o6 : bt s 0 % 64 + numAt s 1 3 * 16 = bt s 0 % 64 + 16 * numAt s 1 3 := by omega
    rw [o6] at o1
    clear o6
    generalize bt s 0 = y at *
    generalize y % 64 = lo at *
    generalize numAt s 1 3 = x at *
    have E := E0
    have hl2 : 0 ≤ lo + 16 * x ∧ lo + 16 * x < 1000000000 := by omega
    clear E0 hm16
    generalize lo + 16 * x = t at *
    have O2 := Lib.hid o2
    have O3 := Lib.hid o3
    clear o2 o3
    go_enter Try.func15, Try.ntmps15
    go_upto_region 10 with fail
    have o2 := O2.out
    have o3 := O3.out
    go_quiet ((go_at_call 22; exact Calls.quiet_of_same ((Q _).mono fun e w' h => ⟨h.1, h.2.symm⟩)))
    clear o1 o2 o3 Q
    have BQ : Hid (Below w.heap.size w (w.drewN nq)) := Below.drewN (Below.refl _ _) nq
    generalize w.drewN nq = wq at *
    by_cases q3 : t < 4
    · have F : Hid (tailN s 4 t = (0, 0, 3)) := by show _ = _; unfold tailN; rw [if_pos (by omega)]
      have dq : decide (t < 4) = true := decide_eq_true q3
      go_upto_region 11 with fail
      go_quiet (fail)
      go_wp2
      go_ret3
      exact TrN.mk (by rw [E.out, F.out]) (bel2 BQ.out (Below.drewN (Below.refl _ _) _))
    · have dq : decide (t < 4) = false := decide_eq_false q3
      obtain ⟨r, hr⟩ : ∃ r : Bool, ((strOfNums (lenL (t - 4))).toList == (s.extract 0 4).toList) = r := ⟨_, rfl⟩
      have F := Lib.hid (tail_fin s 4 t w r (by omega) (by simpa using hr))
      have P := fun w' => rlen_any (t - 4) w' (by omega)
      have hw : IntKind.i64.wrap (t - 4) = t - 4 := IntWalk.i64_in _ (by omega)
      have hsz : 4 ≤ s.size := by omega
      have hsz2 : (4 : Int) ≤ (s.size : Int) := by omega
      rw [← E.out] at F
      clear E
      have HW := Lib.hid hw
      clear hw q3
      go_upto_region 11 with fail
      have hw := HW.out
      have KP : Hid (∀ w' : World, Below wq.drew.heap.size wq.drew w' → True) := fun _ _ => trivial
      refine wp_region_noPanic ?_
      refine wp_region_held_drew (S := fun _ => True) (by kernel_rfl) (KP.out _ (Below.refl _ _)) (fun hHeld => ?_)
      refine wpAnyH_take (i := 0) (v := ?vi0) (by simp only [List.getElem?_toArray]; rfl) (by kernel_rfl) (by kernel_rfl) (by kernel_rfl) (fun _ _ _ h => h) (Or.inl ⟨by rfl, ?yi0⟩) hHeld ?_
      case yi0 => (intro w hSw; go_simp <;> with_reducible rfl)
      simp only [Act.put, List.setIfInBounds_toArray, List.set_cons_zero, List.set_cons_succ]
      refine wpAnyH_take (i := 1) (v := ?vi1) (by simp only [List.getElem?_toArray]; rfl) (by kernel_rfl) (by kernel_rfl) (by kernel_rfl) (fun _ _ _ h => h) (Or.inl ⟨by rfl, ?yi1⟩) hHeld ?_
      case yi1 => (intro w hSw; go_simp <;> with_reducible rfl)
      simp only [Act.put, List.setIfInBounds_toArray, List.set_cons_zero, List.set_cons_succ]
      refine wpAnyH_take (i := 2) (v := ?vi2) (by simp only [List.getElem?_toArray]; rfl) (by kernel_rfl) (by kernel_rfl) (by kernel_rfl) (fun _ _ _ h => h) (Or.inl ⟨by rfl, ?yi2⟩) hHeld ?_
      case yi2 => (intro w hSw; go_simp <;> with_reducible rfl)
      simp only [Act.put, List.setIfInBounds_toArray, List.set_cons_zero, List.set_cons_succ]
      refine wpAnyH_take (i := 3) (v := ?vi3) (by simp only [List.getElem?_toArray]; rfl) (by kernel_rfl) (by kernel_rfl) (by kernel_rfl) (fun _ _ _ h => h) (Or.inl ⟨by rfl, ?yi3⟩) hHeld ?_
      case yi3 => (intro w hSw; go_simp <;> with_reducible rfl)
      simp only [Act.put, List.setIfInBounds_toArray, List.set_cons_zero, List.set_cons_succ]
      refine wpAnyH_take (i := 4) (v := ?vi4) (by simp only [List.getElem?_toArray]; rfl) (by kernel_rfl) (by kernel_rfl) (by kernel_rfl) (fun _ _ _ h => h) (Or.inl ⟨by rfl, ?yi4⟩) hHeld ?_
      case yi4 => (intro w hSw; go_simp <;> with_reducible rfl)
      simp only [Act.put, List.setIfInBounds_toArray, List.set_cons_zero, List.set_cons_succ]
      refine wpAnyH_take (i := 5) (v := ?vi5) (by simp only [List.getElem?_toArray]; rfl) (by kernel_rfl) (by kernel_rfl) (by kernel_rfl) (fun _ _ _ h => h) (Or.inl ⟨by rfl, ?yi5⟩) hHeld ?_
      case yi5 => (intro w hSw; go_simp <;> with_reducible rfl)
      simp only [Act.put, List.setIfInBounds_toArray, List.set_cons_zero, List.set_cons_succ]
      refine wpAnyH_take (i := 6) (v := ?vi6) (by simp only [List.getElem?_toArray]; rfl) (by kernel_rfl) (by kernel_rfl) (by kernel_rfl) (fun _ _ _ h => h) (Or.inl ⟨by rfl, ?yi6⟩) hHeld ?_
      case yi6 => (intro w hSw; go_simp <;> with_reducible rfl)
      simp only [Act.put, List.setIfInBounds_toArray, List.set_cons_zero, List.set_cons_succ]
      refine wpAnyH_take (i := 8) (v := ?vi8) (by simp only [List.getElem?_toArray]; rfl) (by kernel_rfl) (by kernel_rfl) (by kernel_rfl) (fun _ _ _ h => h) (Or.inl ⟨by rfl, ?yi8⟩) hHeld ?_
      case yi8 => (intro w hSw; go_simp <;> with_reducible rfl)
      simp only [Act.put, List.setIfInBounds_toArray, List.set_cons_zero, List.set_cons_succ]
      refine wpAnyH_take (i := 9) (v := ?vi9) (by simp only [List.getElem?_toArray]; rfl) (by kernel_rfl) (by kernel_rfl) (by kernel_rfl) (fun _ _ _ h => h) (Or.inl ⟨by rfl, ?yi9⟩) hHeld ?_
      case yi9 => (intro w hSw; go_simp <;> with_reducible rfl)
      simp only [Act.put, List.setIfInBounds_toArray, List.set_cons_zero, List.set_cons_succ]
      refine wpAnyH_take (i := 10) (v := ?vi10) (by simp only [List.getElem?_toArray]; rfl) (by kernel_rfl) (by kernel_rfl) (by kernel_rfl) (fun _ _ _ h => h) (Or.inl ⟨by rfl, ?yi10⟩) hHeld ?_
      case yi10 => (intro w hSw; go_simp <;> with_reducible rfl)
      simp only [Act.put, List.setIfInBounds_toArray, List.set_cons_zero, List.set_cons_succ]
      refine wpAnyH_ready (rs := [7]) (by kernel_rfl) (by simp) ?_
      refine AllReadyH.cons (by simp only [List.getElem?_toArray]; rfl) (fun K hK => ?_) ?_
      rotate_left
      · exact AllReadyH.nil
      go_simp
      go_at_call 12
      refine (P _).mono ?_
      rintro e w9 ⟨rfl, hb9⟩
      go_wp2_with fail
      refine hK.out _ _ ?_ (fun hHeld => ?_)
      · exact trivial
      clear hK K
      refine wpAnyH_take (i := 11) (v := ?vi11) (by simp only [List.getElem?_toArray]; rfl) (by kernel_rfl) (by kernel_rfl) (by kernel_rfl) (fun _ _ _ h => h) (Or.inl ⟨by rfl, ?yi11⟩) hHeld ?_
      case yi11 => (intro w hSw; go_simp <;> with_reducible rfl)
      simp only [Act.put, List.setIfInBounds_toArray, List.set_cons_zero, List.set_cons_succ]
      refine wpAnyH_take (i := 12) (v := ?vi12) (by simp only [List.getElem?_toArray]; rfl) (by kernel_rfl) (by kernel_rfl) (by kernel_rfl) (fun _ _ _ h => h) (Or.inl ⟨by rfl, ?yi12⟩) hHeld ?_
      case yi12 => (intro w hSw; go_simp <;> with_reducible rfl)
      simp only [Act.put, List.setIfInBounds_toArray, List.set_cons_zero, List.set_cons_succ]
      refine wpAnyH_done (by kernel_rfl) ?_ _
      refine NoPanic.normal ?_
      have HB := Lib.hid hb9
      clear hb9 hw KP
      cases r
      all_goals
        go_wp2
        go_ret3
        exact F.out _ (bel2 (bel2 BQ.out ((Below.refl _ _).drew)) HB.out)
end Go.Proofs.Ytkolghjjifcjkaa
