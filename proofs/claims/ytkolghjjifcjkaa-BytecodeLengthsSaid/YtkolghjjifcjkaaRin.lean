/- Int and ReadInt on every string. -/
import Derived.Test.YtkolghjjifcjkaaDec
namespace Go.Proofs.Ytkolghjjifcjkaa
open Go.ChangeShapes Go.WideShapes Go.ChangeAt Go.RowKit Go.Deep Go.Joins

theorem bt_ext (s : ByteArray) (a b m : Nat) (hm : a + m < b) (hb : b ≤ s.size) : bt (s.extract a b) m = bt s (a + m) := by
  have h1 : m < (s.extract a b).size := by rw [ByteArray.size_extract]; omega
  rw [← bt_at _ _ h1, ← bt_at _ _ (by omega), ByteArray.getElem_extract]
theorem numAt_ext (s : ByteArray) (n : Nat) (h : 1 + n ≤ s.size) : numAt (s.extract 1 (1 + n)) 0 n = numAt s 1 n :=
  numAt_congr _ _ _ _ _ fun m hm => by rw [Nat.zero_add]; exact bt_ext s 1 (1 + n) m (by omega) h
theorem ext_size (s : ByteArray) (n : Nat) (h : 1 + n ≤ s.size) : (s.extract 1 (1 + n)).size = n := by rw [ByteArray.size_extract]; omega
set_option maxHeartbeats 16000000 in
theorem rint_long (s : ByteArray) (n p : Nat) (w : World) (hs : s.size ≤ 281474976710656) (h0 : s.size ≠ 0) (hp : (p = 10 ∧ n = 1) ∨ (p = 11 ∧ n = 2) ∨ (p = 12 ∧ n = 4) ∨ (p = 14 ∧ n = 8)) (hb : bt s 0 = p) : Calls Try.prog 11 #[.string s] w (TrI w (bodyI s n)) := by
  have he := emp_f s h0
  have hs1 : 0 < s.size := by omega
  have ha := bt_at s 0 hs1
  rw [hb] at ha
  clear hb h0
  by_cases hl : s.size < 1 + n
  · have F : Hid (bodyI s n = (0, 0, 4)) := by show _ = _; unfold bodyI; rw [if_pos hl]
    rcases hp with ⟨rfl, rfl⟩ | ⟨rfl, rfl⟩ | ⟨rfl, rfl⟩ | ⟨rfl, rfl⟩
    all_goals
      go_enter Try.func11, Try.ntmps11
      go_wp2
      go_ret3
      exact TrI.mk F.out (Below.refl _ _)
  have hn8 : n ≤ 8 := by omega
  obtain ⟨m0, m1⟩ := num_lt8 s 1 n hn8
  have P := fun w' => refI_any (numAt s 1 n) w' m0 m1
  have Q := fun w' => rnum_any (s.extract 1 (1 + n)) w' (by rw [ext_size s n (by omega)]; omega)
  rw [ext_size s n (by omega), numAt_ext s n (by omega)] at Q
  obtain ⟨r, hr⟩ : ∃ r : Bool, ((enc (numAt s 1 n)).toList == (s.extract 0 (1 + n)).toList) = r := ⟨_, rfl⟩
  have F : Hid (∀ w', Below w.heap.size w w' → TrI w (bodyI s n) (.returned (if r then .tuple #[.int .u64 (numAt s 1 n), .int .i64 ((1 : Int) + n), .int .i64 0] else .tuple #[.int .u64 0, .int .i64 0, .int .i64 3])) w') := fun w' hb => by
    have e : bodyI s n = if r then (numAt s 1 n, (1 : Int) + n, 0) else (0, 0, 3) := by
      unfold bodyI
      rw [if_neg hl]
      by_cases q : enc (numAt s 1 n) = s.extract 0 (1 + n)
      · rw [if_pos q, ← hr, str_t q]; rfl
      · rw [if_neg q, ← hr, str_f q]; rfl
    rw [e]
    cases r
    · exact ⟨rfl, hb⟩
    · exact ⟨rfl, hb⟩
  rcases hp with ⟨rfl, rfl⟩ | ⟨rfl, rfl⟩ | ⟨rfl, rfl⟩ | ⟨rfl, rfl⟩
  · simp only [Nat.reduceAdd] at hr Q
    have e1 : IntKind.i64.wrap (1 + 1) = 2 := by decide
    have e2 : IntKind.i64.wrap 2 = 2 := by decide
    have hl2 : 2 ≤ s.size := by omega
    have hl3 : (2 : Int) ≤ (s.size : Int) := by omega
    generalize numAt s 1 1 = x at *
    go_enter Try.func11, Try.ntmps11
    go_wp2_with fail
    refine (Q _).mono ?_
    rintro e w1 ⟨rfl, rfl⟩
    go_wp2_with fail
    cases r
    all_goals
      go_region_with (go_at_call 9; refine (P _).mono ?_; rintro e w1 ⟨rfl, hb⟩)
      all_goals
        have HB := Lib.hid hb
        clear hb
        go_wp2
        go_ret3
        exact F.out _ (bel2 ((Below.refl _ _).drew) HB.out)
  · simp only [Nat.reduceAdd] at hr Q
    have e1 : IntKind.i64.wrap (1 + 2) = 3 := by decide
    have e2 : IntKind.i64.wrap 3 = 3 := by decide
    have hl2 : 3 ≤ s.size := by omega
    have hl3 : (3 : Int) ≤ (s.size : Int) := by omega
    generalize numAt s 1 2 = x at *
    go_enter Try.func11, Try.ntmps11
    go_wp2_with fail
    refine (Q _).mono ?_
    rintro e w1 ⟨rfl, rfl⟩
    go_wp2_with fail
    cases r
    all_goals
      go_region_with (go_at_call 9; refine (P _).mono ?_; rintro e w1 ⟨rfl, hb⟩)
      all_goals
        have HB := Lib.hid hb
        clear hb
        go_wp2
        go_ret3
        exact F.out _ (bel2 ((Below.refl _ _).drew) HB.out)
  · simp only [Nat.reduceAdd] at hr Q
    have e1 : IntKind.i64.wrap (1 + 4) = 5 := by decide
    have e2 : IntKind.i64.wrap 5 = 5 := by decide
    have hl2 : 5 ≤ s.size := by omega
    have hl3 : (5 : Int) ≤ (s.size : Int) := by omega
    generalize numAt s 1 4 = x at *
    go_enter Try.func11, Try.ntmps11
    go_wp2_with fail
    refine (Q _).mono ?_
    rintro e w1 ⟨rfl, rfl⟩
    go_wp2_with fail
    cases r
    all_goals
      go_region_with (go_at_call 9; refine (P _).mono ?_; rintro e w1 ⟨rfl, hb⟩)
      all_goals
        have HB := Lib.hid hb
        clear hb
        go_wp2
        go_ret3
        exact F.out _ (bel2 ((Below.refl _ _).drew) HB.out)
  · simp only [Nat.reduceAdd] at hr Q
    have e1 : IntKind.i64.wrap (1 + 8) = 9 := by decide
    have e2 : IntKind.i64.wrap 9 = 9 := by decide
    have hl2 : 9 ≤ s.size := by omega
    have hl3 : (9 : Int) ≤ (s.size : Int) := by omega
    generalize numAt s 1 8 = x at *
    go_enter Try.func11, Try.ntmps11
    go_wp2_with fail
    refine (Q _).mono ?_
    rintro e w1 ⟨rfl, rfl⟩
    go_wp2_with fail
    cases r
    all_goals
      go_region_with (go_at_call 9; refine (P _).mono ?_; rintro e w1 ⟨rfl, hb⟩)
      all_goals
        have HB := Lib.hid hb
        clear hb
        go_wp2
        go_ret3
        exact F.out _ (bel2 ((Below.refl _ _).drew) HB.out)
set_option maxHeartbeats 4000000 in
theorem int_any (s : ByteArray) (w : World) (hs : s.size ≤ 281474976710656) : Calls Try.prog 8 #[.string s] w (TrI w (decI s)) := by
  by_cases h0 : s.size = 0
  · have F : Hid (decI s = (0, 0, 4)) := by show _ = _; unfold decI; rw [if_pos h0]
    have he := emp_t s h0
    clear h0
    go_enter Try.func8, Try.ntmps8
    go_wp2
    go_ret3
    exact TrI.mk F.out (Below.refl _ _)
  by_cases hx : bt s 0 = 10 ∨ bt s 0 = 11 ∨ bt s 0 = 12 ∨ bt s 0 = 14
  · have e : ∀ p n, bt s 0 = p → ((p = 10 ∧ n = 1) ∨ (p = 11 ∧ n = 2) ∨ (p = 12 ∧ n = 4) ∨ (p = 14 ∧ n = 8)) → decI s = bodyI s n := by
      intro p n hb hp
      unfold decI
      rw [if_neg h0, hb]
      rcases hp with ⟨rfl, rfl⟩ | ⟨rfl, rfl⟩ | ⟨rfl, rfl⟩ | ⟨rfl, rfl⟩ <;> rfl
    rcases hx with hb | hb | hb | hb
    · rw [e 10 1 hb (by omega)]; exact int_long s 1 10 w hs h0 (by omega) hb
    · rw [e 11 2 hb (by omega)]; exact int_long s 2 11 w hs h0 (by omega) hb
    · rw [e 12 4 hb (by omega)]; exact int_long s 4 12 w hs h0 (by omega) hb
    · rw [e 14 8 hb (by omega)]; exact int_long s 8 14 w hs h0 (by omega) hb
  have he := emp_f s h0
  have hs1 : 0 < s.size := by omega
  have ha := bt_at s 0 hs1
  have hd : Hid (decI s = if bt s 0 = 0 then (0, 1, 0) else if bt s 0 = 1 then (1, 1, 0) else if bt s 0 = 255 then (18446744073709551615, 1, 0) else (0, 0, 3)) := by
    show _ = _
    unfold decI
    rw [if_neg h0, if_neg (fun q => hx (.inl q)), if_neg (fun q => hx (.inr (.inl q))), if_neg (fun q => hx (.inr (.inr (.inl q)))), if_neg (fun q => hx (.inr (.inr (.inr q))))]
  clear h0
  generalize bt s 0 = y at *
  by_cases c0 : y = 0
  · subst c0
    go_enter Try.func8, Try.ntmps8
    go_wp2
    go_ret3
    exact TrI.mk (by rw [hd.out]; rfl) (Below.refl _ _)
  by_cases c1 : y = 1
  · subst c1
    go_enter Try.func8, Try.ntmps8
    go_wp2
    go_ret3
    exact TrI.mk (by rw [hd.out]; rfl) (Below.refl _ _)
  by_cases c2 : y = 255
  · subst c2
    go_enter Try.func8, Try.ntmps8
    go_wp2
    go_ret3
    exact TrI.mk (by rw [hd.out]; rfl) (Below.refl _ _)
  have F : Hid (decI s = (0, 0, 3)) := by show _ = _; rw [hd.out, if_neg c0, if_neg c1, if_neg c2]
  have g0 : (y == 0) = false := beq_eq_false_iff_ne.2 c0
  have g1 : (y == 1) = false := beq_eq_false_iff_ne.2 c1
  have g2 : (y == 255) = false := beq_eq_false_iff_ne.2 c2
  have g3 : (y == 10) = false := beq_eq_false_iff_ne.2 (fun q => hx (.inl q))
  have g4 : (y == 11) = false := beq_eq_false_iff_ne.2 (fun q => hx (.inr (.inl q)))
  have g5 : (y == 12) = false := beq_eq_false_iff_ne.2 (fun q => hx (.inr (.inr (.inl q))))
  have g6 : (y == 14) = false := beq_eq_false_iff_ne.2 (fun q => hx (.inr (.inr (.inr q))))
  clear hx c0 c1 c2
  go_enter Try.func8, Try.ntmps8
  go_wp2
  go_ret3
  exact TrI.mk F.out (Below.refl _ _)
set_option maxHeartbeats 4000000 in
theorem rint_any (s : ByteArray) (w : World) (hs : s.size ≤ 281474976710656) : Calls Try.prog 11 #[.string s] w (TrI w (decI s)) := by
  by_cases h0 : s.size = 0
  · have F : Hid (decI s = (0, 0, 4)) := by show _ = _; unfold decI; rw [if_pos h0]
    have he := emp_t s h0
    clear h0
    go_enter Try.func11, Try.ntmps11
    go_wp2
    go_ret3
    exact TrI.mk F.out (Below.refl _ _)
  by_cases hx : bt s 0 = 10 ∨ bt s 0 = 11 ∨ bt s 0 = 12 ∨ bt s 0 = 14
  · have e : ∀ p n, bt s 0 = p → ((p = 10 ∧ n = 1) ∨ (p = 11 ∧ n = 2) ∨ (p = 12 ∧ n = 4) ∨ (p = 14 ∧ n = 8)) → decI s = bodyI s n := by
      intro p n hb hp
      unfold decI
      rw [if_neg h0, hb]
      rcases hp with ⟨rfl, rfl⟩ | ⟨rfl, rfl⟩ | ⟨rfl, rfl⟩ | ⟨rfl, rfl⟩ <;> rfl
    rcases hx with hb | hb | hb | hb
    · rw [e 10 1 hb (by omega)]; exact rint_long s 1 10 w hs h0 (by omega) hb
    · rw [e 11 2 hb (by omega)]; exact rint_long s 2 11 w hs h0 (by omega) hb
    · rw [e 12 4 hb (by omega)]; exact rint_long s 4 12 w hs h0 (by omega) hb
    · rw [e 14 8 hb (by omega)]; exact rint_long s 8 14 w hs h0 (by omega) hb
  have he := emp_f s h0
  have hs1 : 0 < s.size := by omega
  have ha := bt_at s 0 hs1
  have hd : Hid (decI s = if bt s 0 = 0 then (0, 1, 0) else if bt s 0 = 1 then (1, 1, 0) else if bt s 0 = 255 then (18446744073709551615, 1, 0) else (0, 0, 3)) := by
    show _ = _
    unfold decI
    rw [if_neg h0, if_neg (fun q => hx (.inl q)), if_neg (fun q => hx (.inr (.inl q))), if_neg (fun q => hx (.inr (.inr (.inl q)))), if_neg (fun q => hx (.inr (.inr (.inr q))))]
  clear h0
  generalize bt s 0 = y at *
  by_cases c0 : y = 0
  · subst c0
    go_enter Try.func11, Try.ntmps11
    go_wp2
    go_ret3
    exact TrI.mk (by rw [hd.out]; rfl) (Below.refl _ _)
  by_cases c1 : y = 1
  · subst c1
    go_enter Try.func11, Try.ntmps11
    go_wp2
    go_ret3
    exact TrI.mk (by rw [hd.out]; rfl) (Below.refl _ _)
  by_cases c2 : y = 255
  · subst c2
    have k1 : IntKind.i8.wrap 255 = -1 := by decide
    have k2 : IntKind.i64.wrap (-1) = -1 := by decide
    have k3 : IntKind.u64.wrap (-1) = 18446744073709551615 := by decide
    go_enter Try.func11, Try.ntmps11
    go_wp2
    go_ret3
    exact TrI.mk (by rw [hd.out]; rfl) (Below.refl _ _)
  have F : Hid (decI s = (0, 0, 3)) := by show _ = _; rw [hd.out, if_neg c0, if_neg c1, if_neg c2]
  have g0 : (y == 0) = false := beq_eq_false_iff_ne.2 c0
  have g1 : (y == 1) = false := beq_eq_false_iff_ne.2 c1
  have g2 : (y == 255) = false := beq_eq_false_iff_ne.2 c2
  have g3 : (y == 10) = false := beq_eq_false_iff_ne.2 (fun q => hx (.inl q))
  have g4 : (y == 11) = false := beq_eq_false_iff_ne.2 (fun q => hx (.inr (.inl q)))
  have g5 : (y == 12) = false := beq_eq_false_iff_ne.2 (fun q => hx (.inr (.inr (.inl q))))
  have g6 : (y == 14) = false := beq_eq_false_iff_ne.2 (fun q => hx (.inr (.inr (.inr q))))
  clear hx c0 c1 c2
  go_enter Try.func11, Try.ntmps11
  go_wp2
  go_ret3
  exact TrI.mk F.out (Below.refl _ _)
end Go.Proofs.Ytkolghjjifcjkaa
