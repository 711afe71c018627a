/- number (the reference's), Int and ReadInt. -/
import Derived.Test.YtkolghjjifcjkaaEnc
import Derived.Deep.CutBlock
namespace Go.Proofs.Ytkolghjjifcjkaa
open Go.ChangeShapes Go.WideShapes Go.ChangeAt Go.RowKit Go.Deep Go.Joins

theorem or_sum (v b : Int) (h0 : 0 ≤ v) (h1 : v * 256 < 18446744073709551616) (hb : 0 ≤ b ∧ b < 256) : bits BinOp.or IntKind.u64 (v * 256) b = v * 256 + b := by
  obtain ⟨V, rfl⟩ := Int.eq_ofNat_of_zero_le h0
  obtain ⟨B, rfl⟩ := Int.eq_ofNat_of_zero_le hb.1
  have e1 : (BitVec.ofInt 64 ((V : Int) * 256)).toNat = V * 256 := by rw [BitVec.toNat_ofInt]; omega
  have e2 : (BitVec.ofInt 64 (B : Int)).toNat = B := by rw [BitVec.toNat_ofInt]; omega
  have e3 : V * 256 ||| B = V * 256 + B := by
    have := Nat.two_pow_add_eq_or_of_lt (i := 8) (b := B) (by omega) V
    rw [Nat.mul_comm V 256]
    exact this.symm
  show IntKind.u64.wrap (((BitVec.ofInt 64 ((V : Int) * 256)) ||| (BitVec.ofInt 64 (B : Int))).toNat : Int) = _
  rw [BitVec.toNat_or, e1, e2, e3, IntKind.wrap_u64]
  omega
theorem num_lt (s : ByteArray) (i k : Nat) (hk : k ≤ 7) : numAt s i k * 256 < 18446744073709551616 := by
  have h := (numAt_bd s i k).2
  have h2 : (256 : Int) ^ k ≤ 72057594037927936 := by
    rcases (show k = 0 ∨ k = 1 ∨ k = 2 ∨ k = 3 ∨ k = 4 ∨ k = 5 ∨ k = 6 ∨ k = 7 by omega) with rfl | rfl | rfl | rfl | rfl | rfl | rfl | rfl <;> decide
  omega
theorem num_lt8 (s : ByteArray) (i k : Nat) (hk : k ≤ 8) : 0 ≤ numAt s i k ∧ numAt s i k < 18446744073709551616 := by
  have h := (numAt_bd s i k)
  have h2 : (256 : Int) ^ k ≤ 18446744073709551616 := by
    rcases (show k = 0 ∨ k = 1 ∨ k = 2 ∨ k = 3 ∨ k = 4 ∨ k = 5 ∨ k = 6 ∨ k = 7 ∨ k = 8 by omega) with rfl | rfl | rfl | rfl | rfl | rfl | rfl | rfl | rfl <;> decide
  omega
set_option maxHeartbeats 2000000 in
theorem rnum_any (s : ByteArray) (w : World) (h : s.size ≤ 8) : Calls Try.prog 22 #[.string s] w (fun e w' => e = .returned (.int .u64 (numAt s 0 s.size)) ∧ w = w') := by
  have F : Hid (∀ i k : Nat, i + k = s.size → (i : Int) = 0 → numAt s i k = numAt s 0 s.size) := fun i k e1 e2 => by
    obtain rfl : i = 0 := by omega
    rw [show k = s.size by omega]
  go_enter Try.func22, Try.ntmps22
  go_wp2_with fail
  go_loopg [4, 3] (s.size + 1) (fun g vi vv wr => ∃ i k : Nat, i + 1 = g ∧ i + k = s.size ∧ vi = .int .i64 ((i : Int) - 1) ∧ vv = .int .u64 (numAt s i k) ∧ w = wr)
  case atStart => exact ⟨s.size, 0, rfl, by omega, rfl, rfl, rfl⟩
  case round =>
    obtain ⟨i, k, hg, hk, rfl, rfl, rfl⟩ := hrel
    by_cases h0 : i = 0
    · subst h0
      have F := Lib.hid (F.out 0 k hk rfl)
      clear hk hg
      go_wp2
      go_ret
      exact ⟨by rw [← F.out]; rfl, rfl⟩
    · obtain ⟨j, rfl⟩ : ∃ j, i = j + 1 := ⟨i - 1, by omega⟩
      obtain ⟨g, rfl⟩ : ∃ g, gk = g + 1 := ⟨gk - 1, by omega⟩
      have hjs : j < s.size := by omega
      have n1 := num_lt s (j + 1) k (by omega)
      have n2 := (numAt_bd s (j + 1) k).1
      have hb := bt_bd s j
      have ha := bt_at s j hjs
      have ho := or_sum (numAt s (j + 1) k) (bt s j) n2 n1 hb
      have N : Hid (numAt s j (k + 1) = numAt s (j + 1) k * 256 + bt s j) := by show bt s j + 256 * numAt s (j + 1) k = _; omega
      have e1 : ((j + 1 : Nat) : Int) - 1 = (j : Int) := by omega
      rw [e1]
      have HK := Lib.hid hk
      have HG := Lib.hid hg
      clear e1 hk hg
      generalize numAt s (j + 1) k = x at *
      generalize bt s j = y at *
      go_wp2
      go_roundg g
      case measure => omega
      case rel => exact ⟨j, k + 1, by have := HG.out; omega, by have := HK.out; omega, by go_num, by rw [N.out], rfl⟩
theorem emp_t (s : ByteArray) (h : s.size = 0) : s.toList.isEmpty = true := by
  have e : s.data = #[] := Array.size_eq_zero_iff.1 h
  rw [ByteArray.toList_eq, e]
  rfl
theorem emp_f (s : ByteArray) (h : s.size ≠ 0) : s.toList.isEmpty = false := by
  rw [ByteArray.toList_eq]
  refine Bool.eq_false_iff.2 fun e => h ?_
  have h2 := List.isEmpty_iff.1 e
  show s.data.size = 0
  rw [← Array.length_toList, h2]
  rfl
theorem str_t {a b : ByteArray} (h : a = b) : (a.toList == b.toList) = true := by subst h; simp
theorem str_f {a b : ByteArray} (h : a ≠ b) : (a.toList == b.toList) = false := by
  refine beq_eq_false_iff_ne.2 fun e => h ?_
  rw [ByteArray.toList_eq, ByteArray.toList_eq] at e
  exact ByteArray.ext (Array.toList_inj.1 e)
def TrI (w : World) (t : Int × Int × Int) (e : Ending) (w' : World) : Prop := e = .returned (tri t) ∧ Below w.heap.size w w'
theorem TrI.mk {w w' : World} {t : Int × Int × Int} {a b c : Int} (h : t = (a, b, c)) (hb : Below w.heap.size w w') : TrI w t (.returned (.tuple #[.int .u64 a, .int .i64 b, .int .i64 c])) w' := by subst h; exact ⟨rfl, hb⟩
theorem TrI.drew {w w' : World} {t : Int × Int × Int} {e : Ending} (h : TrI w t e w') : TrI w t e w'.drew := ⟨h.1, h.2.drew⟩
theorem app_nil (v : Int) (w : World) (h0 : 0 ≤ v) (h1 : v < 18446744073709551616) : Calls Try.prog 7 #[.string { data := #[] }, .int .u64 v] w (StB w (enc v)) := by
  have h := app_any { data := #[] } v w (by show 0 ≤ _; omega) h0 h1
  have e : ({ data := #[] } : ByteArray) ++ enc v = enc v := by apply ByteArray.ext; rw [ByteArray.data_append]; simp
  rw [e] at h
  exact h
set_option maxHeartbeats 16000000 in
theorem int_long (s : ByteArray) (n p : Nat) (w : World) (hs : s.size ≤ 281474976710656) (h0 : s.size ≠ 0) (hp : (p = 10 ∧ n = 1) ∨ (p = 11 ∧ n = 2) ∨ (p = 12 ∧ n = 4) ∨ (p = 14 ∧ n = 8)) (hb : bt s 0 = p) : Calls Try.prog 8 #[.string s] w (TrI w (bodyI s n)) := by
  have he := emp_f s h0
  have hs1 : 0 < s.size := by omega
  have ha := bt_at s 0 hs1
  rw [hb] at ha
  clear hb h0
  by_cases hl : s.size < 1 + n
  · have F : Hid (bodyI s n = (0, 0, 4)) := by show _ = _; unfold bodyI; rw [if_pos hl]
    rcases hp with ⟨rfl, rfl⟩ | ⟨rfl, rfl⟩ | ⟨rfl, rfl⟩ | ⟨rfl, rfl⟩
    all_goals
      go_enter Try.func8, Try.ntmps8
      go_wp2
      go_ret3
      exact TrI.mk F.out (Below.refl _ _)
  have hn8 : n ≤ 8 := by omega
  obtain ⟨m0, m1⟩ := num_lt8 s 1 n hn8
  have P := fun w' => app_nil (numAt s 1 n) w' m0 m1
  obtain ⟨r, hr⟩ : ∃ r : Bool, ((enc (numAt s 1 n)).toList == (s.extract 0 (1 + n)).toList) = r := ⟨_, rfl⟩
  have F : Hid (∀ w', Below w.heap.size w w' → TrI w (bodyI s n) (.returned (if r then .tuple #[.int .u64 (numAt s 1 n), .int .i64 ((1 : Int) + n), .int .i64 0] else .tuple #[.int .u64 0, .int .i64 0, .int .i64 3])) w') := fun w' hb => by
    have e : bodyI s n = if r then (numAt s 1 n, (1 : Int) + n, 0) else (0, 0, 3) := by
      unfold bodyI
      rw [if_neg hl]
      by_cases q : enc (numAt s 1 n) = s.extract 0 (1 + n)
      · rw [if_pos q, ← hr, str_t q]; rfl
      · rw [if_neg q, ← hr, str_f q]; rfl
    rw [e]
    cases r
    · exact ⟨rfl, hb⟩
    · exact ⟨rfl, hb⟩
  rcases hp with ⟨rfl, rfl⟩ | ⟨rfl, rfl⟩ | ⟨rfl, rfl⟩ | ⟨rfl, rfl⟩
  · simp only [Nat.reduceAdd] at hr
    have HR := Lib.hid hr
    clear hr
    go_enter Try.func8, Try.ntmps8
    go_wp2_with fail
    go_loopg [7, 6] 8 (fun g vi vv wr => ∃ i k : Nat, i ≤ g ∧ i + k = 1 ∧ vi = .int .i64 i ∧ vv = .int .u64 (numAt s (i + 1) k) ∧ w = wr)
    case atStart => exact ⟨1, 0, by omega, by omega, rfl, rfl, rfl⟩
    case round =>
      obtain ⟨i, k, hg, hk, rfl, rfl, rfl⟩ := hrel
      by_cases hi0 : i = 0
      · subst hi0
        obtain rfl : k = 1 := by omega
        clear hg hk
        have HR := HR.out
        generalize numAt s 1 1 = x at *
        have e1 : IntKind.i64.wrap (1 + 1) = 2 := by decide
        have hl2 : 2 ≤ s.size := by omega
        have e2 : IntKind.i64.wrap 2 = 2 := by decide
        have hl3 : (2 : Int) ≤ (s.size : Int) := by omega
        go_wp2_with fail
        cases r
        all_goals
          go_region_with (go_at_call 7; refine (P _).mono ?_; rintro e w1 ⟨rfl, hb⟩)
          all_goals
            have HB := Lib.hid hb
            clear hb
            go_wp2
            go_ret3
            exact F.out _ (bel2 ((Below.refl _ _).drew) HB.out)
      · obtain ⟨j, rfl⟩ : ∃ j, i = j + 1 := ⟨i - 1, by omega⟩
        obtain ⟨g, rfl⟩ : ∃ g, gk = g + 1 := ⟨gk - 1, by omega⟩
        have hjs : j + 1 < s.size := by omega
        have n1 := num_lt s (j + 1 + 1) k (by omega)
        have n2 := (numAt_bd s (j + 1 + 1) k).1
        have hb := bt_bd s (j + 1)
        have hb1 := bt_at s (j + 1) hjs
        have ho := or_sum (numAt s (j + 1 + 1) k) (bt s (j + 1)) n2 n1 hb
        have N : Hid (numAt s (j + 1) (k + 1) = numAt s (j + 1 + 1) k * 256 + bt s (j + 1)) := by show bt s (j + 1) + 256 * numAt s (j + 1 + 1) k = _; omega
        have HK := Lib.hid hk
        have HG := Lib.hid hg
        clear hk hg P F HR
        generalize numAt s (j + 1 + 1) k = x at *
        generalize bt s (j + 1) = y at *
        go_wp2
        go_roundg g
        case measure => omega
        case rel => exact ⟨j, k + 1, by have := HG.out; omega, by have := HK.out; omega, by go_num, by rw [N.out], rfl⟩
  · simp only [Nat.reduceAdd] at hr
    have HR := Lib.hid hr
    clear hr
    go_enter Try.func8, Try.ntmps8
    go_wp2_with fail
    go_loopg [7, 6] 8 (fun g vi vv wr => ∃ i k : Nat, i ≤ g ∧ i + k = 2 ∧ vi = .int .i64 i ∧ vv = .int .u64 (numAt s (i + 1) k) ∧ w = wr)
    case atStart => exact ⟨2, 0, by omega, by omega, rfl, rfl, rfl⟩
    case round =>
      obtain ⟨i, k, hg, hk, rfl, rfl, rfl⟩ := hrel
      by_cases hi0 : i = 0
      · subst hi0
        obtain rfl : k = 2 := by omega
        clear hg hk
        have HR := HR.out
        generalize numAt s 1 2 = x at *
        have e1 : IntKind.i64.wrap (1 + 2) = 3 := by decide
        have hl2 : 3 ≤ s.size := by omega
        have e2 : IntKind.i64.wrap 3 = 3 := by decide
        have hl3 : (3 : Int) ≤ (s.size : Int) := by omega
        go_wp2_with fail
        cases r
        all_goals
          go_region_with (go_at_call 7; refine (P _).mono ?_; rintro e w1 ⟨rfl, hb⟩)
          all_goals
            have HB := Lib.hid hb
            clear hb
            go_wp2
            go_ret3
            exact F.out _ (bel2 ((Below.refl _ _).drew) HB.out)
      · obtain ⟨j, rfl⟩ : ∃ j, i = j + 1 := ⟨i - 1, by omega⟩
        obtain ⟨g, rfl⟩ : ∃ g, gk = g + 1 := ⟨gk - 1, by omega⟩
        have hjs : j + 1 < s.size := by omega
        have n1 := num_lt s (j + 1 + 1) k (by omega)
        have n2 := (numAt_bd s (j + 1 + 1) k).1
        have hb := bt_bd s (j + 1)
        have hb1 := bt_at s (j + 1) hjs
        have ho := or_sum (numAt s (j + 1 + 1) k) (bt s (j + 1)) n2 n1 hb
        have N : Hid (numAt s (j + 1) (k + 1) = numAt s (j + 1 + 1) k * 256 + bt s (j + 1)) := by show bt s (j + 1) + 256 * numAt s (j + 1 + 1) k = _; omega
        have HK := Lib.hid hk
        have HG := Lib.hid hg
        clear hk hg P F HR
        generalize numAt s (j + 1 + 1) k = x at *
        generalize bt s (j + 1) = y at *
        go_wp2
        go_roundg g
        case measure => omega
        case rel => exact ⟨j, k + 1, by have := HG.out; omega, by have := HK.out; omega, by go_num, by rw [N.out], rfl⟩
  · simp only [Nat.reduceAdd] at hr
    have HR := Lib.hid hr
    clear hr
    go_enter Try.func8, Try.ntmps8
    go_wp2_with fail
    go_loopg [7, 6] 8 (fun g vi vv wr => ∃ i k : Nat, i ≤ g ∧ i + k = 4 ∧ vi = .int .i64 i ∧ vv = .int .u64 (numAt s (i + 1) k) ∧ w = wr)
    case atStart => exact ⟨4, 0, by omega, by omega, rfl, rfl, rfl⟩
    case round =>
      obtain ⟨i, k, hg, hk, rfl, rfl, rfl⟩ := hrel
      by_cases hi0 : i = 0
      · subst hi0
        obtain rfl : k = 4 := by omega
        clear hg hk
        have HR := HR.out
        generalize numAt s 1 4 = x at *
        have e1 : IntKind.i64.wrap (1 + 4) = 5 := by decide
        have hl2 : 5 ≤ s.size := by omega
        have e2 : IntKind.i64.wrap 5 = 5 := by decide
        have hl3 : (5 : Int) ≤ (s.size : Int) := by omega
        go_wp2_with fail
        cases r
        all_goals
          go_region_with (go_at_call 7; refine (P _).mono ?_; rintro e w1 ⟨rfl, hb⟩)
          all_goals
            have HB := Lib.hid hb
            clear hb
            go_wp2
            go_ret3
            exact F.out _ (bel2 ((Below.refl _ _).drew) HB.out)
      · obtain ⟨j, rfl⟩ : ∃ j, i = j + 1 := ⟨i - 1, by omega⟩
        obtain ⟨g, rfl⟩ : ∃ g, gk = g + 1 := ⟨gk - 1, by omega⟩
        have hjs : j + 1 < s.size := by omega
        have n1 := num_lt s (j + 1 + 1) k (by omega)
        have n2 := (numAt_bd s (j + 1 + 1) k).1
        have hb := bt_bd s (j + 1)
        have hb1 := bt_at s (j + 1) hjs
        have ho := or_sum (numAt s (j + 1 + 1) k) (bt s (j + 1)) n2 n1 hb
        have N : Hid (numAt s (j + 1) (k + 1) = numAt s (j + 1 + 1) k * 256 + bt s (j + 1)) := by show bt s (j + 1) + 256 * numAt s (j + 1 + 1) k = _; omega
        have HK := Lib.hid hk
        have HG := Lib.hid hg
        clear hk hg P F HR
        generalize numAt s (j + 1 + 1) k = x at *
        generalize bt s (j + 1) = y at *
        go_wp2
        go_roundg g
        case measure => omega
        case rel => exact ⟨j, k + 1, by have := HG.out; omega, by have := HK.out; omega, by go_num, by rw [N.out], rfl⟩
  · simp only [Nat.reduceAdd] at hr
    have HR := Lib.hid hr
    clear hr
    go_enter Try.func8, Try.ntmps8
    go_wp2_with fail
    go_loopg [7, 6] 8 (fun g vi vv wr => ∃ i k : Nat, i ≤ g ∧ i + k = 8 ∧ vi = .int .i64 i ∧ vv = .int .u64 (numAt s (i + 1) k) ∧ w = wr)
    case atStart => exact ⟨8, 0, by omega, by omega, rfl, rfl, rfl⟩
    case round =>
      obtain ⟨i, k, hg, hk, rfl, rfl, rfl⟩ := hrel
      by_cases hi0 : i = 0
      · subst hi0
        obtain rfl : k = 8 := by omega
        clear hg hk
        have HR := HR.out
        generalize numAt s 1 8 = x at *
        have e1 : IntKind.i64.wrap (1 + 8) = 9 := by decide
        have hl2 : 9 ≤ s.size := by omega
        have e2 : IntKind.i64.wrap 9 = 9 := by decide
        have hl3 : (9 : Int) ≤ (s.size : Int) := by omega
        go_wp2_with fail
        cases r
        all_goals
          go_region_with (go_at_call 7; refine (P _).mono ?_; rintro e w1 ⟨rfl, hb⟩)
          all_goals
            have HB := Lib.hid hb
            clear hb
            go_wp2
            go_ret3
            exact F.out _ (bel2 ((Below.refl _ _).drew) HB.out)
      · obtain ⟨j, rfl⟩ : ∃ j, i = j + 1 := ⟨i - 1, by omega⟩
        obtain ⟨g, rfl⟩ : ∃ g, gk = g + 1 := ⟨gk - 1, by omega⟩
        have hjs : j + 1 < s.size := by omega
        have n1 := num_lt s (j + 1 + 1) k (by omega)
        have n2 := (numAt_bd s (j + 1 + 1) k).1
        have hb := bt_bd s (j + 1)
        have hb1 := bt_at s (j + 1) hjs
        have ho := or_sum (numAt s (j + 1 + 1) k) (bt s (j + 1)) n2 n1 hb
        have N : Hid (numAt s (j + 1) (k + 1) = numAt s (j + 1 + 1) k * 256 + bt s (j + 1)) := by show bt s (j + 1) + 256 * numAt s (j + 1 + 1) k = _; omega
        have HK := Lib.hid hk
        have HG := Lib.hid hg
        clear hk hg P F HR
        generalize numAt s (j + 1 + 1) k = x at *
        generalize bt s (j + 1) = y at *
        go_wp2
        go_roundg g
        case measure => omega
        case rel => exact ⟨j, k + 1, by have := HG.out; omega, by have := HK.out; omega, by go_num, by rw [N.out], rfl⟩
end Go.Proofs.Ytkolghjjifcjkaa
