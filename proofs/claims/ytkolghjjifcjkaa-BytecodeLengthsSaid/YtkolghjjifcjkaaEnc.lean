/- number, little, AppendInt and the reference's Int. -/
import Derived.Test.YtkolghjjifcjkaaByt
import Derived.Deep.LoopGhost
namespace Go.Proofs.Ytkolghjjifcjkaa
open Go.ChangeShapes Go.WideShapes Go.ChangeAt Go.RowKit Go.Deep Go.Joins

theorem info5 : (Try.prog.info? 5).map (fun i => (i.zero, i.size, i.bytes)) = some (some (.int .u8 0), 1, 1) := by kernel_rfl
theorem wrap_u8 (n : Int) : IntKind.u8.wrap n = n % 256 := by simp [IntKind.wrap, IntKind.signed, IntKind.bits]
def StB (w : World) (s : ByteArray) (e : Ending) (w' : World) : Prop := e = .returned (.string s) ∧ Below w.heap.size w w'
theorem pow_step (v : Int) (k : Nat) : v / 256 ^ k / 256 = v / 256 ^ (k + 1) := by
  rw [Int.ediv_ediv_of_nonneg (Int.pow_nonneg (by omega)), Int.pow_succ]
theorem pow_bd (v : Int) (k : Nat) (h0 : 0 ≤ v) (h1 : v < 18446744073709551616) : 0 ≤ v / 256 ^ k ∧ v / 256 ^ k < 18446744073709551616 := by
  have hp : (0 : Int) < 256 ^ k := Int.pow_pos (by omega)
  refine ⟨Int.ediv_nonneg h0 (by omega), ?_⟩
  have := Int.ediv_le_self (256 ^ k) h0
  omega
set_option maxHeartbeats 2000000 in
theorem little_any (v : Int) (n : Nat) (w : World) (h0 : 0 ≤ v) (h1 : v < 18446744073709551616) (hn : n ≤ 8) : Calls Try.prog 21 #[.int .u64 v, .int .i64 n] w (StB w (strOfNums (leI v n))) := by
  go_enter Try.func21, Try.ntmps21
  go_wp2_with fail
  go_loopg [6, 5, 0] n (fun g vi vs vv wr => ∃ k : Nat, k + g = n ∧ vi = .int .i64 k ∧ vs = .string (strOfNums (leI v k)) ∧ vv = .int .u64 (v / 256 ^ k) ∧ Below w.heap.size w wr)
  case atStart => exact ⟨0, by omega, rfl, rfl, by simp, Below.refl _ _⟩
  case round =>
    obtain ⟨k, hk, rfl, rfl, rfl, hB⟩ := hrel
    by_cases hlt : k < n
    · obtain ⟨g, rfl⟩ : ∃ g, gk = g + 1 := ⟨gk - 1, by omega⟩
      obtain ⟨p0, p1⟩ := pow_bd v k h0 h1
      have HS := Lib.hid (leI_snoc v k)
      have HP := Lib.hid (pow_step v k)
      have HZ := Lib.hid ((son_size (leI v k)).trans (leI_len v k))
      have c1 := conv1 wr (v / 256 ^ k % 256)
      have hw := wrap_u8 (v / 256 ^ k)
      have z1 : (strOfNums (leI v k)).size ≤ 8 := by rw [HZ.out]; omega
      have z2 : (strOfNums [v / 256 ^ k % 256]).size = 1 := rfl
      have HB := Lib.hid (bal hB (Obj.cells #[.int .u8 (v / 256 ^ k % 256)] 5))
      clear hB
      generalize v / 256 ^ k = x at *
      go_wp2
      go_roundg g
      case measure => omega
      case rel => exact ⟨k + 1, by omega, by go_num, by rw [HS.out, son_append], by rw [← HP.out], HB.out⟩
    · have : k = n := by omega
      subst this
      have HB := Lib.hid hB
      clear hB
      go_wp2
      go_ret
      exact ⟨rfl, HB.out⟩
set_option maxHeartbeats 2000000 in
theorem number_any (p v : Int) (n : Nat) (w : World) (h0 : 0 ≤ v) (h1 : v < 18446744073709551616) (hn : n ≤ 8) : Calls Try.prog 20 #[.int .u8 p, .int .u64 v, .int .i64 n] w (StB w (strOfNums (p :: leI v n))) := by
  obtain ⟨i0, hi, hz0, hz1, hz2⟩ := info_parts info5
  have HI := Lib.hid (And.intro hi (And.intro hz0 (And.intro hz1 hz2)))
  clear hi hz0 hz1 hz2
  go_enter Try.func20, Try.ntmps20
  go_wp2_with fail
  have own0 : (w.alloc (.cells #[.int .u8 p] 5)).ownsRow w.heap.size 5 1 (.slice (some ⟨w.heap.size, 0, none⟩) 1 1) 1 [.int .u8 p] :=
    ⟨rfl, .inr ⟨w.heap.size, 1, #[.int .u8 p], rfl, Nat.le_refl _, heap_alloc_new w _, Nat.le_refl _, by unfold maxLen; omega, rfl, rfl⟩⟩
  have B0 := Lib.hid (bal (Below.refl w.heap.size w) (Obj.cells #[.int .u8 p] 5))
  have O0 := Lib.hid own0
  clear own0
  generalize hw0 : w.alloc (Obj.cells #[.int .u8 p] 5) = w0 at *
  go_loopg [11, 7, 1] n (fun g vi vl vv wr => ∃ k b c : Nat, k + g = n ∧ vi = .int .i64 k ∧ vl = .slice (some ⟨b, 0, none⟩) (k + 1) c ∧ wr.ownsRow w.heap.size 5 1 (.slice (some ⟨b, 0, none⟩) (k + 1) c) (k + 1) ((p :: leI v k).map (Value.int .u8)) ∧ vv = .int .u64 (v / 256 ^ k) ∧ Below w.heap.size w wr)
  case atStart => exact ⟨0, w.heap.size, 1, by omega, rfl, rfl, O0.out, by simp, B0.out⟩
  case round =>
    clear O0 B0 hw0
    obtain ⟨k, b, c, hk, rfl, rfl, hO, rfl, hB⟩ := hrel
    by_cases hlt : k < n
    · obtain ⟨g, rfl⟩ : ∃ g, gk = g + 1 := ⟨gk - 1, by omega⟩
      obtain ⟨p0, p1⟩ := pow_bd v k h0 h1
      have HS := Lib.hid (leI_snoc v k)
      have HP := Lib.hid (pow_step v k)
      have hw := wrap_u8 (v / 256 ^ k)
      have HO := Lib.hid hO
      have HB := Lib.hid hB
      have hsz := hB.size
      clear hO hB
      generalize v / 256 ^ k = x at *
      go_wp2_with (at_builtin; refine wpList_append_own _ rfl (.tmp 13) (.tmp 16) 41 rfl w.heap.size 5 i0 _ 1 1 Try.underlying41 HI.out.1 HI.out.2.1 HI.out.2.2.1 HI.out.2.2.2 rfl (by decide) _ (k + 1) ((p :: leI v k).map (Value.int .u8)) rfl (HO.out.alloc _) ⟨wr.heap.size, 0, none⟩ 1 1 [.int .u8 (x % 256)] rfl rfl ?c1 ?c2 ?c3 ?c4 ?c5 ?_)
      case c1 => intro j u hu; match j, hu with | 0, hu => simp at hu; subst hu; simp [Addr.add, go_sem]
      case c2 => intro u hu; simp at hu; subst hu; rfl
      case c3 => unfold maxLen; omega
      case c4 => omega
      case c5 => simp; omega
      intro v' w4 hown hgr _
      obtain ⟨g', cap', rfl⟩ := own_form hown (by omega)
      have B6 := Lib.hid ((bal HB.out (Obj.cells #[.int .u8 (x % 256)] 5)).grown hgr (by simp; omega) (fun k hk => by
        rcases HO.out.2 with ⟨h, _⟩ | ⟨g2, _, _, h, hg2, _⟩
        · cases h
        · injection h with h
          injection h with h
          injection h with h
          simp [Value.ownBlock] at hk
          omega))
      have e : Value.int .u8 p :: ((leI v k).map (Value.int .u8) ++ [.int .u8 (x % 256)]) = (p :: leI v (k + 1)).map (Value.int .u8) := by rw [HS.out]; simp
      rw [e] at hown
      have O6 := Lib.hid hown
      clear hown hgr HO HB hw
      go_wp2
      go_roundg g
      case measure => omega
      case rel => exact ⟨k + 1, g', cap', by omega, by go_num, rfl, O6.out, by rw [← HP.out], B6.out⟩
    · have : k = n := by omega
      subst this
      have HL : ((p :: leI v k)).length = k + 1 := by simp [leI_len]
      have hcv := run_convert_bytes_arg (P := Try.prog) wr 41 5 Try.underlying41 Try.underlying5 b 0 (k + 1) c (p :: leI v k) HL (fun i hi => by
        have hl : ((p :: leI v k).map (Value.int .u8))[i]? = some (.int .u8 ((p :: leI v k).getD i 0)) := by
          rw [List.getElem?_map, List.getD_eq_getElem?_getD, List.getElem?_eq_getElem (by rw [HL]; exact hi)]
          rfl
        rcases hO.2 with ⟨h, _⟩ | ⟨g2, cap2, cur, h, hg2, hh, h1, h2, h3, h4⟩
        · cases h
        · injection h with h
          injection h with h
          injection h with h
          subst h
          rw [← h4, List.getElem?_take_of_lt (by omega)] at hl
          simp only [World.cell?, hh]
          simpa using hl) 9 Try.underlying9
      have HB := Lib.hid hB
      clear hB hO HL
      go_wp2
      go_ret
      exact ⟨rfl, HB.out⟩
theorem StB.mk' {w w' : World} {s t : ByteArray} (h : s = t) (hb : Below w.heap.size w w') : StB w t (.returned (.string s)) w' := by subst h; exact ⟨rfl, hb⟩
set_option maxHeartbeats 4000000 in
theorem app_any (b : ByteArray) (v : Int) (w : World) (hb : b.size ≤ 281474976710656) (h0 : 0 ≤ v) (h1 : v < 18446744073709551616) : Calls Try.prog 7 #[.string b, .int .u64 v] w (StB w (b ++ enc v)) := by
  have E : Hid (enc v = strOfNums (encL v)) := rfl
  have z1 : ∀ x, (strOfNums [x]).size = 1 := fun _ => rfl
  by_cases c1 : v = 0
  · subst c1
    have hl : Hid (encL 0 = [0]) := by show _ = _; simp [encL]
    have k1 := conv1 w 0
    have k2 := z1 0
    clear z1
    go_enter Try.func7, Try.ntmps7
    go_wp2
    go_ret
    exact StB.mk' (by rw [E.out, hl.out]) (bal (Below.refl _ _) _)
  by_cases c2 : v = 1
  · subst c2
    have hl : Hid (encL 1 = [1]) := by show _ = _; simp [encL]
    have k1 := conv1 w 1
    have k2 := z1 1
    clear z1
    go_enter Try.func7, Try.ntmps7
    go_wp2
    go_ret
    exact StB.mk' (by rw [E.out, hl.out]) (bal (Below.refl _ _) _)
  have e1 : (v == 0) = false := beq_eq_false_iff_ne.2 c1
  have e2 : (v == 1) = false := beq_eq_false_iff_ne.2 c2
  by_cases c3 : v = 18446744073709551615
  · have hl : Hid (encL v = [255]) := by show _ = _; subst c3; simp [encL]
    have e3 : (v == 18446744073709551615) = true := beq_iff_eq.2 c3
    have k1 := conv1 w 255
    have k2 := z1 255
    clear z1 c3
    go_enter Try.func7, Try.ntmps7
    go_wp2
    go_ret
    exact StB.mk' (by rw [E.out, hl.out]) (bal (Below.refl _ _) _)
  have e3 : (v == 18446744073709551615) = false := beq_eq_false_iff_ne.2 c3
  by_cases c4 : v < 256
  · have hl : Hid (encL v = [10, v]) := by show _ = _; unfold encL; rw [if_neg c1, if_neg c2, if_neg c3, if_pos c4]; simp [leI]; omega
    have e4 : decide (v < 256) = true := decide_eq_true c4
    have k1 := conv2 w 10 v
    have k2 : (strOfNums [10, v]).size = 2 := rfl
    have hw : IntKind.u8.wrap v = v := by rw [wrap_u8]; omega
    clear z1
    go_enter Try.func7, Try.ntmps7
    go_wp2
    go_ret
    exact StB.mk' (by rw [E.out, hl.out]) (bal (Below.refl _ _) _)
  have e4 : decide (v < 256) = false := decide_eq_false c4
  clear z1
  by_cases c5 : v < 65536
  · have hl : Hid (encL v = 11 :: leI v 2) := by show _ = _; unfold encL; rw [if_neg c1, if_neg c2, if_neg c3, if_neg c4, if_pos c5]
    have k2 : (strOfNums (11 :: leI v 2)).size = 3 := by rw [son_size]; simp [leI_len]
    go_enter Try.func7, Try.ntmps7
    go_wp2_with fail
    refine (number_any 11 v 2 _ h0 h1 (by omega)).mono ?_
    rintro e w1 ⟨rfl, hb⟩
    have HB := Lib.hid hb
    clear hb
    go_wp2
    go_ret
    exact StB.mk' (by rw [E.out, hl.out]) HB.out
  by_cases c6 : v < 4294967296
  · have hl : Hid (encL v = 12 :: leI v 4) := by show _ = _; unfold encL; rw [if_neg c1, if_neg c2, if_neg c3, if_neg c4, if_neg c5, if_pos c6]
    have k2 : (strOfNums (12 :: leI v 4)).size = 5 := by rw [son_size]; simp [leI_len]
    go_enter Try.func7, Try.ntmps7
    go_wp2_with fail
    refine (number_any 12 v 4 _ h0 h1 (by omega)).mono ?_
    rintro e w1 ⟨rfl, hb⟩
    have HB := Lib.hid hb
    clear hb
    go_wp2
    go_ret
    exact StB.mk' (by rw [E.out, hl.out]) HB.out
  · have hl : Hid (encL v = 14 :: leI v 8) := by show _ = _; unfold encL; rw [if_neg c1, if_neg c2, if_neg c3, if_neg c4, if_neg c5, if_neg c6]
    have k2 : (strOfNums (14 :: leI v 8)).size = 9 := by rw [son_size]; simp [leI_len]
    go_enter Try.func7, Try.ntmps7
    go_wp2_with fail
    refine (number_any 14 v 8 _ h0 h1 (by omega)).mono ?_
    rintro e w1 ⟨rfl, hb⟩
    have HB := Lib.hid hb
    clear hb
    go_wp2
    go_ret
    exact StB.mk' (by rw [E.out, hl.out]) HB.out
set_option maxHeartbeats 4000000 in
theorem refI_any (v : Int) (w : World) (h0 : 0 ≤ v) (h1 : v < 18446744073709551616) : Calls Try.prog 9 #[.int .u64 v] w (StB w (enc v)) := by
  have E : Hid (enc v = strOfNums (encL v)) := rfl
  by_cases c1 : v = 0
  · subst c1
    have hl : Hid (encL 0 = [0]) := by show _ = _; simp [encL]
    go_enter Try.func9, Try.ntmps9
    go_wp2
    go_ret
    exact StB.mk' (by rw [E.out, hl.out]; rfl) (Below.refl _ _)
  by_cases c2 : v = 1
  · subst c2
    have hl : Hid (encL 1 = [1]) := by show _ = _; simp [encL]
    go_enter Try.func9, Try.ntmps9
    go_wp2
    go_ret
    exact StB.mk' (by rw [E.out, hl.out]; rfl) (Below.refl _ _)
  have e1 : (v == 0) = false := beq_eq_false_iff_ne.2 c1
  have e2 : (v == 1) = false := beq_eq_false_iff_ne.2 c2
  by_cases c3 : v = 18446744073709551615
  · have hl : Hid (encL v = [255]) := by show _ = _; subst c3; simp [encL]
    have e3 : (v == 18446744073709551615) = true := beq_iff_eq.2 c3
    clear c3
    go_enter Try.func9, Try.ntmps9
    go_wp2
    go_ret
    exact StB.mk' (by rw [E.out, hl.out]; rfl) (Below.refl _ _)
  have e3 : (v == 18446744073709551615) = false := beq_eq_false_iff_ne.2 c3
  by_cases c4 : v < 256
  · have hl : Hid (encL v = 10 :: leI v 1) := by show _ = _; unfold encL; rw [if_neg c1, if_neg c2, if_neg c3, if_pos c4]
    have k2 : (strOfNums (leI v 1)).size = 1 := by rw [son_size]; simp [leI_len]
    go_enter Try.func9, Try.ntmps9
    go_wp2_with fail
    refine (little_any v 1 _ h0 h1 (by omega)).mono ?_
    rintro e w1 ⟨rfl, hb⟩
    have HB := Lib.hid hb
    clear hb
    go_wp2
    go_ret
    exact StB.mk' (by rw [E.out, hl.out, ← son_cons]; rfl) HB.out
  by_cases c5 : v < 65536
  · have hl : Hid (encL v = 11 :: leI v 2) := by show _ = _; unfold encL; rw [if_neg c1, if_neg c2, if_neg c3, if_neg c4, if_pos c5]
    have k2 : (strOfNums (leI v 2)).size = 2 := by rw [son_size]; simp [leI_len]
    go_enter Try.func9, Try.ntmps9
    go_wp2_with fail
    refine (little_any v 2 _ h0 h1 (by omega)).mono ?_
    rintro e w1 ⟨rfl, hb⟩
    have HB := Lib.hid hb
    clear hb
    go_wp2
    go_ret
    exact StB.mk' (by rw [E.out, hl.out, ← son_cons]; rfl) HB.out
  by_cases c6 : v < 4294967296
  · have hl : Hid (encL v = 12 :: leI v 4) := by show _ = _; unfold encL; rw [if_neg c1, if_neg c2, if_neg c3, if_neg c4, if_neg c5, if_pos c6]
    have k2 : (strOfNums (leI v 4)).size = 4 := by rw [son_size]; simp [leI_len]
    go_enter Try.func9, Try.ntmps9
    go_wp2_with fail
    refine (little_any v 4 _ h0 h1 (by omega)).mono ?_
    rintro e w1 ⟨rfl, hb⟩
    have HB := Lib.hid hb
    clear hb
    go_wp2
    go_ret
    exact StB.mk' (by rw [E.out, hl.out, ← son_cons]; rfl) HB.out
  · have hl : Hid (encL v = 14 :: leI v 8) := by show _ = _; unfold encL; rw [if_neg c1, if_neg c2, if_neg c3, if_neg c4, if_neg c5, if_neg c6]
    have k2 : (strOfNums (leI v 8)).size = 8 := by rw [son_size]; simp [leI_len]
    go_enter Try.func9, Try.ntmps9
    go_wp2_with fail
    refine (little_any v 8 _ h0 h1 (by omega)).mono ?_
    rintro e w1 ⟨rfl, hb⟩
    have HB := Lib.hid hb
    clear hb
    go_wp2
    go_ret
    exact StB.mk' (by rw [E.out, hl.out, ← son_cons]; rfl) HB.out
end Go.Proofs.Ytkolghjjifcjkaa
