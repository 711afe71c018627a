/- Strings: AppendString, String, the reference's, and the statement. -/
import Derived.Test.YtkolghjjifcjkaaIag
namespace Go.Proofs.Ytkolghjjifcjkaa
open Go.RowKit

theorem ba_assoc (a b c : ByteArray) : (a ++ b) ++ c = a ++ (b ++ c) := by
  apply ByteArray.ext
  simp [ByteArray.data_append]
def hdS (v : ByteArray) : ByteArray := strOfNums [13, (v.size : Int)]
theorem hdS_ref (v : ByteArray) (h : v.size ≤ 255) : ({ data := #[13] } : ByteArray) ++ strOfNums (leI v.size 1) = hdS v := by
  have e : leI (v.size : Int) 1 = [(v.size : Int)] := by simp [leI]; omega
  rw [e]
  exact son_cons 13 [(v.size : Int)]
theorem astr_long (b v : ByteArray) (w : World) (hv : 255 < v.size) (hv2 : v.size ≤ 281474976710656) : Calls Try.prog 16 #[.string b, .string v] w (StB w b) := by
  go_enter Try.func16, Try.ntmps16
  go_wp2
  go_ret
  exact ⟨rfl, Below.refl _ _⟩
theorem astr_any (b v : ByteArray) (w : World) (hb : b.size ≤ 281474976710656) (hv : v.size ≤ 255) : Calls Try.prog 16 #[.string b, .string v] w (StB w (b ++ (hdS v ++ v))) := by
  have k1 := conv2 w 13 (v.size : Int)
  have k2 : (strOfNums [13, (v.size : Int)]).size = 2 := rfl
  have hw : IntKind.u8.wrap (v.size : Int) = v.size := by rw [wrap_u8]; omega
  have hz : (b ++ strOfNums [13, (v.size : Int)]).size = b.size + 2 := by rw [ByteArray.size_append]; rfl
  have E : Hid (hdS v = strOfNums [13, (v.size : Int)]) := rfl
  go_enter Try.func16, Try.ntmps16
  go_wp2
  go_ret
  exact StB.mk' (by rw [E.out, ba_assoc]) (bal (Below.refl _ _) _)
theorem rstr_any (v : ByteArray) (w : World) (hv : v.size ≤ 255) : Calls Try.prog 18 #[.string v] w (StB w (hdS v ++ v)) := by
  have P := little_any (v.size : Int) 1 w (by omega) (by omega) (by omega)
  have k2 : (strOfNums (leI (v.size : Int) 1)).size = 1 := by rw [son_size]; simp [leI_len]
  have E := Lib.hid (hdS_ref v hv)
  have hz : (({ data := #[13] } : ByteArray) ++ strOfNums (leI (v.size : Int) 1)).size = 2 := by rw [ByteArray.size_append, k2]; rfl
  have hw : IntKind.u64.wrap (v.size : Int) = v.size := by rw [IntKind.wrap_u64]; omega
  go_enter Try.func18, Try.ntmps18
  go_wp2_with fail
  refine P.mono ?_
  clear P
  rintro e w1 ⟨rfl, h⟩
  have B1 := Lib.hid h
  clear h
  go_wp2
  go_ret
  exact StB.mk' (by rw [E.out]) B1.out
def decS (s : ByteArray) : ByteArray × Int × Int :=
  if s.size = 0 then ({ data := #[] }, 0, 4) else if bt s 0 ≠ 13 then ({ data := #[] }, 0, 3)
  else if s.size < 2 then ({ data := #[] }, 0, 4) else if (s.size : Int) < 2 + bt s 1 then ({ data := #[] }, 0, 4) else (s.extract 2 (2 + (bt s 1).toNat), 2 + bt s 1, 0)
def triS (t : ByteArray × Int × Int) : Value := .tuple #[.string t.1, .int .i64 t.2.1, .int .i64 t.2.2]
theorem decS_enc (v z : ByteArray) (hv : v.size ≤ 255) : decS ((hdS v ++ v) ++ z) = (v, (v.size : Int) + 2, 0) := by
  have hb : ∀ x ∈ [(13 : Int), (v.size : Int)], 0 ≤ x ∧ x < 256 := by
    intro x hx
    simp at hx
    rcases hx with rfl | rfl <;> omega
  have hs : (hdS v).size = 2 := rfl
  have hsz : ((hdS v ++ v) ++ z).size = 2 + v.size + z.size := by rw [ByteArray.size_append, ByteArray.size_append, hs]
  have h0 : bt ((hdS v ++ v) ++ z) 0 = 13 := by
    rw [bt_app_l _ _ _ (by rw [ByteArray.size_append, hs]; omega), bt_app_l _ _ _ (by rw [hs]; omega)]
    exact bt_son _ 0 hb (by simp)
  have h1 : bt ((hdS v ++ v) ++ z) 1 = v.size := by
    rw [bt_app_l _ _ _ (by rw [ByteArray.size_append, hs]; omega), bt_app_l _ _ _ (by rw [hs]; omega)]
    exact bt_son _ 1 hb (by simp)
  unfold decS
  rw [if_neg (by omega), h0, if_neg (by simp), if_neg (by omega), h1, if_neg (by omega)]
  have e : ((hdS v ++ v) ++ z).extract 2 (2 + ((v.size : Int)).toNat) = v := by
    apply ByteArray.ext
    rw [ByteArray.data_extract, ByteArray.data_append, ByteArray.data_append, Int.toNat_natCast]
    have hd : (hdS v).data.size = 2 := rfl
    have hv2 : v.data.size = v.size := rfl
    rw [← hv2]
    apply Array.ext'
    have hl : (hdS v).data.toList.length = 2 := by rw [Array.length_toList]; rfl
    have hd2 : List.drop 2 (hdS v).data.toList = [] := List.drop_of_length_le (by rw [hl]; omega)
    simp [Array.toList_extract, List.extract, hs, hd2]
    exact List.take_of_length_le (by rw [Array.length_toList]; exact Nat.le_refl _)
  rw [e, Int.add_comm]
theorem Below.drewN {B : Nat} {a b : World} (h : Below B a b) (n : Nat) : Below B a (b.drewN n) := ⟨h.os, h.tape, h.output, h.size, h.block⟩
def TrS (w : World) (t : ByteArray × Int × Int) (e : Ending) (w' : World) : Prop := e = .returned (triS t) ∧ Below w.heap.size w w'
theorem TrS.mk {w w' : World} {t : ByteArray × Int × Int} {a : ByteArray} {b c : Int} (h : t = (a, b, c)) (hb : Below w.heap.size w w') : TrS w t (.returned (.tuple #[.string a, .int .i64 b, .int .i64 c])) w' := by subst h; exact ⟨rfl, hb⟩
set_option maxHeartbeats 4000000 in
theorem str_any (s : ByteArray) (w : World) (hs : s.size ≤ 281474976710656) : Calls Try.prog 17 #[.string s] w (TrS w (decS s)) := by
  by_cases h0 : s.size = 0
  · have F : Hid (decS s = ({ data := #[] }, 0, 4)) := by show _ = _; unfold decS; rw [if_pos h0]
    have he := emp_t s h0
    clear h0
    go_enter Try.func17, Try.ntmps17
    go_wp2
    go_ret3
    exact TrS.mk F.out (Below.refl _ _)
  have he := emp_f s h0
  have hs1 : 0 < s.size := by omega
  have ha := bt_at s 0 hs1
  by_cases h1 : bt s 0 ≠ 13
  · have F : Hid (decS s = ({ data := #[] }, 0, 3)) := by show _ = _; unfold decS; rw [if_neg h0, if_pos h1]
    have hb : (bt s 0 != 13) = true := bne_iff_ne.2 h1
    generalize bt s 0 = y at *
    clear h0 h1
    go_enter Try.func17, Try.ntmps17
    go_wp2
    go_ret3
    exact TrS.mk F.out (Below.refl _ _)
  have h1 : bt s 0 = 13 := by omega
  rw [h1] at ha
  by_cases h2 : s.size < 2
  · have F : Hid (decS s = ({ data := #[] }, 0, 4)) := by show _ = _; unfold decS; rw [if_neg h0, if_neg (fun q => q h1), if_pos h2]
    have hd : decide ((s.size : Int) < 2) = true := decide_eq_true (by omega)
    clear h0 h1
    go_enter Try.func17, Try.ntmps17
    go_wp2
    go_ret3
    exact TrS.mk F.out (Below.refl _ _)
  have hs2 : 1 < s.size := by omega
  have hb1 := bt_at s 1 hs2
  have hbd := bt_bd s 1
  have hd : decide ((s.size : Int) < 2) = false := decide_eq_false (by omega)
  by_cases h3 : (s.size : Int) < 2 + bt s 1
  · have F : Hid (decS s = ({ data := #[] }, 0, 4)) := by show _ = _; unfold decS; rw [if_neg h0, if_neg (fun q => q h1), if_neg h2, if_pos h3]
    generalize bt s 1 = y at *
    have hd3 : decide ((s.size : Int) < 2 + y) = true := decide_eq_true h3
    clear h0 h1 h2
    go_enter Try.func17, Try.ntmps17
    go_wp2
    go_ret3
    exact TrS.mk F.out (Below.refl _ _)
  have F : Hid (decS s = (s.extract 2 (2 + (bt s 1).toNat), 2 + bt s 1, 0)) := by show _ = _; unfold decS; rw [if_neg h0, if_neg (fun q => q h1), if_neg h2, if_neg h3]
  obtain ⟨y, hy⟩ : ∃ y : Nat, bt s 1 = y := ⟨(bt s 1).toNat, by omega⟩
  rw [hy] at hb1 F h3 hbd
  rw [Int.toNat_natCast] at F
  have hd3 : decide ((s.size : Int) < 2 + (y : Int)) = false := decide_eq_false h3
  have e1 : IntKind.i64.wrap (2 + (y : Int)) = 2 + (y : Int) := IntWalk.i64_in _ (by omega)
  have e2 : ((2 : Int) + y).toNat = 2 + y := by omega
  have e3 : (2 : Int) ≤ 2 + (y : Int) := by omega
  have e4 : (2 : Int) + (y : Int) ≤ s.size := by omega
  have e5 : 0 ≤ (2 : Int) + (y : Int) := by omega
  have E1 := Lib.hid e1
  clear h0 h1 h2 hy h3 e1
  go_enter Try.func17, Try.ntmps17
  go_wp2
  go_ret3
  exact TrS.mk F.out (Below.refl _ _)
set_option maxHeartbeats 4000000 in
theorem rdstr_any (s : ByteArray) (w : World) (hs : s.size ≤ 281474976710656) : Calls Try.prog 19 #[.string s] w (TrS w (decS s)) := by
  by_cases h0 : s.size = 0
  · have F : Hid (decS s = ({ data := #[] }, 0, 4)) := by show _ = _; unfold decS; rw [if_pos h0]
    have he := emp_t s h0
    clear h0
    go_enter Try.func19, Try.ntmps19
    go_wp2
    go_ret3
    exact TrS.mk F.out (Below.refl _ _)
  have he := emp_f s h0
  have hs1 : 0 < s.size := by omega
  have ha := bt_at s 0 hs1
  by_cases h1 : bt s 0 ≠ 13
  · have F : Hid (decS s = ({ data := #[] }, 0, 3)) := by show _ = _; unfold decS; rw [if_neg h0, if_pos h1]
    have hb : (bt s 0 != 13) = true := bne_iff_ne.2 h1
    generalize bt s 0 = y at *
    clear h0 h1
    go_enter Try.func19, Try.ntmps19
    go_wp2
    go_ret3
    exact TrS.mk F.out (Below.refl _ _)
  have h1 : bt s 0 = 13 := by omega
  rw [h1] at ha
  by_cases h2 : s.size < 2
  · have F : Hid (decS s = ({ data := #[] }, 0, 4)) := by show _ = _; unfold decS; rw [if_neg h0, if_neg (fun q => q h1), if_pos h2]
    have hd : decide ((s.size : Int) < 2) = true := decide_eq_true (by omega)
    clear h0 h1
    go_enter Try.func19, Try.ntmps19
    go_wp2
    go_ret3
    exact TrS.mk F.out (Below.refl _ _)
  have hs2 : 1 < s.size := by omega
  have hb1 := bt_at s 1 hs2
  have hbd := bt_bd s 1
  have hd : decide ((s.size : Int) < 2) = false := decide_eq_false (by omega)
  by_cases h3 : (s.size : Int) < 2 + bt s 1
  · have F : Hid (decS s = ({ data := #[] }, 0, 4)) := by show _ = _; unfold decS; rw [if_neg h0, if_neg (fun q => q h1), if_neg h2, if_pos h3]
    generalize bt s 1 = y at *
    have hd3 : decide ((s.size : Int) < 2 + y) = true := decide_eq_true h3
    clear h0 h1 h2
    go_enter Try.func19, Try.ntmps19
    go_wp2
    go_ret3
    exact TrS.mk F.out (Below.refl _ _)
  have F : Hid (decS s = (s.extract 2 (2 + (bt s 1).toNat), 2 + bt s 1, 0)) := by show _ = _; unfold decS; rw [if_neg h0, if_neg (fun q => q h1), if_neg h2, if_neg h3]
  obtain ⟨y, hy⟩ : ∃ y : Nat, bt s 1 = y := ⟨(bt s 1).toNat, by omega⟩
  rw [hy] at hb1 F h3 hbd
  rw [Int.toNat_natCast] at F
  have hd3 : decide ((s.size : Int) < 2 + (y : Int)) = false := decide_eq_false h3
  have e1 : IntKind.i64.wrap (2 + (y : Int)) = 2 + (y : Int) := IntWalk.i64_in _ (by omega)
  have e2 : ((2 : Int) + y).toNat = 2 + y := by omega
  have e3 : (2 : Int) ≤ 2 + (y : Int) := by omega
  have e4 : (2 : Int) + (y : Int) ≤ s.size := by omega
  have e5 : 0 ≤ (2 : Int) + (y : Int) := by omega
  have E1 := Lib.hid e1
  clear h0 h1 h2 hy h3 e1
  go_enter Try.func19, Try.ntmps19
  go_upto_region 7 with fail
  have e1 := E1.out
  go_quiet (fail)
  clear e1
  go_wp2
  go_ret3
  exact TrS.mk F.out (Below.drewN (Below.refl _ _) _)
set_option maxRecDepth 100000 in
set_option maxHeartbeats 8000000 in
theorem stg_any (b v s : ByteArray) (n : Int) (w : World) (hb : b.size ≤ 140737488351232) (hv : v.size ≤ 140737488351232) (hs : s.size ≤ 140737488351232) (hn : (Lit.int .u8 n).wf = true) : Calls Try.prog 6 #[.string b, .string v, .string s, .int .u8 n] w (LawPost w) := by
  have hn' := bounds_u8 hn
  clear hn
  have REST : ∀ (x : ByteArray) (w1 : World), x.size ≤ 255 → Below w.heap.size w w1 → True := fun _ _ _ _ => trivial
  obtain ⟨m, hm⟩ : ∃ m : Nat, m = min v.size 255 := ⟨_, rfl⟩
  have hx : (v.extract 0 m).size = m := by rw [ByteArray.size_extract]; omega
  have hm255 : m ≤ 255 := by omega
  have hmv : m ≤ v.size := by omega
  have P1 := fun w1 => rstr_any (v.extract 0 m) w1 (by omega)
  have P2 := fun w1 => str_any ((hdS (v.extract 0 m) ++ v.extract 0 m) ++ s) w1 (by rw [ByteArray.size_append, ByteArray.size_append, hx]; show 2 + _ + _ ≤ _; omega)
  rw [decS_enc (v.extract 0 m) s (by omega)] at P2
  have P3 := fun w1 => str_any ((({ data := #[13] } : ByteArray) ++ strOfNums [n]) ++ s) w1 (by rw [ByteArray.size_append]; show 2 + _ ≤ _; omega)
  have P4 := fun w1 => rdstr_any ((({ data := #[13] } : ByteArray) ++ strOfNums [n]) ++ s) w1 (by rw [ByteArray.size_append]; show 2 + _ ≤ _; omega)
  have P5 := fun w1 => astr_any b (v.extract 0 m) w1 (by omega) (by omega)
  have k1 := fun w1 => conv1 w1 n
  have z1 : (({ data := #[13] } : ByteArray) ++ strOfNums [n]).size = 2 := rfl
  have z2 : (strOfNums [n]).size = 1 := rfl
  have z3 : (hdS (v.extract 0 m) ++ v.extract 0 m).size = 2 + m := by rw [ByteArray.size_append, hx]; rfl
  have z4 : (({ data := #[13] } : ByteArray) ++ strOfNums [n] ++ s).size = 2 + s.size := by rw [ByteArray.size_append]; rfl
  generalize decS ((({ data := #[13] } : ByteArray) ++ strOfNums [n]) ++ s) = t at *
  obtain ⟨ta, tb, tc⟩ := t
  have q1 := str_t (a := v.extract 0 m) rfl
  have q2 := str_t (a := b ++ (hdS (v.extract 0 m) ++ v.extract 0 m)) rfl
  have q3 := str_t (a := ta) rfl
  have q4 : (tb == tb) = true := by simp
  have q5 : (tc == tc) = true := by simp
  have q6 : (((m : Int) + 2) == ((m : Int) + 2)) = true := by simp
  have q7 := str_t (a := b) rfl
  have P0 := fun h => astr_long b v w h (by omega)
  rw [hx] at P2
  clear REST
  by_cases hl : 255 < v.size
  · have m255 : m = 255 := by omega
    subst m255
    have P0 := P0 hl
    clear hm
    go_enter Try.func6, Try.ntmps6
    go_wp2_with fail
    refine P0.mono ?_
    clear P0
    rintro e w1 ⟨rfl, h⟩
    have B1 := Lib.hid h
    clear h
    go_wp2_with fail
    refine (P1 _).mono ?_
    rintro e w2 ⟨rfl, h⟩
    have B2 := Lib.hid (bel2 B1.out h)
    clear h B1
    go_wp2_with fail
    refine (P2 _).mono ?_
    rintro e w3 ⟨rfl, h⟩
    unfold triS
    have B3 := Lib.hid (bel2 B2.out h)
    clear h B2 P2
    go_wp2_with fail
    refine (P3 _).mono ?_
    rintro e w4 ⟨rfl, h⟩
    unfold triS
    have B4 := Lib.hid (bel2 (bal B3.out (Obj.cells #[.int .u8 n] 5)) h)
    clear h B3 P3
    go_wp2_with fail
    refine (P4 _).mono ?_
    rintro e w5 ⟨rfl, h⟩
    unfold triS
    have B5 := Lib.hid (bel2 B4.out h)
    clear h B4 P4
    go_wp2_with fail
    refine (awake_any _).mono ?_
    rintro e w6 ⟨rfl, h⟩
    have B6 := Lib.hid (bel2 B5.out h)
    clear h B5
    go_wp2_with fail
    refine (P5 _).mono ?_
    rintro e w7 ⟨rfl, h⟩
    have B7 := Lib.hid (bel2 B6.out h)
    clear h B6 P5
    go_wp2_with fail
    refine (P1 _).mono ?_
    rintro e w8 ⟨rfl, h⟩
    have B8 := Lib.hid (bel2 B7.out h)
    clear h B7 P1
    go_wp2
    go_ret
    exact ⟨rfl, B8.out⟩
  · have ms : m = v.size := by omega
    subst ms
    have ev : v.extract 0 v.size = v := by simp
    rw [ev] at P1 P2 P5 q1 q2 z3
    clear P0 hm hx ev
    have B1 := Lib.hid (Below.refl w.heap.size w)
    go_enter Try.func6, Try.ntmps6
    go_wp2_with fail
    refine (P1 _).mono ?_
    rintro e w2 ⟨rfl, h⟩
    have B2 := Lib.hid (bel2 B1.out h)
    clear h B1
    go_wp2_with fail
    refine (P2 _).mono ?_
    rintro e w3 ⟨rfl, h⟩
    unfold triS
    have B3 := Lib.hid (bel2 B2.out h)
    clear h B2 P2
    go_wp2_with fail
    refine (P3 _).mono ?_
    rintro e w4 ⟨rfl, h⟩
    unfold triS
    have B4 := Lib.hid (bel2 (bal B3.out (Obj.cells #[.int .u8 n] 5)) h)
    clear h B3 P3
    go_wp2_with fail
    refine (P4 _).mono ?_
    rintro e w5 ⟨rfl, h⟩
    unfold triS
    have B5 := Lib.hid (bel2 B4.out h)
    clear h B4 P4
    go_wp2_with fail
    refine (awake_any _).mono ?_
    rintro e w6 ⟨rfl, h⟩
    have B6 := Lib.hid (bel2 B5.out h)
    clear h B5
    go_wp2_with fail
    refine (P5 _).mono ?_
    rintro e w7 ⟨rfl, h⟩
    have B7 := Lib.hid (bel2 B6.out h)
    clear h B6 P5
    go_wp2_with fail
    refine (P1 _).mono ?_
    rintro e w8 ⟨rfl, h⟩
    have B8 := Lib.hid (bel2 B7.out h)
    clear h B7 P1
    go_wp2
    go_ret
    exact ⟨rfl, B8.out⟩
end Go.Proofs.Ytkolghjjifcjkaa
