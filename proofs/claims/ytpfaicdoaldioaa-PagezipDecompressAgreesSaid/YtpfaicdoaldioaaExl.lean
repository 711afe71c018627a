/- expand, the packed form. -/
import Derived.Test.YtpfaicdoaldioaaExp
namespace Go.Proofs.Ytpfaicdoaldioaa
open Go.ChangeShapes Go.WideShapes Go.ChangeAt Go.RowKit Go.Deep Go.Joins

set_option maxRecDepth 20000 in
set_option maxHeartbeats 4000000 in
theorem ex_long (s : ByteArray) (w : World) (hb : bt s 0 ≠ 0) (hl : 17 ≤ s.size) (hz : s.size ≤ 281474976710656) : Calls Try.prog 19 #[.string s] w (ExP w (exR s)) := by
  have F : Hid (∀ n : Nat, n = 64 → exR s = (exS s n).map (fun t => strOfNums t.l)) := fun n hn => by subst hn; unfold exR; rw [if_neg (by omega), if_neg hb, if_neg (by omega)]
  have FN : Hid (∀ i : Nat, i ≤ 64 → exS s i = none → exR s = none) := fun i hi h => by
    rw [F.out 64 rfl]
    have := exS_none s i h (64 - i)
    rw [show i + (64 - i) = 64 by omega] at this
    rw [this]
    rfl
  have he := emp_f s (by omega)
  have hs : 0 < s.size := by omega
  have ha := bt_at s 0 hs
  have e0 : (bt s 0 == 0) = false := beq_eq_false_iff_ne.2 hb
  obtain ⟨i0, hi, hz0, hz1, hz2⟩ := info_parts info5
  have HI := Lib.hid (And.intro hi (And.intro hz0 (And.intro hz1 hz2)))
  clear hi hz0 hz1 hz2 hb
  go_enter Try.func19, Try.ntmps19
  go_wp2_with fail
  have X0 := Lib.hid (xs_0 s w)
  generalize hw0 : w.alloc _ = w0 at *
  clear hw0 he ha e0
  go_loopg [22, 5] 64 (fun g vi vo wr => ∃ i : Nat, ∃ t : Ext, i + g = 64 ∧ vi = .int .i64 i ∧ Xs s w wr w.heap.size i vo t)
  case atStart => exact ⟨0, _, rfl, rfl, X0.out⟩
  case round =>
    clear X0
    obtain ⟨i, t, hi, rfl, hX⟩ := hrel
    by_cases hlt : i < 64
    · obtain ⟨g, rfl⟩ : ∃ g, gk = g + 1 := ⟨gk - 1, by omega⟩
      obtain ⟨hl4, hd, hr⟩ := exS_inv s i t hX.ex
      have P := rw_any t.r t.d w.heap.size (tagN s i) wr hX.rd hd (tagN_lt s i) (by omega)
      have ET := tagN_eq s i
      have hq : ((i : Int)).tdiv 4 = ((i / 4 : Nat) : Int) := by rw [Int.tdiv_eq_ediv_of_nonneg (by omega)]; omega
      have hrr : ((i : Int)).tmod 4 = ((i % 4 : Nat) : Int) := by rw [Int.tmod_eq_emod_of_nonneg (by omega)]; omega
      obtain ⟨q, hqq⟩ : ∃ q, i / 4 = q := ⟨_, rfl⟩
      obtain ⟨r, hr2⟩ : ∃ r, i % 4 = r := ⟨_, rfl⟩
      rw [hqq] at ET hq
      rw [hr2] at ET hrr
      have hq16 : q < 16 := by omega
      have hr4 : r < 4 := by omega
      have hx := bt_bd s (1 + q)
      have hsz : 1 + q < s.size := by omega
      have hax := bt_at s (1 + q) hsz
      have hA := and3 (bt s (1 + q) / 2 ^ (2 * r)) (Int.ediv_nonneg hx.1 (Int.le_of_lt (Int.pow_pos (by omega)))) (by have := Int.ediv_le_self (2 ^ (2 * r)) hx.1; omega)
      rw [← ET] at hA
      have EX : Hid (exS s (i + 1) = exN t (tagN s i)) := by show (exS s i).bind _ = _; rw [hX.ex]; rfl
      have HG := Lib.hid hi
      have HX := Lib.hid hX
      have h3 : decide ((i : Int) < 64) = true := decide_eq_true (by omega)
      clear ET hi hX hr hd
      generalize tagN s i = tag at *
      generalize bt s (1 + q) = x at *
      have H4 := Lib.hid hl4
      clear hqq hr2 hl4
      have j1 : (0 : Int) ≤ 1 + (q : Int) := by omega
      have j2 : ((1 : Int) + (q : Int)).toNat = 1 + q := by omega
      have j7 : (1 : Int) + (q : Int) < (s.size : Int) := by omega
      have j5 : ((2 : Int) * (r : Int)).toNat = 2 * r := by omega
      rcases hu : rdw t.r t.d tag with _ | u
      · have F2 : Hid (exR s = none) := FN.out (i + 1) (by omega) (by rw [EX.out]; unfold exN; rw [hu]; rfl)
        rw [hu] at P
        go_wp2_with fail
        refine P.mono ?_
        rintro e w1 ⟨hc, rfl⟩
        have HB := Lib.hid (Below.chg HX.out.bel hc HX.out.bel.size (fun k hk => by subst hk; exact Nat.le_refl _))
        clear P hc EX HX F FN
        unfold wV
        go_wp2
        go_ret2
        exact ExP.none' F2.out HB.out
      · have E2 : Hid (exS s (i + 1) = some ⟨t.l ++ leI u.w 4, u.r, u.d⟩) := by show _ = _; rw [EX.out]; unfold exN; rw [hu]; rfl
        have hw := (rdw_bd hu (exS_inv s i t HX.out.ex).2.1).1
        rw [hu] at P
        go_wp2_with fail
        refine P.mono ?_
        rintro e w1 ⟨hc, rfl, hrd⟩
        have HB := Lib.hid (Below.chg HX.out.bel hc HX.out.bel.size (fun k hk => by subst hk; exact Nat.le_refl _))
        have HO := Lib.hid (own_chg HX.out.own hc (fun k hk e => own_ne HX.out.own HX.out.rd (by rw [hk, e])))
        have HR := Lib.hid hrd
        have k0 : IntKind.u8.wrap u.w = u.w % 256 := wrap_u8 _
        have k1 : IntKind.u8.wrap (u.w / 256) = u.w / 256 % 256 := wrap_u8 _
        have k2 : IntKind.u8.wrap (u.w / 65536) = u.w / 65536 % 256 := wrap_u8 _
        have k3 : IntKind.u8.wrap (u.w / 16777216) = u.w / 16777216 % 256 := wrap_u8 _
        have L4 : Hid (leI u.w 4 = [u.w % 256, u.w / 256 % 256, u.w / 65536 % 256, u.w / 16777216 % 256]) := by
          show [u.w % 256, u.w / 256 % 256, u.w / 256 / 256 % 256, u.w / 256 / 256 / 256 % 256] = _
          rw [show u.w / 256 / 256 / 256 = u.w / 16777216 by omega, show u.w / 256 / 256 = u.w / 65536 by omega]
        clear P hc EX HX F FN hrd hu
        unfold wV
        generalize u.w = x at *
        go_wp2_with (at_builtin; refine wpList_append_own _ rfl (.tmp 41) (.tmp 53) 31 rfl w.heap.size 5 i0 _ 1 1 Try.underlying31 HI.out.1 HI.out.2.1 HI.out.2.2.1 HI.out.2.2.2 rfl (by decide) _ t.l.length (t.l.map (Value.int .u8)) rfl (HO.out.alloc _) ⟨w1.heap.size, 0, none⟩ 4 4 [.int .u8 (x % 256), .int .u8 (x / 256 % 256), .int .u8 (x / 65536 % 256), .int .u8 (x / 16777216 % 256)] rfl rfl ?c1 ?c2 ?c3 ?c4 ?c5 ?_)
        case c1 => intro j u hu; match j, hu with | 0, hu => (simp at hu; subst hu; simp [Addr.add, go_sem]) | 1, hu => (simp at hu; subst hu; simp [Addr.add, go_sem]) | 2, hu => (simp at hu; subst hu; simp [Addr.add, go_sem]) | 3, hu => (simp at hu; subst hu; simp [Addr.add, go_sem])
        case c2 => intro u hu; simp at hu; rcases hu with rfl | rfl | rfl | rfl <;> rfl
        case c3 => have := H4.out; unfold maxLen; omega
        case c4 => have := H4.out; omega
        case c5 => have := HB.out.size; simp; omega
        intro v' w4 hown hgr _
        have e1 : t.l.map (Value.int .u8) ++ [.int .u8 (x % 256), .int .u8 (x / 256 % 256), .int .u8 (x / 65536 % 256), .int .u8 (x / 16777216 % 256)] = (t.l ++ leI x 4).map (Value.int .u8) := by rw [L4.out]; simp
        have e2 : t.l.length + 4 = (t.l ++ leI x 4).length := by rw [List.length_append, leI_len]
        rw [e1, e2] at hown
        have R4 := (HR.out.chg (Chg.alloc (fun _ => False) w1 _) (fun x => x)).chg (Chg.of_grown hgr) (own_ne HO.out HR.out)
        have B4 := (bal HB.out (Obj.cells #[.int .u8 (x % 256), .int .u8 (x / 256 % 256), .int .u8 (x / 65536 % 256), .int .u8 (x / 16777216 % 256)] 5)).grown hgr (by have := HB.out.size; simp; omega) (fun k hk => (HO.out.lt k hk).1)
        have X4 : Hid (Xs s w w4 w.heap.size (i + 1) v' ⟨t.l ++ leI x 4, u.r, u.d⟩) := ⟨E2.out, hown, R4, B4, Nat.le_refl _⟩
        clear hown hgr R4 B4 e1 e2 HO HR HB L4 E2 H4 k0 k1 k2 k3
        go_wp2_with fail
        go_roundg g
        case measure => omega
        case rel => exact ⟨i + 1, _, by have := HG.out; omega, by go_num, X4.out⟩
    · have F2 : Hid (exR s = some (strOfNums t.l)) := by show _ = _; rw [F.out i (by omega), hX.ex]; rfl
      have hl4 := (exS_inv s i t hX.ex).1
      have h3 : ¬ (i : Int) < 64 := by omega
      have h4 : decide ((i : Int) < 64) = false := decide_eq_false h3
      have hO := hX.own
      obtain ⟨b, c, rfl⟩ := own_form hO (by omega)
      have hcv := run_convert_bytes_arg (P := Try.prog) wr 31 5 Try.underlying31 Try.underlying5 b 0 t.l.length c t.l rfl (fun j hj => by
        rw [Nat.zero_add, hO.cellAt j (by omega), List.getElem?_map, List.getD_eq_getElem?_getD, List.getElem?_eq_getElem hj]
        rfl) 9 Try.underlying9
      have HB := Lib.hid hX.bel
      clear hX hO F FN hi hlt hl4
      generalize t.l = l at *
      generalize strOfNums l = z at *
      go_upto_region 17 with fail
      clear h3 h4
      go_wp2
      go_ret2
      exact ExP.some' F2.out HB.out
theorem exp_any (s : ByteArray) (w : World) (hz : s.size ≤ 281474976710656) : Calls Try.prog 19 #[.string s] w (ExP w (exR s)) := by
  by_cases h0 : s.size = 0
  · exact ex_short s w (.inl h0) hz
  by_cases hb : bt s 0 = 0
  · exact ex_short s w (.inr (.inl ⟨hb, by omega⟩)) hz
  by_cases hl : s.size < 17
  · exact ex_short s w (.inr (.inr ⟨hb, by omega, hl⟩)) hz
  · exact ex_long s w hb (by omega) hz
end Go.Proofs.Ytpfaicdoaldioaa
