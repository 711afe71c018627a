/- The reference: Write. -/
import Derived.Test.YtoafoikphpdimaaRwr
namespace Go.Proofs.Ytoafoikphpdimaa
open Go.ChangeShapes Go.WideShapes Go.ChangeAt Go.RowKit Go.Deep Go.Joins
section
variable {F : Nat → Prop} {w : World} {s : DkS} {x : RX}
set_option maxRecDepth 20000 in
set_option maxHeartbeats 8000000 in
theorem rwrite_any (h : Rk F w s x) (i : Int) (d : ByteArray) (hC : s.C.length ≤ 1000) : Calls Try.prog 31 #[.pointer (some ⟨s.L, 0, none⟩), .int .i64 i, .string d] w (RpO w F (wrS s i d).1 (.int .i64 (wrS s i d).2)) := by
  obtain ⟨c0, c1, c2, c3, c4⟩ := h.cells
  have hl := h.lt.1
  have hxc := h.lenX
  by_cases k1 : i < 0
  · have G : Hid (RpO w F (wrS s i d).1 (.int .i64 (wrS s i d).2) (.returned (.int .i64 1)) w) := by
      show RpO _ _ _ _ _ _
      unfold wrS
      rw [show hasB s i = false by unfold hasB; rw [decide_eq_false (by omega)]; rfl]
      exact ⟨rfl, x, Rw.refl h⟩
    clear h c1 c2 c3 c4
    go_enter Try.func31, Try.ntmps31
    go_wp2
    go_ret
    exact G.out
  by_cases k2 : (s.n : Int) ≤ i
  · have G : Hid (RpO w F (wrS s i d).1 (.int .i64 (wrS s i d).2) (.returned (.int .i64 1)) w) := by
      show RpO _ _ _ _ _ _
      unfold wrS
      rw [show hasB s i = false by unfold hasB; rw [decide_eq_false (show ¬ i < s.n by omega), Bool.and_false]]
      exact ⟨rfl, x, Rw.refl h⟩
    clear h c1 c2 c3 c4
    go_enter Try.func31, Try.ntmps31
    go_wp2
    go_ret
    exact G.out
  have hh : hasB s i = true := by unfold hasB; rw [decide_eq_true (by omega), decide_eq_true (by omega)]; rfl
  obtain ⟨j, rfl⟩ := Int.eq_ofNat_of_zero_le (show 0 ≤ i by omega)
  have hj : j < s.n := by omega
  by_cases hz : d.size = 64
  case neg =>
    have G : Hid (RpO w F (wrS s j d).1 (.int .i64 (wrS s j d).2) (.returned (.int .i64 1)) w) := by
      show RpO _ _ _ _ _ _
      unfold wrS
      rw [hh, decide_eq_false hz]
      exact ⟨rfl, x, Rw.refl h⟩
    have hz2 : ((d.size : Int) != 64) = true := by simp; omega
    clear h c1 c2 c3 c4 hh
    go_enter Try.func31, Try.ntmps31
    go_wp2
    go_ret
    exact G.out
  case pos =>
  have hz2 : ((d.size : Int) != 64) = false := by simp; omega
  have W : Hid (wrS s j d = (if s.off then (s, 16) else if s.pl then (if s.pw = 0 then (loS s s.q s.qn, 16) else (apS { s with pw := s.pw - 1 } j d, 0)) else (apS s j d, 0))) := by
    show _ = _
    unfold wrS
    rw [hh, decide_eq_true hz]
    rfl
  generalize wrS s j d = R at *
  clear hh k1 k2
  have HZ := Lib.hid hz
  clear hz
  cases hb : s.off with
  | true =>
    have G : Hid (RpO w F R.1 (.int .i64 R.2) (.returned (.int .i64 16)) w) := by
      show RpO _ _ _ _ _ _
      rw [W.out, if_pos hb]
      exact ⟨rfl, x, Rw.refl h⟩
    rw [hb] at c2
    clear h hb c1 c3 c4
    go_enter Try.func31, Try.ntmps31
    go_wp2
    go_ret
    exact G.out
  | false =>
  rw [hb] at c2
  have W : Hid (R = if s.pl then (if s.pw = 0 then (loS s s.q s.qn, 16) else (apS { s with pw := s.pw - 1 } j d, 0)) else (apS s j d, 0)) := W.out.trans (if_neg (by simp [hb]))
  clear hb
  obtain ⟨i0, hi0, hzz⟩ := Option.map_eq_some_iff.1 info85
  simp only [Prod.mk.injEq] at hzz
  obtain ⟨hi1, hi2, hi3⟩ := hzz
  cases hp : s.pl with
  | true =>
    rw [show plC s = s.pw by unfold plC; exact if_pos hp] at c3
    by_cases hw : s.pw = 0
    · have hk := h.kq hp
      have LP := rlose_any h h.kp (fun a e hn => ⟨(h.kL a e hn).1, (h.kL a e hn).2.1⟩)
      rw [hk.1, hk.2] at LP
      rw [hk.1] at c4
      have G : Hid (∀ w', (∃ x, Rw w F w' (loS s s.q s.qn) x) → RpO w F R.1 (.int .i64 R.2) (.returned (.int .i64 16)) w') := fun w' H => by
        rw [W.out, if_pos hp, if_pos hw]
        exact ⟨rfl, H⟩
      rw [hw] at c3
      clear h hp hw hk
      go_enter Try.func31, Try.ntmps31
      go_wp2_with (go_at_call 47; refine LP.mono ?_; rintro e w1 ⟨rfl, H⟩; have G2 := Lib.hid (G.out _ H); clear H)
      go_ret
      exact G2.out
    · have hp0 : (s.pw == 0) = false := by simpa using hw
      have hpb := h.pb
      have hw1 : 1 ≤ s.pw := by omega
      have hgt : 0 < s.pw := by omega
      have HS := Lib.hid (rw_L (s := s) (j := 3) (Rw.refl h) (fun _ h => h.down hp hw1))
      have HD := h.down hp hw1
      have hf3 := h.fz 3
      have RES : Hid (R = ({ s with pw := s.pw - 1, C := s.C ++ [⟨j, d⟩] }, 0)) := by
        show _ = _
        rw [W.out, if_pos hp, if_neg hw]
        rfl
      clear W
      generalize hq : s.pw = pw at *
      go_enter Try.func31, Try.ntmps31
      go_upto_region 10 with fail
      have c1 := HD.cells.2.1
      simp only at c1
      clear c0 c2 c3 c4 hl h
      generalize w.setCell ⟨s.L, 3, none⟩ (.int .i64 (pw - 1)) = W1 at *
      have hown := HD.cac
      have hlz := HD.lt
      have hvL := HD.vL
      have HO := HD.obj
      try simp only at hown hlz hvL HO
      generalize hcn : s.C.length = cn at *
      have hB : Below W1.heap.size W1 (W1.alloc (.cells #[.int .i64 (j : Nat), .string d] 85)) := (Below.refl _ W1).alloc (Nat.le_refl _) _
      have own2 : (W1.alloc (.cells #[.int .i64 (j : Nat), .string d] 85)).ownsRow 0 85 2 x.v cn (cwl s.C) := own_chg hown (Chg.of_below hB (fun _ => False)) (fun _ _ x => x)
      have FIN : Hid (∀ v' w3, w3.ownsRow 0 85 2 v' (cn + 1) (cwl s.C ++ [.int .i64 (j : Nat), .string d]) → (W1.alloc (.cells #[.int .i64 (j : Nat), .string d] 85)).grownBy w3 x.v.ownBlock → (∀ k, v'.ownBlock = some k → x.v.ownBlock = some k ∨ k = (W1.alloc (.cells #[.int .i64 (j : Nat), .string d] 85)).heap.size) →
          RpO w F R.1 (.int .i64 R.2) (.returned (.int .i64 0)) (w3.setCell ⟨s.L, 1, none⟩ v')) := fun v' w3 h1 h2 h3 => by
        subst hcn
        rw [RES.out]
        exact ⟨rfl, _, rw_app HS.out hB hj HZ.out h1 h2 h3⟩
      have CL : Hid (∀ w3, (W1.alloc (.cells #[.int .i64 (j : Nat), .string d] 85)).grownBy w3 x.v.ownBlock → w3.cell? ⟨s.L, 1, none⟩ = some x.v ∧ w3.frozen? ⟨s.L, 1, none⟩ = false ∧ s.L < w3.heap.size) := fun w3 hg => by
        have o1 := (Chg.of_below hB (fun _ => False)).blk HO (fun x => x)
        have o2 := (Chg.of_grown hg).blk o1 (fun e => (hvL _ e).1 rfl)
        exact ⟨by simp [World.cell?, o2], by simp [World.frozen?, o2], blk_lt o2⟩
      have NW : Hid (∀ (jj : Nat) (u : Value), [Value.int .i64 (j : Nat), .string d][jj]? = some u → (W1.alloc (.cells #[.int .i64 (j : Nat), .string d] 85)).cell? (Addr.add ⟨W1.heap.size, 0, none⟩ jj) = some u) := fun jj u hu => by
        rw [add_plain, Nat.zero_add, new_c]
        simpa using hu
      have HC := Lib.hid hcn
      have hl := hlz.1
      clear hown hcn HO hvL HD
      skip
      go_wp2_with (at_builtin; refine wpList_append_blk rfl (.tmp 54) (.tmp 58) 63 rfl 0 85 i0 _ 2 24 Try.underlying63 hi0 hi1 hi2 hi3 rfl (by decide) x.v cn (cwl s.C) rfl own2 ⟨W1.heap.size, 0, none⟩ 1 1 [.int .i64 (j : Nat), .string d] rfl rfl NW.out ?c1 ?c2 ?c3 ?c4 ?_)
      case c1 => intro u hu; simp at hu; rcases hu with rfl | rfl <;> rfl
      case c2 => unfold maxLen; omega
      case c3 => omega
      case c4 => omega
      intro v' w3 hown hgr hbk
      obtain ⟨g9, c9, rfl⟩ := own_form hown (by omega)
      have G := Lib.hid (FIN.out _ w3 hown hgr (by simpa using hbk))
      obtain ⟨q1, q2, q3⟩ := CL.out w3 hgr
      clear hown hgr hbk FIN CL NW own2 hB
      generalize x.v = xv at *
      go_wp2
      go_ret
      exact G.out
  | false =>
    rw [show plC s = -1 by unfold plC; rw [hp]; rfl] at c3
    have RES : Hid (R = ({ s with C := s.C ++ [⟨j, d⟩] }, 0)) := by
      show _ = _
      rw [W.out, if_neg (by simp [hp])]
      rfl
    clear W
    have D := Lib.hid (Rw.refl h)
    have HD := h
    clear h
    have hown := HD.cac
    have hlz := HD.lt
    have hvL := HD.vL
    have HO := HD.obj
    try simp only at hown hlz hvL HO
    generalize hcn : s.C.length = cn at *
    have hB : Below w.heap.size w (w.alloc (.cells #[.int .i64 (j : Nat), .string d] 85)) := (Below.refl _ w).alloc (Nat.le_refl _) _
    have own2 : (w.alloc (.cells #[.int .i64 (j : Nat), .string d] 85)).ownsRow 0 85 2 x.v cn (cwl s.C) := own_chg hown (Chg.of_below hB (fun _ => False)) (fun _ _ x => x)
    have FIN : Hid (∀ v' w3, w3.ownsRow 0 85 2 v' (cn + 1) (cwl s.C ++ [.int .i64 (j : Nat), .string d]) → (w.alloc (.cells #[.int .i64 (j : Nat), .string d] 85)).grownBy w3 x.v.ownBlock → (∀ k, v'.ownBlock = some k → x.v.ownBlock = some k ∨ k = (w.alloc (.cells #[.int .i64 (j : Nat), .string d] 85)).heap.size) →
        RpO w F R.1 (.int .i64 R.2) (.returned (.int .i64 0)) (w3.setCell ⟨s.L, 1, none⟩ v')) := fun v' w3 h1 h2 h3 => by
      subst hcn
      rw [RES.out]
      exact ⟨rfl, _, rw_app D.out hB hj HZ.out h1 h2 h3⟩
    have CL : Hid (∀ w3, (w.alloc (.cells #[.int .i64 (j : Nat), .string d] 85)).grownBy w3 x.v.ownBlock → w3.cell? ⟨s.L, 1, none⟩ = some x.v ∧ w3.frozen? ⟨s.L, 1, none⟩ = false ∧ s.L < w3.heap.size) := fun w3 hg => by
      have o1 := (Chg.of_below hB (fun _ => False)).blk HO (fun x => x)
      have o2 := (Chg.of_grown hg).blk o1 (fun e => (hvL _ e).1 rfl)
      exact ⟨by simp [World.cell?, o2], by simp [World.frozen?, o2], blk_lt o2⟩
    have NW : Hid (∀ (jj : Nat) (u : Value), [Value.int .i64 (j : Nat), .string d][jj]? = some u → (w.alloc (.cells #[.int .i64 (j : Nat), .string d] 85)).cell? (Addr.add ⟨w.heap.size, 0, none⟩ jj) = some u) := fun jj u hu => by
      rw [add_plain, Nat.zero_add, new_c]
      simpa using hu
    have HC := Lib.hid hcn
    skip
    clear hown hcn HO hvL HD
    go_enter Try.func31, Try.ntmps31
    go_wp2_with (at_builtin; refine wpList_append_blk rfl (.tmp 54) (.tmp 58) 63 rfl 0 85 i0 _ 2 24 Try.underlying63 hi0 hi1 hi2 hi3 rfl (by decide) x.v cn (cwl s.C) rfl own2 ⟨w.heap.size, 0, none⟩ 1 1 [.int .i64 (j : Nat), .string d] rfl rfl NW.out ?c1 ?c2 ?c3 ?c4 ?_)
    case c1 => intro u hu; simp at hu; rcases hu with rfl | rfl <;> rfl
    case c2 => unfold maxLen; omega
    case c3 => omega
    case c4 => omega
    intro v' w3 hown hgr hbk
    obtain ⟨g9, c9, rfl⟩ := own_form hown (by omega)
    have G := Lib.hid (FIN.out _ w3 hown hgr (by simpa using hbk))
    obtain ⟨q1, q2, q3⟩ := CL.out w3 hgr
    clear hown hgr hbk FIN CL NW own2 hB
    generalize x.v = xv at *
    go_wp2
    go_ret
    exact G.out
end
end Go.Proofs.Ytoafoikphpdimaa
