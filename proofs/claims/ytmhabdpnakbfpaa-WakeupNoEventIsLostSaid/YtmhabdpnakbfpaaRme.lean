/- The reference: Counts, MustAbort, Disarm, Advance, SetAlarm, Deactivate. -/
import Derived.Test.YtmhabdpnakbfpaaRad
namespace Go.Proofs.Ytmhabdpnakbfpaa
open Go.ChangeShapes Go.WideShapes Go.ChangeAt Go.RowKit Go.Deep Go.Joins

section
variable {w : World} {s : WS} {y : Ry}
set_option maxRecDepth 20000 in
set_option maxHeartbeats 8000000 in
theorem rcnt_any (h : Rk w s y) : Calls Try.prog 18 #[.pointer (some ⟨y.L, 0, none⟩)] w (PuP w (.tuple #[.int .i64 s.ev, .int .i64 (cnt s)])) := by
  have H := Lib.hid h
  have c0 := h.c0
  have c4 := h.c4
  have lX := h.lX
  have lL := h.lL
  have hn := h.hn
  have LE := Lib.hid (cntK_le s)
  have STY : Hid (∀ k, (s.q k).on = true → cntK s (k + 1) = cntK s k + 1) := fun k hk => if_pos hk
  have STN : Hid (∀ k, (s.q k).on = false → cntK s (k + 1) = cntK s k) := fun k hk => if_neg (by rw [hk]; exact Bool.false_ne_true)
  have E : Hid (cnt s = cntK s s.n) := rfl
  generalize cnt s = ct at *
  clear h
  go_enter Try.func18, Try.ntmps18
  go_wp2_with fail
  go_loopw [5, 4] (fun vi vc wr => ∃ k : Nat, vi = .int .i64 k ∧ vc = .int .i64 (cntK s k) ∧ k ≤ s.n ∧ w = wr) (fun i _ _ => s.n - (intOf i).toNat)
  case atStart => exact ⟨0, rfl, rfl, Nat.zero_le _, rfl⟩
  case round =>
    obtain ⟨k, rfl, rfl, hk, rfl⟩ := hrel
    have lek := LE.out k
    by_cases hlt : k < s.n
    · have Yk := Lib.hid (STY.out k)
      have Nk := Lib.hid (STN.out k)
      have xo := H.out.on k hlt
      have hkl : (k : Int) < (s.n : Int) := by omega
      generalize (s.q k).on = o at *
      generalize cntK s k = cc at *
      have e1 : wrap64 ((cc : Int) + 1) = (cc : Int) + 1 := IntWalk.wrap64_in _ (by omega)
      cases o with
      | false =>
        have E1 := Lib.hid (Nk.out rfl)
        clear Yk Nk
        go_wp2_with fail
        go_roundw
        case rel => exact ⟨k + 1, by go_num, by rw [E1.out], by omega, trivial⟩
        case measure => simp [intOf]; omega
      | true =>
        have E1 := Lib.hid (Yk.out rfl)
        clear Yk Nk
        go_wp2_with fail
        go_roundw
        case rel => exact ⟨k + 1, by go_num, by rw [E1.out]; rfl, by omega, trivial⟩
        case measure => simp [intOf]; omega
    · have hkn : k = s.n := by omega
      subst hkn
      have q : ¬ (s.n : Int) < (s.n : Int) := by omega
      have F : Hid (PuP w (.tuple #[.int .i64 s.ev, .int .i64 ct]) (.returned (.tuple #[.int .i64 s.ev, .int .i64 (cntK s s.n)])) w) := ⟨by rw [E.out], rfl⟩
      clear STY STN lek
      generalize cntK s s.n = cc at *
      go_wp2
      go_ret2
      exact F.out
set_option maxRecDepth 20000 in
set_option maxHeartbeats 4000000 in
theorem rmab_any (h : Rk w s y) : Calls Try.prog 20 #[.pointer (some ⟨y.L, 0, none⟩)] w (PuP w (.bool (mab s))) := by
  have P := Lib.hid (rcnt_any h)
  have E : Hid (mab s = (s.ar && ((s.ev != s.rm) || decide (0 < cnt s)))) := rfl
  have c5 := h.c5
  obtain ⟨rv, c6, hrv⟩ := h.c6
  have lL := h.lL
  generalize mab s = b at *
  generalize cnt s = ct at *
  clear h
  generalize s.ar = ar at *
  generalize s.ev = ev at *
  generalize s.rm = rm at *
  go_enter Try.func20, Try.ntmps20
  go_wp2_with fail
  refine P.out.mono ?_
  clear P
  rintro e w2 ⟨rfl, rfl⟩
  cases ar with
  | false =>
    go_wp2
    go_ret
    exact ⟨by rw [E.out]; rfl, rfl⟩
  | true =>
    obtain rfl := hrv rfl
    clear hrv
    by_cases hq : ev = rv
    · have q1 : (ev != rv) = false := by rw [hq]; exact bne_self_eq_false rv
      rw [q1] at E
      by_cases h0 : 0 < ct
      · have q2 : (0 : Int) < (ct : Int) := by omega
        rw [decide_eq_true h0] at E
        clear hq
        go_wp2
        go_ret
        exact ⟨by rw [E.out]; rfl, rfl⟩
      · have q2 : ¬ (0 : Int) < (ct : Int) := by omega
        rw [decide_eq_false h0] at E
        clear hq
        go_wp2
        go_ret
        exact ⟨by rw [E.out]; rfl, rfl⟩
    · have q1 : (ev != rv) = true := by simpa using hq
      rw [q1] at E
      clear hq
      go_wp2
      go_ret
      exact ⟨by rw [E.out]; rfl, rfl⟩
set_option maxRecDepth 20000 in
set_option maxHeartbeats 4000000 in
theorem rdis_any (h : Rk w s y) : Calls Try.prog 35 #[.pointer (some ⟨y.L, 0, none⟩)] w (RoP w y (dis s) (.tuple #[])) := by
  have c5 := h.c5
  have f5 := h.f y.L (.inl rfl) 5
  have lL := h.lL
  have F : Hid (RoP w y (dis s) (.tuple #[]) (.returned (.tuple #[])) (w.setCell ⟨y.L, 5, none⟩ (.bool false))) := ⟨rfl, h.ar0 0 ((Df.refl w _).set y.L 5 _ ⟨rfl, rfl⟩) (set_same _ _ _ _ _ c5), cy_set cy_refl y.L 5 _ (.inl rfl)⟩
  generalize dis s = s' at *
  clear h
  go_enter Try.func35, Try.ntmps35
  go_wp2_with fail
  refine bodyPost_ret (results_none rfl _ _ _) rfl ?_
  exact F.out
theorem vtB_pos {s : WS} {now : Int} (h : vtB s now = true) (h0 : 0 ≤ s.ck) : 0 ≤ now := by
  unfold vtB at h
  rw [Bool.and_eq_true] at h
  have := of_decide_eq_true h.1
  omega
theorem vB_vt {s : WS} {i now : Int} (h : vB s i now = true) : vtB s now = true := by
  unfold vB at h
  rw [Bool.and_eq_true] at h
  exact h.2
set_option maxRecDepth 20000 in
set_option maxHeartbeats 4000000 in
theorem ravc_any (h : Rk w s y) (now : Int) : Calls Try.prog 34 #[.pointer (some ⟨y.L, 0, none⟩), .int .u64 now] w (RoP w y (avS s now).1 (.int .i64 (avS s now).2)) := by
  have P := Lib.hid (late_any h now)
  have A := Lib.hid (fun hv : vtB s now = true => radv_any h now (vtB_pos hv h.ck0))
  have E0 : Hid (vtB s now = false → avS s now = (s, 1)) := fun e => by unfold avS; rw [e]; rfl
  have E1 : Hid (vtB s now = true → avS s now = (adv s now, 0)) := fun e => by unfold avS; rw [e]; rfl
  have H := Lib.hid h
  generalize vtB s now = b at *
  generalize avS s now = R at *
  clear h
  go_enter Try.func34, Try.ntmps34
  go_wp2_with fail
  refine P.out.mono ?_
  clear P
  rintro e w2 ⟨rfl, rfl⟩
  cases b with
  | false =>
    obtain rfl := E0.out rfl
    clear A E0 E1
    go_wp2
    go_ret
    exact ⟨rfl, H.out, cy_refl⟩
  | true =>
    obtain rfl := E1.out rfl
    have AA := A.out rfl
    go_wp2_with fail
    refine AA.mono ?_
    rintro e w2 ⟨rfl, hW, hC⟩
    have F := Lib.hid (And.intro hW hC)
    clear A AA E0 E1 hW hC H
    go_wp2
    go_ret
    exact ⟨rfl, F.out.1, F.out.2⟩
set_option maxRecDepth 20000 in
set_option maxHeartbeats 4000000 in
theorem rsal_any (h : Rk w s y) (now at_ : Int) : Calls Try.prog 33 #[.pointer (some ⟨y.L, 0, none⟩), .int .u64 now, .int .u64 at_] w (RoP w y (salS s now at_).1 (.int .i64 (salS s now at_).2)) := by
  have P := Lib.hid (late_any h now)
  have H := Lib.hid h
  cases hv : (vtB s now && decide (at_ ≤ 1152921504606846976)) with
  | false =>
    have E0 : salS s now at_ = (s, 1) := by unfold salS; rw [hv]; rfl
    rw [E0]
    clear h E0
    cases hb : vtB s now with
    | false =>
      rw [hb] at P
      clear hv hb
      go_enter Try.func33, Try.ntmps33
      go_wp2_with fail
      refine P.out.mono ?_
      clear P
      rintro e w2 ⟨rfl, rfl⟩
      go_wp2
      go_ret
      exact ⟨rfl, H.out, cy_refl⟩
    | true =>
      rw [hb, Bool.true_and] at hv
      have ha : ¬ at_ ≤ 1152921504606846976 := of_decide_eq_false hv
      have ha2 : 1152921504606846976 < at_ := by omega
      rw [hb] at P
      clear hv hb
      go_enter Try.func33, Try.ntmps33
      go_wp2_with fail
      refine P.out.mono ?_
      clear P
      rintro e w2 ⟨rfl, rfl⟩
      go_wp2
      go_ret
      exact ⟨rfl, H.out, cy_refl⟩
  | true =>
    have E1 : salS s now at_ = (adv { adv s now with al := true, a := at_ } now, 0) := by unfold salS; rw [hv]; rfl
    rw [Bool.and_eq_true] at hv
    have ha : at_ ≤ 1152921504606846976 := of_decide_eq_true hv.2
    have ha2 : ¬ 1152921504606846976 < at_ := by omega
    have hp := vtB_pos hv.1 h.ck0
    have A := Lib.hid (radv_any h now hp)
    rw [hv.1] at P
    rw [E1]
    generalize adv s now = t at *
    clear h hv E1
    go_enter Try.func33, Try.ntmps33
    go_wp2_with fail
    refine P.out.mono ?_
    clear P
    rintro e w2 ⟨rfl, rfl⟩
    go_wp2_with fail
    refine A.out.mono ?_
    clear A
    rintro e w2 ⟨rfl, hW, hC⟩
    obtain ⟨av, c2, -⟩ := hW.c2
    have c3 := hW.c3
    have f2 := hW.f y.L (.inl rfl) 2
    have f3 := hW.f y.L (.inl rfl) 3
    have lL := hW.lL
    have A1 := Lib.hid (And.intro (hW.al1 (W := (w2.setCell ⟨y.L, 3, none⟩ (.bool true)).setCell ⟨y.L, 2, none⟩ (.int .u64 at_)) at_ (((Df.refl w2 _).set y.L 3 _ ⟨rfl, .inr rfl⟩).set y.L 2 _ ⟨rfl, .inl rfl⟩) (set_off _ _ _ _ _ _ (by decide) (set_same _ _ _ _ _ c3)) (set_same _ _ _ _ _ (set_off _ _ _ _ _ _ (by decide) c2))) (cy_set (cy_set hC y.L 3 (.bool true) (.inl rfl)) y.L 2 (.int .u64 at_) (.inl rfl)))
    generalize ({ t with al := true, a := at_ } : WS) = u at *
    clear hW hC
    go_upto_region 5 with fail
    generalize (w2.setCell ⟨y.L, 3, none⟩ (.bool true)).setCell ⟨y.L, 2, none⟩ (.int .u64 at_) = w3 at *
    have PA := Lib.hid (radv_any A1.out.1 now hp)
    clear c2 c3 f2 f3
    go_wp2_with fail
    refine PA.out.mono ?_
    rintro e w4 ⟨rfl, hW4, hC4⟩
    have F := Lib.hid (And.intro hW4 (A1.out.2.trans' hC4))
    clear PA hW4 hC4 A1
    go_wp2
    go_ret
    exact ⟨rfl, F.out.1, F.out.2⟩
set_option maxRecDepth 20000 in
set_option maxHeartbeats 4000000 in
theorem rdea_any (h : Rk w s y) (i now : Int) : Calls Try.prog 27 #[.pointer (some ⟨y.L, 0, none⟩), .int .i64 i, .int .u64 now] w (RoP w y (deaS s i now).1 (.int .i64 (deaS s i now).2)) := by
  have P := Lib.hid (bad_any h i now)
  have H := Lib.hid h
  cases hv : vB s i now with
  | false =>
    have E0 : deaS s i now = (s, 1) := by unfold deaS; rw [hv]; rfl
    rw [hv] at P
    rw [E0]
    clear h hv E0
    go_enter Try.func27, Try.ntmps27
    go_wp2_with fail
    refine P.out.mono ?_
    clear P
    rintro e w2 ⟨rfl, rfl⟩
    go_wp2
    go_ret
    exact ⟨rfl, H.out, cy_refl⟩
  | true =>
    obtain ⟨k, rfl, hk⟩ := vB_at hv
    have E1 : deaS s k now = (if ((adv s now).q k).on then (adv s now).endS k else adv s now, 0) := by unfold deaS; rw [hv]; rfl
    have A := Lib.hid (radv_any h now (vtB_pos (vB_vt hv) h.ck0))
    have S := sm_adv s now
    rw [hv] at P
    rw [E1]
    generalize adv s now = t at *
    clear h hv E1
    have hkt : k < t.n := by rw [S.n]; exact hk
    generalize hu : (if (t.q k).on then t.endS k else t) = u
    have UY : Hid ((t.q k).on = true → t.endS k = u) := fun e => by rw [if_pos e] at hu; exact hu
    have UN : Hid ((t.q k).on = false → t = u) := fun e => by rw [if_neg (by rw [e]; exact Bool.false_ne_true)] at hu; exact hu
    clear hu
    go_enter Try.func27, Try.ntmps27
    go_wp2_with fail
    refine P.out.mono ?_
    clear P
    rintro e w2 ⟨rfl, rfl⟩
    go_wp2_with fail
    refine A.out.mono ?_
    clear A
    rintro e w2 ⟨rfl, hW, hC⟩
    have c0 := hW.c0
    have c4 := hW.c4
    have xo := hW.on k hkt
    have f4 := hW.f y.L (.inl rfl) 4
    have fx := hW.f y.X (.inr (.inl rfl)) k
    have lL := hW.lL
    have lX := hW.lX
    have LX : y.L ≠ y.X := fun e => hW.XL e.symm
    have XL := hW.XL
    have hkl : (k : Int) < (t.n : Int) := by omega
    have FI : Hid (Rk ((w2.setCell ⟨y.X, k, none⟩ (.bool false)).setCell ⟨y.L, 4, none⟩ (.int .i64 (wrap64 (t.ev + 1)))) (t.endS k) y ∧ CY y w ((w2.setCell ⟨y.X, k, none⟩ (.bool false)).setCell ⟨y.L, 4, none⟩ (.int .i64 (wrap64 (t.ev + 1))))) :=
      ⟨hW.fin k (wrap64 (t.ev + 1)) (((Df.refl w2 _).set y.X k _ (.inr ⟨rfl, rfl⟩)).set y.L 4 _ (.inl ⟨rfl, rfl⟩)) (set_same _ _ _ _ _ (set_far _ _ _ _ _ _ _ LX c4)) (set_far _ _ _ _ _ _ _ XL (set_same _ _ _ _ _ xo)), cy_set (cy_set hC y.X k _ (.inr (.inl rfl))) y.L 4 _ (.inl rfl)⟩
    have F := Lib.hid (And.intro hW hC)
    clear hW hC
    generalize (t.q k).on = on at *
    cases on with
    | false =>
      obtain rfl := UN.out rfl
      clear FI
      go_wp2
      go_ret
      exact ⟨rfl, F.out.1, F.out.2⟩
    | true =>
      have EU := UY.out rfl
      rw [EU] at FI
      clear EU UY UN F
      go_wp2
      go_ret
      exact ⟨rfl, FI.out.1, FI.out.2⟩
end
end Go.Proofs.Ytmhabdpnakbfpaa
