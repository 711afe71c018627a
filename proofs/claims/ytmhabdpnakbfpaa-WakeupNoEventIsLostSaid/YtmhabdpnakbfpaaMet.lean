/- Activate, Deactivate, SetAlarm, Pulse. -/
import Derived.Test.YtmhabdpnakbfpaaCnt
namespace Go.Proofs.Ytmhabdpnakbfpaa
open Go.ChangeShapes Go.WideShapes Go.ChangeAt Go.RowKit Go.Deep Go.Joins

def wU (x : Int) : Int := IntKind.u64.wrap x
def actS (s : WS) (i now : Int) : WS × Int := if vB s i now then ((adv s now).putQ i.toNat ⟨true, false, 0⟩, 0) else (s, 1)
def deaS (s : WS) (i now : Int) : WS × Int := if vB s i now then (if ((adv s now).q i.toNat).on then (adv s now).endS i.toNat else adv s now, 0) else (s, 1)
def salS (s : WS) (now at_ : Int) : WS × Int := if vtB s now && decide (at_ ≤ 1152921504606846976) then (adv { adv s now with al := true, a := at_ } now, 0) else (s, 1)
def pulQ (s : WS) (i : Nat) (x : Int) : WS :=
  if (s.q i).on then (if (s.q i).hd then s.putQ i ⟨true, true, if (s.q i).t < x then x else (s.q i).t⟩ else s) else s.putQ i ⟨true, true, x⟩
def pulS (s : WS) (i now hold : Int) : WS × Int := if vB s i now && decide (hold ≤ 1152921504606846976) then (adv (pulQ (adv s now) i.toNat (wU (now + hold))) now, 0) else (s, 1)
theorem vB_at {s : WS} {i now : Int} (h : vB s i now = true) : ∃ k : Nat, i = k ∧ k < s.n := by
  unfold vB at h
  rw [Bool.and_eq_true, Bool.and_eq_true] at h
  have h1 := of_decide_eq_true h.1.1
  have h2 := of_decide_eq_true h.1.2
  exact ⟨i.toNat, by omega, by omega⟩
section
variable {w : World} {s : WS}
set_option maxRecDepth 20000 in
set_option maxHeartbeats 4000000 in
theorem act_any (h : Wk w s) (i now : Int) : Calls Try.prog 22 #[.pointer (some ⟨s.L, 0, none⟩), .int .i64 i, .int .u64 now] w (OpP w s (actS s i now).1 (.int .i64 (actS s i now).2)) := by
  have P := Lib.hid (val_any h i now)
  have H := Lib.hid h
  cases hv : vB s i now with
  | false =>
    have E0 : actS s i now = (s, 1) := by unfold actS; rw [hv]; rfl
    rw [hv] at P
    rw [E0]
    clear h hv E0
    go_enter Try.func22, Try.ntmps22
    go_wp2_with fail
    refine P.out.mono ?_
    clear P
    rintro e w2 ⟨rfl, rfl⟩
    go_wp2
    go_ret
    exact ⟨rfl, H.out, cw_refl⟩
  | true =>
    obtain ⟨k, rfl, hk⟩ := vB_at hv
    have E1 : actS s k now = ((adv s now).putQ k ⟨true, false, 0⟩, 0) := by unfold actS; rw [hv]; rfl
    have A := Lib.hid (adv_any h now)
    have S := sm_adv s now
    rw [hv] at P
    rw [E1]
    generalize adv s now = t at *
    clear h hv E1
    go_enter Try.func22, Try.ntmps22
    go_wp2_with fail
    refine P.out.mono ?_
    clear P
    rintro e w2 ⟨rfl, rfl⟩
    go_wp2_with fail
    refine A.out.mono ?_
    clear A
    rintro e w2 ⟨rfl, hW, hC⟩
    have hkt : k < t.n := by rw [S.n]; exact hk
    have c0 := hW.c0
    have f0 := hW.fX (by omega) (k * 3)
    have f1 := hW.fX (by omega) (k * 3 + 1)
    have f2 := hW.fX (by omega) (k * 3 + 2)
    obtain ⟨x0, x1, x2⟩ := hW.src k hkt
    have hXlt := hW.lX (by omega)
    have lL := hW.lL
    have F : Hid (OpP w s (t.putQ k ⟨true, false, 0⟩) (.int .i64 0) (.returned (.int .i64 0)) (((w2.setCell ⟨t.X, k * 3, none⟩ (.bool true)).setCell ⟨t.X, k * 3 + 1, none⟩ (.bool false)).setCell ⟨t.X, k * 3 + 2, none⟩ (.int .u64 0))) :=
      ⟨rfl, hW.setQ k hkt ⟨true, false, 0⟩, by rw [S.X]; exact cw_setX (by omega) _ _ (cw_setX (by omega) _ _ (cw_setX (by omega) _ _ hC))⟩
    rw [hW.row' hkt] at c0
    rw [S.L] at c0 lL
    have hkl : (k : Int) < (t.n : Int) := by omega
    clear hW hC S
    go_wp2
    go_ret
    exact F.out
set_option maxRecDepth 20000 in
set_option maxHeartbeats 4000000 in
theorem dea_any (h : Wk w s) (i now : Int) : Calls Try.prog 26 #[.pointer (some ⟨s.L, 0, none⟩), .int .i64 i, .int .u64 now] w (OpP w s (deaS s i now).1 (.int .i64 (deaS s i now).2)) := by
  have P := Lib.hid (val_any h i now)
  have H := Lib.hid h
  cases hv : vB s i now with
  | false =>
    have E0 : deaS s i now = (s, 1) := by unfold deaS; rw [hv]; rfl
    rw [hv] at P
    rw [E0]
    clear h hv E0
    go_enter Try.func26, Try.ntmps26
    go_wp2_with fail
    refine P.out.mono ?_
    clear P
    rintro e w2 ⟨rfl, rfl⟩
    go_wp2
    go_ret
    exact ⟨rfl, H.out, cw_refl⟩
  | true =>
    obtain ⟨k, rfl, hk⟩ := vB_at hv
    have E1 : deaS s k now = (if ((adv s now).q k).on then (adv s now).endS k else adv s now, 0) := by unfold deaS; rw [hv]; rfl
    have A := Lib.hid (adv_any h now)
    have S := sm_adv s now
    rw [hv] at P
    rw [E1]
    generalize adv s now = t at *
    clear h hv E1
    have hkt : k < t.n := by rw [S.n]; exact hk
    generalize hu : (if (t.q k).on then t.endS k else t) = u
    have UY : Hid ((t.q k).on = true → t.endS k = u) := fun e => by rw [if_pos e] at hu; exact hu
    have UN : Hid ((t.q k).on = false → t = u) := fun e => by rw [if_neg (by rw [e]; exact Bool.false_ne_true)] at hu; exact hu
    clear hu
    go_enter Try.func26, Try.ntmps26
    go_wp2_with fail
    refine P.out.mono ?_
    clear P
    rintro e w2 ⟨rfl, rfl⟩
    go_wp2_with fail
    refine A.out.mono ?_
    clear A
    rintro e w2 ⟨rfl, hW, hC⟩
    have c0 := hW.c0
    obtain ⟨x0, x1, x2⟩ := hW.src k hkt
    have hXlt := hW.lX (by omega)
    have lL := hW.lL
    have PE : Hid (Calls Try.prog 39 #[.pointer (some ⟨s.L, 0, none⟩), .int .i64 k] w2 (OpP w2 t (t.endS k) (.tuple #[]))) := by
      have := end_any hW k hkt
      rwa [S.L] at this
    rw [hW.row' hkt] at c0
    rw [S.L] at c0 lL
    have hkl : (k : Int) < (t.n : Int) := by omega
    have F := Lib.hid (And.intro hW hC)
    have HS := Lib.hid S
    clear hW hC S x1 x2
    generalize (t.q k).on = on at *
    cases on with
    | false =>
      obtain rfl := UN.out rfl
      clear PE
      go_wp2
      go_ret
      exact ⟨rfl, F.out.1, F.out.2⟩
    | true =>
      have EU := UY.out rfl
      rw [EU] at PE
      clear EU UY UN
      go_wp2_with fail
      refine PE.out.mono ?_
      rintro e w3 ⟨rfl, hW3, hC3⟩
      have F := Lib.hid (And.intro hW3 (F.out.2.trans' (hC3.sm HS.out)))
      clear PE hW3 hC3
      go_wp2
      go_ret
      exact ⟨rfl, F.out.1, F.out.2⟩
set_option maxRecDepth 20000 in
set_option maxHeartbeats 4000000 in
theorem sal_any (h : Wk w s) (now at_ : Int) : Calls Try.prog 24 #[.pointer (some ⟨s.L, 0, none⟩), .int .u64 now, .int .u64 at_] w (OpP w s (salS s now at_).1 (.int .i64 (salS s now at_).2)) := by
  have P := Lib.hid (vt_any h now)
  have H := Lib.hid h
  cases hv : (vtB s now && decide (at_ ≤ 1152921504606846976)) with
  | false =>
    have E0 : salS s now at_ = (s, 1) := by unfold salS; rw [hv]; rfl
    rw [E0]
    clear h E0
    cases hb : vtB s now with
    | false =>
      rw [hb] at P
      clear hv hb
      go_enter Try.func24, Try.ntmps24
      go_wp2_with fail
      refine P.out.mono ?_
      clear P
      rintro e w2 ⟨rfl, rfl⟩
      go_wp2
      go_ret
      exact ⟨rfl, H.out, cw_refl⟩
    | true =>
      rw [hb, Bool.true_and] at hv
      have ha : ¬ at_ ≤ 1152921504606846976 := of_decide_eq_false hv
      have ha2 : 1152921504606846976 < at_ := by omega
      rw [hb] at P
      clear hv hb
      go_enter Try.func24, Try.ntmps24
      go_wp2_with fail
      refine P.out.mono ?_
      clear P
      rintro e w2 ⟨rfl, rfl⟩
      go_wp2
      go_ret
      exact ⟨rfl, H.out, cw_refl⟩
  | true =>
    have E1 : salS s now at_ = (adv { adv s now with al := true, a := at_ } now, 0) := by unfold salS; rw [hv]; rfl
    rw [Bool.and_eq_true] at hv
    have ha : at_ ≤ 1152921504606846976 := of_decide_eq_true hv.2
    have ha2 : ¬ 1152921504606846976 < at_ := by omega
    have A := Lib.hid (adv_any h now)
    have S := sm_adv s now
    rw [hv.1] at P
    rw [E1]
    generalize adv s now = t at *
    clear h hv E1
    go_enter Try.func24, Try.ntmps24
    go_wp2_with fail
    refine P.out.mono ?_
    clear P
    rintro e w2 ⟨rfl, rfl⟩
    go_wp2_with fail
    refine A.out.mono ?_
    clear A
    rintro e w2 ⟨rfl, hW, hC⟩
    have c2 := hW.c2
    have c3 := hW.c3
    have f2 := hW.fL 2
    have f3 := hW.fL 3
    have lL := hW.lL
    have A1 := (hW.setL 2 (.bool true) { t with al := true } ⟨rfl, rfl, rfl, rfl, rfl, rfl⟩ (by decide) rfl rfl rfl rfl rfl rfl).setL 3 (.int .u64 at_) { t with al := true, a := at_ } ⟨rfl, rfl, rfl, rfl, rfl, rfl⟩ (by decide) rfl rfl rfl rfl rfl rfl
    have A2 : ∀ L, L = t.L → Wk ((w2.setCell ⟨L, 2, none⟩ (.bool true)).setCell ⟨L, 3, none⟩ (.int .u64 at_)) { t with al := true, a := at_ } := fun L e => by subst e; exact A1
    have A3 := Lib.hid (And.intro (A2 s.L S.L.symm) (cw_setL (s := s) 3 (.int .u64 at_) (cw_setL 2 (.bool true) hC)))
    have S2 : Sm s { t with al := true, a := at_ } := ⟨S.L, S.X, S.A, S.c, S.n⟩
    generalize ({ t with al := true, a := at_ } : WS) = u at *
    rw [S.L] at c2 c3 f2 f3 lL
    have HS := Lib.hid S2
    clear hW hC S A1 A2 S2
    go_upto_region 5 with fail
    generalize (w2.setCell ⟨s.L, 2, none⟩ (.bool true)).setCell ⟨s.L, 3, none⟩ (.int .u64 at_) = w3 at *
    have PA : Hid (Calls Try.prog 37 #[.pointer (some ⟨s.L, 0, none⟩), .int .u64 now] w3 (OpP w3 u (adv u now) (.tuple #[]))) := by
      have := adv_any A3.out.1 now
      rwa [HS.out.L] at this
    clear c2 c3 f2 f3
    go_wp2_with fail
    refine PA.out.mono ?_
    rintro e w4 ⟨rfl, hW4, hC4⟩
    have F := Lib.hid (And.intro hW4 (A3.out.2.trans' (hC4.sm HS.out)))
    clear PA hW4 hC4 A3
    go_wp2
    go_ret
    exact ⟨rfl, F.out.1, F.out.2⟩
end
end Go.Proofs.Ytmhabdpnakbfpaa
