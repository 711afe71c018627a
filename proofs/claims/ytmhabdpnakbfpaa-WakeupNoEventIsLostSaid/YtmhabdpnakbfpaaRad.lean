/- The reference: late, bad, advance, Counts, MustAbort, Disarm, Advance. -/
import Derived.Test.YtmhabdpnakbfpaaRbs
namespace Go.Proofs.Ytmhabdpnakbfpaa
open Go.ChangeShapes Go.WideShapes Go.ChangeAt Go.RowKit Go.Deep Go.Joins

section
variable {w : World} {s : WS} {y : Ry}
set_option maxRecDepth 20000 in
set_option maxHeartbeats 2000000 in
theorem late_any (h : Rk w s y) (now : Int) : Calls Try.prog 42 #[.pointer (some ⟨y.L, 0, none⟩), .int .u64 now] w (PuP w (.bool (!vtB s now))) := by
  have c7 := h.c7
  have E : Hid (vtB s now = (decide (s.ck ≤ now) && decide (now ≤ 1152921504606846976))) := rfl
  generalize vtB s now = b at *
  clear h
  generalize s.ck = ck at *
  by_cases h1 : ck ≤ now
  · have q1 : ¬ now < ck := by omega
    rw [decide_eq_true h1, Bool.true_and] at E
    by_cases h2 : now ≤ 1152921504606846976
    · have q2 : ¬ 1152921504606846976 < now := by omega
      rw [decide_eq_true h2] at E
      go_enter Try.func42, Try.ntmps42
      go_wp2
      go_ret
      exact ⟨by rw [E.out]; simp, rfl⟩
    · have q2 : 1152921504606846976 < now := by omega
      rw [decide_eq_false h2] at E
      go_enter Try.func42, Try.ntmps42
      go_wp2
      go_ret
      exact ⟨by rw [E.out]; simp, rfl⟩
  · have q1 : now < ck := by omega
    rw [decide_eq_false h1, Bool.false_and] at E
    go_enter Try.func42, Try.ntmps42
    go_wp2
    go_ret
    exact ⟨by rw [E.out]; rfl, rfl⟩
set_option maxRecDepth 20000 in
set_option maxHeartbeats 2000000 in
theorem bad_any (h : Rk w s y) (i now : Int) : Calls Try.prog 40 #[.pointer (some ⟨y.L, 0, none⟩), .int .i64 i, .int .u64 now] w (PuP w (.bool (!vB s i now))) := by
  have c0 := h.c0
  have P := Lib.hid (late_any h now)
  have E : Hid (vB s i now = (decide (0 ≤ i) && decide (i < s.n) && vtB s now)) := rfl
  generalize vB s i now = b at *
  generalize vtB s now = vt at *
  clear h
  generalize s.n = n at *
  by_cases h1 : 0 ≤ i
  · have q1 : ¬ i < 0 := by omega
    rw [decide_eq_true h1, Bool.true_and] at E
    by_cases h2 : i < (n : Int)
    · have q2 : ¬ (n : Int) ≤ i := by omega
      rw [decide_eq_true h2, Bool.true_and] at E
      go_enter Try.func40, Try.ntmps40
      go_wp2_with fail
      refine P.out.mono ?_
      rintro e w2 ⟨rfl, rfl⟩
      go_wp2
      go_ret
      exact ⟨by rw [E.out]; rfl, rfl⟩
    · have q2 : (n : Int) ≤ i := by omega
      rw [decide_eq_false h2, Bool.false_and] at E
      go_enter Try.func40, Try.ntmps40
      go_wp2
      go_ret
      exact ⟨by rw [E.out]; rfl, rfl⟩
  · have q1 : i < 0 := by omega
    rw [decide_eq_false h1, Bool.false_and, Bool.false_and] at E
    go_enter Try.func40, Try.ntmps40
    go_wp2
    go_ret
    exact ⟨by rw [E.out]; rfl, rfl⟩
set_option maxRecDepth 20000 in
set_option maxHeartbeats 8000000 in
theorem radv_any (h : Rk w s y) (now : Int) (h0 : 0 ≤ now) : Calls Try.prog 41 #[.pointer (some ⟨y.L, 0, none⟩), .int .u64 now] w (RoP w y (adv s now) (.tuple #[])) := by
  have W0 := Lib.hid (h.ck (W := w.setCell ⟨y.L, 7, none⟩ (.int .u64 now)) now h0 ((Df.refl w _).set _ _ _ ⟨rfl, rfl⟩) (set_same _ _ _ _ _ h.c7))
  have R0 := Lib.hid (cy_set (y := y) (w := w) cy_refl y.L 7 (.int .u64 now) (.inl rfl))
  have c7 := h.c7
  have f7 := h.f y.L (.inl rfl) 7
  have SM := Lib.hid (sm_advK s now)
  have STY : Hid (∀ k, dueB (advK s now k) now k = true → advK s now (k + 1) = (advK s now k).endS k) := fun k hk => if_pos hk
  have STN : Hid (∀ k, dueB (advK s now k) now k = false → advK s now (k + 1) = advK s now k) := fun k hk => if_neg (by rw [hk]; exact Bool.false_ne_true)
  have EY : Hid ((advK s now s.n).al = true → (advK s now s.n).a ≤ now → adv s now = { advK s now s.n with al := false, ev := wI ((advK s now s.n).ev + 1) }) := fun h1 h2 => by
    unfold adv advA
    rw [h1, decide_eq_true h2]
    rfl
  have EN : Hid (((advK s now s.n).al = false ∨ now < (advK s now s.n).a) → adv s now = advK s now s.n) := fun h1 => by
    unfold adv advA
    rcases h1 with h1 | h1
    · rw [h1]; rfl
    · rw [decide_eq_false (by omega), Bool.and_false]; rfl
  have hn := h.hn
  generalize adv s now = s' at *
  clear h
  go_enter Try.func41, Try.ntmps41
  go_upto_region 1 with fail
  generalize w.setCell ⟨y.L, 7, none⟩ (.int .u64 now) = w1 at *
  clear c7 f7
  go_wp2_with fail
  go_loopw [4] (fun vi wr => ∃ k : Nat, vi = .int .i64 k ∧ k ≤ s.n ∧ Rk wr (advK s now k) y ∧ CY y w wr) (fun i _ => s.n - (intOf i).toNat)
  case atStart => exact ⟨0, rfl, Nat.zero_le _, W0.out, R0.out⟩
  case round =>
    clear W0 R0
    obtain ⟨k, rfl, hk, hW, hR⟩ := hrel
    have S := SM.out k
    have HR := Lib.hid hR
    have c0 := hW.c0
    have c1 := hW.c1
    have c4 := hW.c4
    have f4 := hW.f y.L (.inl rfl) 4
    have fx := hW.f y.X (.inr (.inl rfl)) k
    have lL := hW.lL
    have lX := hW.lX
    have lY := hW.lY
    have LX : y.L ≠ y.X := fun e => hW.XL e.symm
    have XL := hW.XL
    rw [S.n] at c0 c1
    by_cases hlt : k < s.n
    · have Yk := Lib.hid (STY.out k)
      have Nk := Lib.hid (STN.out k)
      generalize advK s now k = t at *
      have hkt : k < t.n := by rw [S.n]; exact hlt
      have xo := hW.on k hkt
      obtain ⟨hv, xh, hv'⟩ := hW.hd k hkt
      have tb := hW.tb k hkt
      have DU : Hid (dueB t now k = ((t.q k).on && ((t.q k).hd && decide ((t.q k).t ≤ now)))) := rfl
      have hkl : (k : Int) < (s.n : Int) := by omega
      have FI : Hid (Rk ((wr.setCell ⟨y.X, k, none⟩ (.bool false)).setCell ⟨y.L, 4, none⟩ (.int .i64 (wrap64 (t.ev + 1)))) (t.endS k) y) :=
        hW.fin k (wrap64 (t.ev + 1)) (((Df.refl wr _).set y.X k _ (.inr ⟨rfl, rfl⟩)).set y.L 4 _ (.inl ⟨rfl, rfl⟩)) (set_same _ _ _ _ _ (set_far _ _ _ _ _ _ _ LX c4)) (set_far _ _ _ _ _ _ _ XL (set_same _ _ _ _ _ xo))
      have HW := Lib.hid hW
      have HS := Lib.hid S
      clear hW hR S
      generalize (t.q k).on = o at *
      generalize (t.q k).hd = d at *
      generalize (t.q k).t = x at *
      cases o with
      | false =>
        have E := Lib.hid (Nk.out (by rw [DU.out]; rfl))
        clear Yk Nk DU hv' tb
        go_wp2_with fail
        go_roundw
        case rel => exact ⟨k + 1, by go_num, by omega, by rw [E.out]; exact HW.out, HR.out⟩
        case measure => simp [intOf]; omega
      | true =>
        obtain rfl := hv' rfl
        cases d with
        | false =>
          have E := Lib.hid (Nk.out (by rw [DU.out]; rfl))
          clear Yk Nk DU hv' tb
          have xh : wr.cell? ⟨y.Y, k, none⟩ = some (.int .u64 0) := xh
          go_wp2_with fail
          go_roundw
          case rel => exact ⟨k + 1, by go_num, by omega, by rw [E.out]; exact HW.out, HR.out⟩
          case measure => simp [intOf]; omega
        | true =>
          obtain ⟨t0, t1⟩ := tb rfl rfl
          have xh : wr.cell? ⟨y.Y, k, none⟩ = some (.int .u64 (x + 1)) := xh
          have q1 : 0 < x + 1 := by omega
          have q2 : IntKind.u64.wrap (x + 1 - 1) = x := by rw [show x + 1 - 1 = x by omega, IntKind.wrap_u64]; omega
          have q3 : IntKind.u64.wrap x = x := by rw [IntKind.wrap_u64]; omega
          by_cases hx : x ≤ now
          · have E := Lib.hid (Yk.out (by rw [DU.out, decide_eq_true hx]; rfl))
            clear Yk Nk DU hv' tb
            have F := Lib.hid (cy_set (cy_set HR.out y.X k (.bool false) (.inr (.inl rfl))) y.L 4 (.int .i64 (wrap64 (t.ev + 1))) (.inl rfl))
            go_wp2_with fail
            go_roundw
            case rel => exact ⟨k + 1, by go_num, by omega, by rw [E.out]; exact FI.out, F.out⟩
            case measure => simp [intOf]; omega
          · have E := Lib.hid (Nk.out (by rw [DU.out, decide_eq_false hx]; rfl))
            clear Yk Nk DU hv' tb
            go_wp2_with fail
            go_roundw
            case rel => exact ⟨k + 1, by go_num, by omega, by rw [E.out]; exact HW.out, HR.out⟩
            case measure => simp [intOf]; omega
    · have hkn : k = s.n := by omega
      subst hkn
      clear STY STN
      generalize advK s now s.n = t at *
      have c3 := hW.c3
      obtain ⟨av, c2, hav⟩ := hW.c2
      have f3 := hW.f y.L (.inl rfl) 3
      have q : ¬ (s.n : Int) < (s.n : Int) := by omega
      have FY : Hid (t.al = true → t.a ≤ now → RoP w y s' (.tuple #[]) (.returned (.tuple #[])) ((wr.setCell ⟨y.L, 3, none⟩ (.bool false)).setCell ⟨y.L, 4, none⟩ (.int .i64 (wrap64 (t.ev + 1))))) := fun h1 h2 => by
        rw [EY.out h1 h2]
        exact ⟨rfl, hW.al0 (wrap64 (t.ev + 1)) (((Df.refl wr _).set y.L 3 _ ⟨rfl, .inl rfl⟩).set y.L 4 _ ⟨rfl, .inr rfl⟩) (set_off _ _ _ _ _ _ (by decide) (set_same _ _ _ _ _ c3)) (set_same _ _ _ _ _ (set_off _ _ _ _ _ _ (by decide) c4)), cy_set (cy_set hR y.L 3 _ (.inl rfl)) y.L 4 _ (.inl rfl)⟩
      have FN : Hid ((t.al = false ∨ now < t.a) → RoP w y s' (.tuple #[]) (.returned (.tuple #[])) wr) := fun h1 => by
        rw [EN.out h1]
        exact ⟨rfl, hW, hR⟩
      clear EY EN hW hR HR SM S
      generalize t.al = al at *
      generalize t.a = a at *
      generalize t.ev = ev at *
      cases al with
      | false =>
        have F := Lib.hid (FN.out (.inl rfl))
        clear FY FN hav
        go_wp2_with fail
        refine bodyPost_ret (results_none rfl _ _ _) rfl ?_
        exact F.out
      | true =>
        obtain rfl := hav rfl
        by_cases ha : av ≤ now
        · have F := Lib.hid (FY.out rfl ha)
          clear FY FN hav
          go_wp2_with fail
          refine bodyPost_ret (results_none rfl _ _ _) rfl ?_
          exact F.out
        · have F := Lib.hid (FN.out (.inr (by omega)))
          clear FY FN hav
          go_wp2_with fail
          refine bodyPost_ret (results_none rfl _ _ _) rfl ?_
          exact F.out
end
end Go.Proofs.Ytmhabdpnakbfpaa
