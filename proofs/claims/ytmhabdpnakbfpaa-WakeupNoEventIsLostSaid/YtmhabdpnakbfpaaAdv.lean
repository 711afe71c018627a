/- advance and Counts. -/
import Derived.Test.YtmhabdpnakbfpaaOps
namespace Go.Proofs.Ytmhabdpnakbfpaa
open Go.ChangeShapes Go.WideShapes Go.ChangeAt Go.RowKit Go.Deep Go.Joins

def dueB (s : WS) (now : Int) (k : Nat) : Bool := (s.q k).on && ((s.q k).hd && decide ((s.q k).t ≤ now))
def advK (s : WS) (now : Int) : Nat → WS
  | 0 => { s with ck := now }
  | k + 1 => if dueB (advK s now k) now k then (advK s now k).endS k else advK s now k
def advA (s : WS) (now : Int) : WS := if s.al && decide (s.a ≤ now) then { s with al := false, ev := wI (s.ev + 1) } else s
def adv (s : WS) (now : Int) : WS := advA (advK s now s.n) now
/-- The same places. -/
structure Sm (s t : WS) : Prop where
  L : t.L = s.L
  X : t.X = s.X
  A : t.A = s.A
  c : t.c = s.c
  n : t.n = s.n
theorem Sm.refl (s : WS) : Sm s s := ⟨rfl, rfl, rfl, rfl, rfl⟩
theorem Sm.trans {s t u : WS} (h : Sm s t) (k : Sm t u) : Sm s u := ⟨k.L.trans h.L, k.X.trans h.X, k.A.trans h.A, k.c.trans h.c, k.n.trans h.n⟩
theorem sm_endS (s : WS) (k : Nat) : Sm s (s.endS k) := ⟨rfl, rfl, rfl, rfl, rfl⟩
theorem sm_advK (s : WS) (now : Int) (k : Nat) : Sm s (advK s now k) := by
  induction k with
  | zero => exact ⟨rfl, rfl, rfl, rfl, rfl⟩
  | succ k ih =>
    unfold advK
    split
    · exact ih.trans (sm_endS _ k)
    · exact ih
theorem sm_advA (s : WS) (now : Int) : Sm s (advA s now) := by
  unfold advA
  split <;> exact ⟨rfl, rfl, rfl, rfl, rfl⟩
theorem sm_adv (s : WS) (now : Int) : Sm s (adv s now) := (sm_advK s now s.n).trans (sm_advA _ now)
theorem CW.sm {s t : WS} {w w' : World} (h : CW t w w') (e : Sm s t) : CW s w w' := by
  unfold CW at *
  rw [e.L, e.X, e.n] at h
  exact h
theorem CW.trans' {s : WS} {w w1 w2 : World} (h : CW s w w1) (k : CW s w1 w2) : CW s w w2 := h.trans k
section
variable {w : World} {s : WS}
set_option maxRecDepth 20000 in
set_option maxHeartbeats 8000000 in
theorem adv_any (h : Wk w s) (now : Int) : Calls Try.prog 37 #[.pointer (some ⟨s.L, 0, none⟩), .int .u64 now] w (OpP w s (adv s now) (.tuple #[])) := by
  have W0 := Lib.hid (h.setL 6 (.int .u64 now) { s with ck := now } ⟨rfl, rfl, rfl, rfl, rfl, rfl⟩ (by decide) rfl rfl rfl rfl rfl rfl)
  have R0 := Lib.hid (cw_setL (s := s) (w := w) (w' := w) 6 (.int .u64 now) cw_refl)
  have c6 := h.c6
  have fL := h.fL 6
  have lL := h.lL
  have SM := Lib.hid (sm_advK s now)
  have STY : Hid (∀ k, dueB (advK s now k) now k = true → advK s now (k + 1) = (advK s now k).endS k) := fun k hk => if_pos hk
  have STN : Hid (∀ k, dueB (advK s now k) now k = false → advK s now (k + 1) = advK s now k) := fun k hk => if_neg (by rw [hk]; exact Bool.false_ne_true)
  have EY : Hid ((advK s now s.n).al = true → (advK s now s.n).a ≤ now → adv s now = { advK s now s.n with al := false, ev := wI ((advK s now s.n).ev + 1) }) := fun h1 h2 => by
    unfold adv advA
    rw [h1, decide_eq_true h2]
    rfl
  have EN : Hid (((advK s now s.n).al = false ∨ now < (advK s now s.n).a) → adv s now = advK s now s.n) := fun h1 => by
    unfold adv advA
    rcases h1 with h1 | h1
    · rw [h1]; rfl
    · rw [decide_eq_false (by omega), Bool.and_false]; rfl
  have hn := h.hn
  generalize adv s now = s' at *
  have AK0 : Hid (advK s now 0 = { s with ck := now }) := rfl
  clear h
  go_enter Try.func37, Try.ntmps37
  go_upto_region 1 with fail
  generalize w.setCell ⟨s.L, 6, none⟩ (.int .u64 now) = w1 at *
  have lL1 := W0.out.lL
  have c0 := W0.out.c0
  go_wp2_with fail
  go_loopw [15] (fun vi wr => ∃ k : Nat, vi = .int .i64 k ∧ k ≤ s.n ∧ Wk wr (advK s now k) ∧ CW s w wr) (fun i _ => s.n - (intOf i).toNat)
  case atStart => exact ⟨0, rfl, Nat.zero_le _, W0.out, R0.out⟩
  case round =>
    clear W0 R0 c0 lL1
    obtain ⟨k, rfl, hk, hW, hR⟩ := hrel
    have S := SM.out k
    have HW := Lib.hid hW
    have HR := Lib.hid hR
    by_cases hlt : k < s.n
    · have Yk := Lib.hid (STY.out k)
      have Nk := Lib.hid (STN.out k)
      generalize advK s now k = t at *
      have hkt : k < t.n := by rw [S.n]; exact hlt
      obtain ⟨x0, x1, x2⟩ := hW.src k hkt
      have hA := hW.row' hkt
      have hXlt := hW.lX (by omega)
      rw [S.X] at x0 x1 x2 hA hXlt
      rw [S.A] at hA
      have b3 : Below wr.heap.size wr (wr.alloc (.cells #[.bool (t.q k).on, .bool (t.q k).hd, .int .u64 (t.q k).t] 63)) := bal (Below.refl _ _) _
      have HW3 := Lib.hid (hW.below b3)
      have HR3 := Lib.hid (cw_below hR b3)
      have DU : Hid (dueB t now k = ((t.q k).on && ((t.q k).hd && decide ((t.q k).t ≤ now)))) := rfl
      have hkl : (k : Int) < (s.n : Int) := by omega
      rw [hA]
      have PE : Hid (∀ W, Wk W t → Calls Try.prog 39 #[.pointer (some ⟨s.L, 0, none⟩), .int .i64 k] W (OpP W t (t.endS k) (.tuple #[]))) := fun W hW => by
        have := end_any hW k hkt
        rwa [S.L] at this
      have z0 : (wr.alloc (.cells #[.bool (t.q k).on, .bool (t.q k).hd, .int .u64 (t.q k).t] 63)).cell? ⟨wr.heap.size, 0, none⟩ = some (.bool (t.q k).on) := (new_c wr _ 63 0).trans rfl
      have z1 : (wr.alloc (.cells #[.bool (t.q k).on, .bool (t.q k).hd, .int .u64 (t.q k).t] 63)).cell? ⟨wr.heap.size, 1, none⟩ = some (.bool (t.q k).hd) := (new_c wr _ 63 1).trans rfl
      have z2 : (wr.alloc (.cells #[.bool (t.q k).on, .bool (t.q k).hd, .int .u64 (t.q k).t] 63)).cell? ⟨wr.heap.size, 2, none⟩ = some (.int .u64 (t.q k).t) := (new_c wr _ 63 2).trans rfl
      have hzl : wr.heap.size < (wr.alloc (.cells #[.bool (t.q k).on, .bool (t.q k).hd, .int .u64 (t.q k).t] 63)).heap.size := by simp
      clear HW HR b3 hW hR
      generalize (t.q k).on = o at *
      generalize (t.q k).hd = d at *
      generalize (t.q k).t = x at *
      go_upto_region 4 with fail
      generalize wr.alloc (.cells #[.bool o, .bool d, .int .u64 x] 63) = w3 at *
      generalize wr.heap.size = Z at *
      clear x0 x1 x2
      cases o with
      | false =>
        have E := Lib.hid (Nk.out (by rw [DU.out]; rfl))
        clear Yk Nk DU PE
        go_wp2_with fail
        go_roundw
        case rel => exact ⟨k + 1, by go_num, by omega, by rw [E.out]; exact HW3.out, HR3.out⟩
        case measure => simp [intOf]; omega
      | true =>
        cases d with
        | false =>
          have E := Lib.hid (Nk.out (by rw [DU.out]; rfl))
          clear Yk Nk DU PE
          go_wp2_with fail
          go_roundw
          case rel => exact ⟨k + 1, by go_num, by omega, by rw [E.out]; exact HW3.out, HR3.out⟩
          case measure => simp [intOf]; omega
        | true =>
          by_cases hx : x ≤ now
          · have E := Lib.hid (Yk.out (by rw [DU.out, decide_eq_true hx]; rfl))
            clear Yk Nk DU
            go_wp2_with fail
            refine (PE.out _ HW3.out).mono ?_
            clear PE z0 z1 z2 hzl
            rintro e w4 ⟨rfl, hW4, hR4⟩
            have HW4 := Lib.hid hW4
            have HR4 := Lib.hid (HR3.out.trans' (hR4.sm S))
            clear hW4 hR4
            go_wp2_with fail
            go_roundw
            case rel => exact ⟨k + 1, by go_num, by omega, by rw [E.out]; exact HW4.out, HR4.out⟩
            case measure => simp [intOf]; omega
          · have E := Lib.hid (Nk.out (by rw [DU.out, decide_eq_false hx]; rfl))
            clear Yk Nk DU PE
            go_wp2_with fail
            go_roundw
            case rel => exact ⟨k + 1, by go_num, by omega, by rw [E.out]; exact HW3.out, HR3.out⟩
            case measure => simp [intOf]; omega
    · have hkn : k = s.n := by omega
      subst hkn
      clear STY STN AK0 c6 fL
      generalize advK s now s.n = t at *
      have c1 := hW.c1
      have c2 := hW.c2
      have c3 := hW.c3
      have f1 := hW.fL 1
      have f2 := hW.fL 2
      have lLr := hW.lL
      rw [S.L] at c1 c2 c3 f1 f2 lLr
      have q : ¬ (s.n : Int) < (s.n : Int) := by omega
      have FY : Hid (t.al = true → t.a ≤ now → OpP w s s' (.tuple #[]) (.returned (.tuple #[])) ((wr.setCell ⟨s.L, 2, none⟩ (.bool false)).setCell ⟨s.L, 1, none⟩ (.int .i64 (wrap64 (t.ev + 1))))) := fun h1 h2 => by
        rw [EY.out h1 h2]
        have A1 := (hW.setL 2 (.bool false) { t with al := false } ⟨rfl, rfl, rfl, rfl, rfl, rfl⟩ (by decide) rfl rfl rfl rfl rfl rfl).setL 1 (.int .i64 (wrap64 (t.ev + 1))) { t with al := false, ev := wI (t.ev + 1) } ⟨rfl, rfl, rfl, rfl, rfl, rfl⟩ (by decide) rfl rfl rfl rfl rfl rfl
        have A2 : ∀ L, L = t.L → Wk ((wr.setCell ⟨L, 2, none⟩ (.bool false)).setCell ⟨L, 1, none⟩ (.int .i64 (wrap64 (t.ev + 1)))) { t with al := false, ev := wI (t.ev + 1) } := fun L e => by subst e; exact A1
        exact ⟨rfl, A2 s.L S.L.symm, cw_setL _ _ (cw_setL _ _ hR)⟩
      have FN : Hid ((t.al = false ∨ now < t.a) → OpP w s s' (.tuple #[]) (.returned (.tuple #[])) wr) := fun h1 => by
        rw [EN.out h1]
        exact ⟨rfl, hW, hR⟩
      clear EY EN hW hR HW HR SM S
      generalize t.al = al at *
      generalize t.a = a at *
      generalize t.ev = ev at *
      cases al with
      | false =>
        have F := Lib.hid (FN.out (.inl rfl))
        clear FY FN
        go_wp2_with fail
        refine bodyPost_ret (results_none rfl _ _ _) rfl ?_
        exact F.out
      | true =>
        by_cases ha : a ≤ now
        · have F := Lib.hid (FY.out rfl ha)
          clear FY FN
          go_wp2_with fail
          refine bodyPost_ret (results_none rfl _ _ _) rfl ?_
          exact F.out
        · have F := Lib.hid (FN.out (.inr (by omega)))
          clear FY FN
          go_wp2_with fail
          refine bodyPost_ret (results_none rfl _ _ _) rfl ?_
          exact F.out
end
end Go.Proofs.Ytmhabdpnakbfpaa
