/- Pulse and New. -/
import Derived.Test.YtmhabdpnakbfpaaMet
namespace Go.Proofs.Ytmhabdpnakbfpaa
open Go.ChangeShapes Go.WideShapes Go.ChangeAt Go.RowKit Go.Deep Go.Joins

section
variable {w : World} {s : WS}
theorem sm_pulQ (s : WS) (i : Nat) (x : Int) : Sm s (pulQ s i x) := by
  unfold pulQ
  split
  · split <;> exact ⟨rfl, rfl, rfl, rfl, rfl⟩
  · exact ⟨rfl, rfl, rfl, rfl, rfl⟩
theorem Wk.setT (h : Wk w s) (i : Nat) (hi : i < s.n) (x : Int) : Wk (w.setCell ⟨s.X, i * 3 + 2, none⟩ (.int .u64 x)) (s.putQ i ⟨(s.q i).on, (s.q i).hd, x⟩) := by
  have LX : s.L ≠ s.X := fun e => h.XL (Nat.zero_lt_of_lt hi) e.symm
  refine ⟨set_far _ _ _ _ _ _ _ LX h.c0, set_far _ _ _ _ _ _ _ LX h.c1, set_far _ _ _ _ _ _ _ LX h.c2, set_far _ _ _ _ _ _ _ LX h.c3, set_far _ _ _ _ _ _ _ LX h.c4, set_far _ _ _ _ _ _ _ LX h.c5, set_far _ _ _ _ _ _ _ LX h.c6, fun j => (World.frozen?_setCell _ _ _ _).trans (h.fL j), fun h0 j => (World.frozen?_setCell _ _ _ _).trans (h.fX h0 j), (by show s.L < _; simpa using h.lL), (fun h0 => by show s.X < _; simpa using h.lX h0), h.XL, h.hn, h.row, fun k hk => ?_⟩
  obtain ⟨h1, h2, h3⟩ := h.src k hk
  by_cases e : k = i
  · subst e
    simp only [WS.putQ, if_true]
    exact ⟨set_off _ _ _ _ _ _ (by omega) h1, set_off _ _ _ _ _ _ (by omega) h2, set_same _ _ _ _ _ h3⟩
  · simp only [WS.putQ, if_neg e]
    exact ⟨set_off _ _ _ _ _ _ (by omega) h1, set_off _ _ _ _ _ _ (by omega) h2, set_off _ _ _ _ _ _ (by omega) h3⟩
set_option maxRecDepth 20000 in
set_option maxHeartbeats 8000000 in
theorem pul_yes (h : Wk w s) (k : Nat) (hk : k < s.n) (now hold : Int) (hv : vB s k now = true) (hh : hold ≤ 1152921504606846976) :
    Calls Try.prog 23 #[.pointer (some ⟨s.L, 0, none⟩), .int .i64 k, .int .u64 now, .int .u64 hold] w (OpP w s (adv (pulQ (adv s now) k (wU (now + hold))) now) (.int .i64 0)) := by
  have P := Lib.hid (val_any h k now)
  have A := Lib.hid (adv_any h now)
  have S := sm_adv s now
  have h1 : ¬ 1152921504606846976 < hold := by omega
  rw [hv] at P
  generalize adv s now = t at *
  have hkt : k < t.n := by rw [S.n]; exact hk
  have QN : Hid ((t.q k).on = false → pulQ t k (wU (now + hold)) = t.putQ k ⟨true, true, wU (now + hold)⟩) := fun e => by unfold pulQ; rw [if_neg (by rw [e]; exact Bool.false_ne_true)]
  have QH : Hid ((t.q k).on = true → (t.q k).hd = false → pulQ t k (wU (now + hold)) = t) := fun e1 e2 => by unfold pulQ; rw [if_pos e1, if_neg (by rw [e2]; exact Bool.false_ne_true)]
  have QY : Hid ((t.q k).on = true → (t.q k).hd = true → pulQ t k (wU (now + hold)) = t.putQ k ⟨(t.q k).on, (t.q k).hd, if (t.q k).t < wU (now + hold) then wU (now + hold) else (t.q k).t⟩) := fun e1 e2 => by unfold pulQ; rw [if_pos e1, if_pos e2, e1, e2]
  have SU := Lib.hid (S.trans (sm_pulQ t k (wU (now + hold))))
  generalize pulQ t k (wU (now + hold)) = u at *
  clear h hv
  go_enter Try.func23, Try.ntmps23
  go_wp2_with fail
  refine P.out.mono ?_
  clear P
  rintro e w2 ⟨rfl, rfl⟩
  go_wp2_with fail
  refine A.out.mono ?_
  clear A
  rintro e w2 ⟨rfl, hW, hC⟩
  have c0 := hW.c0
  have f0 := hW.fX (by omega) (k * 3)
  have f1 := hW.fX (by omega) (k * 3 + 1)
  have f2 := hW.fX (by omega) (k * 3 + 2)
  obtain ⟨x0, x1, x2⟩ := hW.src k hkt
  have hXlt := hW.lX (by omega)
  have lL := hW.lL
  rw [hW.row' hkt] at c0
  rw [S.L] at c0 lL
  have hkl : (k : Int) < (t.n : Int) := by omega
  have PA : Hid (∀ W, Wk W u → CW s w W → Calls Try.prog 37 #[.pointer (some ⟨s.L, 0, none⟩), .int .u64 now] W (OpP w s (adv u now) (.tuple #[]))) := fun W hu hc => by
    have := adv_any hu now
    rw [SU.out.L] at this
    exact this.mono fun e w' ⟨a, b, c⟩ => ⟨a, b, hc.trans' (c.sm SU.out)⟩
  generalize adv u now = v at *
  have UN : Hid ((t.q k).on = false → Wk (((w2.setCell ⟨t.X, k * 3, none⟩ (.bool true)).setCell ⟨t.X, k * 3 + 1, none⟩ (.bool true)).setCell ⟨t.X, k * 3 + 2, none⟩ (.int .u64 (wU (now + hold)))) u ∧ CW s w (((w2.setCell ⟨t.X, k * 3, none⟩ (.bool true)).setCell ⟨t.X, k * 3 + 1, none⟩ (.bool true)).setCell ⟨t.X, k * 3 + 2, none⟩ (.int .u64 (wU (now + hold))))) := fun e =>
    ⟨by rw [QN.out e]; exact hW.setQ k hkt ⟨true, true, wU (now + hold)⟩, by rw [S.X]; exact cw_setX (by omega) _ _ (cw_setX (by omega) _ _ (cw_setX (by omega) _ _ hC))⟩
  have UH : Hid ((t.q k).on = true → (t.q k).hd = false → Wk w2 u ∧ CW s w w2) := fun e1 e2 => ⟨by rw [QH.out e1 e2]; exact hW, hC⟩
  have UY : Hid ((t.q k).on = true → (t.q k).hd = true → ∀ m, (if (t.q k).t < wU (now + hold) then wU (now + hold) else (t.q k).t) = m → Wk (w2.setCell ⟨t.X, k * 3 + 2, none⟩ (.int .u64 m)) u ∧ CW s w (w2.setCell ⟨t.X, k * 3 + 2, none⟩ (.int .u64 m))) := fun e1 e2 m hm => by
    refine ⟨?_, by rw [S.X]; exact cw_setX (by omega) _ _ hC⟩
    rw [QY.out e1 e2, hm]
    exact hW.setT k hkt m
  clear QN QH QY hW hC SU
  unfold wU at UN UY
  generalize hx : IntKind.u64.wrap (now + hold) = x at *
  generalize (t.q k).on = on at *
  generalize (t.q k).hd = hd at *
  generalize (t.q k).t = tt at *
  cases on with
  | false =>
    have F := Lib.hid (UN.out rfl)
    clear UN UH UY
    go_upto_region 9 with fail
    generalize ((w2.setCell ⟨t.X, k * 3, none⟩ (.bool true)).setCell ⟨t.X, k * 3 + 1, none⟩ (.bool true)).setCell ⟨t.X, k * 3 + 2, none⟩ (.int .u64 x) = w3 at *
    have PB := PA.out w3 F.out.1 F.out.2
    clear x0 x1 x2 f0 f1 f2 hx c0
    go_wp2_with fail
    refine PB.mono ?_
    rintro e w4 ⟨rfl, hW4, hC4⟩
    have F := Lib.hid (And.intro hW4 hC4)
    clear PB hW4 hC4 PA
    go_wp2
    go_ret
    exact ⟨rfl, F.out.1, F.out.2⟩
  | true =>
    cases hd with
    | false =>
      have F := Lib.hid (UH.out rfl rfl)
      have PB := PA.out w2 F.out.1 F.out.2
      clear UN UH UY x2 PA hx
      go_wp2_with fail
      refine PB.mono ?_
      rintro e w4 ⟨rfl, hW4, hC4⟩
      have F := Lib.hid (And.intro hW4 hC4)
      clear PB hW4 hC4
      go_wp2
      go_ret
      exact ⟨rfl, F.out.1, F.out.2⟩
    | true =>
      by_cases hm : tt < x
      · have F := Lib.hid (UY.out rfl rfl x (if_pos hm))
        clear UN UH UY
        go_upto_region 9 with fail
        generalize w2.setCell ⟨t.X, k * 3 + 2, none⟩ (.int .u64 x) = w3 at *
        have PB := PA.out w3 F.out.1 F.out.2
        clear x0 x1 x2 f0 f1 f2 hx c0 hm
        go_wp2_with fail
        refine PB.mono ?_
        rintro e w4 ⟨rfl, hW4, hC4⟩
        have F := Lib.hid (And.intro hW4 hC4)
        clear PB hW4 hC4 PA
        go_wp2
        go_ret
        exact ⟨rfl, F.out.1, F.out.2⟩
      · have F := Lib.hid (UY.out rfl rfl tt (if_neg hm))
        clear UN UH UY
        go_upto_region 9 with fail
        generalize w2.setCell ⟨t.X, k * 3 + 2, none⟩ (.int .u64 tt) = w3 at *
        have PB := PA.out w3 F.out.1 F.out.2
        clear x0 x1 x2 f0 f1 f2 hx c0 hm
        go_wp2_with fail
        refine PB.mono ?_
        rintro e w4 ⟨rfl, hW4, hC4⟩
        have F := Lib.hid (And.intro hW4 hC4)
        clear PB hW4 hC4 PA
        go_wp2
        go_ret
        exact ⟨rfl, F.out.1, F.out.2⟩
set_option maxRecDepth 20000 in
set_option maxHeartbeats 4000000 in
theorem pul_any (h : Wk w s) (i now hold : Int) : Calls Try.prog 23 #[.pointer (some ⟨s.L, 0, none⟩), .int .i64 i, .int .u64 now, .int .u64 hold] w (OpP w s (pulS s i now hold).1 (.int .i64 (pulS s i now hold).2)) := by
  cases hv : (vB s i now && decide (hold ≤ 1152921504606846976)) with
  | true =>
    have E1 : pulS s i now hold = (adv (pulQ (adv s now) i.toNat (wU (now + hold))) now, 0) := by unfold pulS; rw [hv]; rfl
    rw [Bool.and_eq_true] at hv
    obtain ⟨k, rfl, hk⟩ := vB_at hv.1
    rw [E1]
    exact pul_yes h k hk now hold hv.1 (of_decide_eq_true hv.2)
  | false =>
    have E0 : pulS s i now hold = (s, 1) := by unfold pulS; rw [hv]; rfl
    rw [E0]
    have P := Lib.hid (val_any h i now)
    have H := Lib.hid h
    clear h E0
    cases hb : vB s i now with
    | false =>
      rw [hb] at P
      clear hv hb
      go_enter Try.func23, Try.ntmps23
      go_wp2_with fail
      refine P.out.mono ?_
      clear P
      rintro e w2 ⟨rfl, rfl⟩
      go_wp2
      go_ret
      exact ⟨rfl, H.out, cw_refl⟩
    | true =>
      rw [hb, Bool.true_and] at hv
      have ha : ¬ hold ≤ 1152921504606846976 := of_decide_eq_false hv
      have ha2 : 1152921504606846976 < hold := by omega
      rw [hb] at P
      clear hv hb
      go_enter Try.func23, Try.ntmps23
      go_wp2_with fail
      refine P.out.mono ?_
      clear P
      rintro e w2 ⟨rfl, rfl⟩
      go_wp2
      go_ret
      exact ⟨rfl, H.out, cw_refl⟩
end
/-- New sources. -/
def s0 (n L X : Nat) : WS := ⟨L, X, some ⟨X, 0, none⟩, n, n, fun _ => ⟨false, false, 0⟩, 0, false, 0, false, 0, 0⟩
def NwP (w : World) (n : Int) (e : Ending) (w' : World) : Prop :=
  (∃ k : Nat, n = k ∧ k ≤ 32 ∧ ∃ L X, e = .returned (.tuple #[.pointer (some ⟨L, 0, none⟩), .int .i64 0]) ∧ Wk w' (s0 k L X) ∧ w.heap.size ≤ L ∧ w.heap.size ≤ X ∧ Below w.heap.size w w') ∨ ((n < 0 ∨ 32 < n) ∧ e = .returned (.tuple #[.pointer none, .int .i64 1]) ∧ w = w')
theorem info63 : (Try.prog.info? 63).map (fun i => (i.zero, i.size, i.bytes)) = some (some (.agg #[.bool false, .bool false, .int .u64 0]), 3, 16) := by kernel_rfl
def zeros (n : Nat) : Array Value := madeCells #[.bool false, .bool false, .int .u64 0] (n * 3)
theorem mk63 (n : Nat) (hn : n ≤ 32) (w : World) : (Instr.makeSlice 58 (.int .i64 (n : Int)) (.int .i64 (n : Int))).run Try.prog w = .ok (.slice (some ⟨w.heap.size, 0, none⟩) n n) (w.alloc (.cells (zeros n) 63)) := by
  obtain ⟨i, hi, hzz⟩ := Option.map_eq_some_iff.1 info63
  simp only [Prod.mk.injEq] at hzz
  obtain ⟨hz, hs, hb⟩ := hzz
  have hr := run_make (P := Try.prog) w 58 63 i _ Try.underlying58 hi hz .i64 .i64 n n (by omega) (Int.le_refl _) (by rw [hb]; omega) (by omega)
  simp only [Int.toNat_natCast, hs] at hr
  exact hr
set_option maxRecDepth 20000 in
set_option maxHeartbeats 4000000 in
theorem new_any (n : Int) (w : World) : Calls Try.prog 11 #[.int .i64 n] w (NwP w n) := by
  by_cases h1 : n < 0
  · go_enter Try.func11, Try.ntmps11
    go_wp2
    go_ret2
    exact .inr ⟨.inl h1, rfl, rfl⟩
  by_cases h2 : 32 < n
  · go_enter Try.func11, Try.ntmps11
    go_wp2
    go_ret2
    exact .inr ⟨.inr h2, rfl, rfl⟩
  obtain ⟨k, rfl⟩ := Int.eq_ofNat_of_zero_le (show 0 ≤ n by omega)
  have hk : k ≤ 32 := by omega
  have hmk := mk63 k hk w
  have b1 : Below w.heap.size w (w.alloc (.cells (zeros k) 63)) := bal (Below.refl _ _) _
  have e1 : (w.alloc (.cells (zeros k) 63)).heap.size = w.heap.size + 1 := by simp
  have ex : ((w.alloc (.cells (zeros k) 63)).alloc (.cells #[.slice (some ⟨w.heap.size, 0, none⟩) k k, .int .i64 0, .bool false, .int .u64 0, .bool false, .int .i64 0, .int .u64 0] 60)).heap.size = w.heap.size + 2 := by simp
  have b2 : Below (w.alloc (.cells (zeros k) 63)).heap.size (w.alloc (.cells (zeros k) 63)) ((w.alloc (.cells (zeros k) 63)).alloc (.cells #[.slice (some ⟨w.heap.size, 0, none⟩) k k, .int .i64 0, .bool false, .int .u64 0, .bool false, .int .i64 0, .int .u64 0] 60)) := bal (Below.refl _ _) _
  have Z : ∀ j, (w.alloc (.cells (zeros k) 63)).cell? ⟨w.heap.size, j, none⟩ = (zeros k)[j]? := fun j => new_c w _ 63 j
  have Y : ∀ j, ((w.alloc (.cells (zeros k) 63)).alloc (.cells #[.slice (some ⟨w.heap.size, 0, none⟩) k k, .int .i64 0, .bool false, .int .u64 0, .bool false, .int .i64 0, .int .u64 0] 60)).cell? ⟨w.heap.size + 1, j, none⟩ = (#[.slice (some ⟨w.heap.size, 0, none⟩) k k, .int .i64 0, .bool false, .int .u64 0, .bool false, .int .i64 0, .int .u64 0] : Array Value)[j]? := fun j => by
    have := new_c (w.alloc (.cells (zeros k) 63)) #[.slice (some ⟨w.heap.size, 0, none⟩) k k, .int .i64 0, .bool false, .int .u64 0, .bool false, .int .i64 0, .int .u64 0] 60 j
    rwa [e1] at this
  have FY : ∀ j, ((w.alloc (.cells (zeros k) 63)).alloc (.cells #[.slice (some ⟨w.heap.size, 0, none⟩) k k, .int .i64 0, .bool false, .int .u64 0, .bool false, .int .i64 0, .int .u64 0] 60)).frozen? ⟨w.heap.size + 1, j, none⟩ = false := fun j => by
    have := World.frozen?_alloc_new (w.alloc (.cells (zeros k) 63)) #[.slice (some ⟨w.heap.size, 0, none⟩) k k, .int .i64 0, .bool false, .int .u64 0, .bool false, .int .i64 0, .int .u64 0] 60 j
    rwa [e1] at this
  have FX : ∀ j, (w.alloc (.cells (zeros k) 63)).frozen? ⟨w.heap.size, j, none⟩ = false := fun j => World.frozen?_alloc_new w _ _ j
  have ZZ : ∀ j, j < k * 3 → (zeros k)[j]? = some (if j % 3 = 2 then .int .u64 0 else .bool false) := fun j hj => by
    unfold zeros madeCells
    rw [Array.getElem?_map, Array.getElem?_range, if_pos hj]
    simp only [Option.map_some]
    rcases (show j % 3 = 0 ∨ j % 3 = 1 ∨ j % 3 = 2 by omega) with e | e | e <;> simp [e]
  have hx : w.heap.size < (w.alloc (.cells (zeros k) 63)).heap.size := by rw [e1]; omega
  have XC : ∀ j, j < k * 3 → ((w.alloc (.cells (zeros k) 63)).alloc (.cells #[.slice (some ⟨w.heap.size, 0, none⟩) k k, .int .i64 0, .bool false, .int .u64 0, .bool false, .int .i64 0, .int .u64 0] 60)).cell? ⟨w.heap.size, j, none⟩ = some (if j % 3 = 2 then .int .u64 0 else .bool false) := fun j hj => (b2.cell (p := ⟨w.heap.size, j, none⟩) (by exact hx)).trans ((Z j).trans (ZZ j hj))
  have F : Hid (NwP w k (.returned (.tuple #[.pointer (some ⟨w.heap.size + 1, 0, none⟩), .int .i64 0])) ((w.alloc (.cells (zeros k) 63)).alloc (.cells #[.slice (some ⟨w.heap.size, 0, none⟩) k k, .int .i64 0, .bool false, .int .u64 0, .bool false, .int .i64 0, .int .u64 0] 60))) := by
    refine .inl ⟨k, rfl, hk, w.heap.size + 1, w.heap.size, rfl, ⟨Y 0, Y 1, Y 2, Y 3, Y 4, Y 5, Y 6, FY, fun _ j => (b2.frozen (p := ⟨w.heap.size, j, none⟩) (by exact hx)).trans (FX j), ?_, fun _ => ?_, fun _ => ?_, hk, .inl rfl, fun i hi => ?_⟩, by omega, by omega, bel2 b1 b2⟩
    · show w.heap.size + 1 < _; rw [ex]; omega
    · show w.heap.size < _; rw [ex]; omega
    · show w.heap.size ≠ w.heap.size + 1; omega
    · have hi : i < k := hi
      refine ⟨(XC (i * 3) (by omega)).trans ?_, (XC (i * 3 + 1) (by omega)).trans ?_, (XC (i * 3 + 2) (by omega)).trans ?_⟩
      · rw [if_neg (by omega)]; rfl
      · rw [if_neg (by omega)]; rfl
      · rw [if_pos (by omega)]; rfl
  clear b1 b2 Z Y FY FX ZZ XC e1 ex hx
  go_enter Try.func11, Try.ntmps11
  go_wp2
  go_ret2
  exact F.out
end Go.Proofs.Ytmhabdpnakbfpaa
