/- Counts, MustAbort, Advance, Disarm. -/
import Derived.Test.YtmhabdpnakbfpaaAdv
namespace Go.Proofs.Ytmhabdpnakbfpaa
open Go.ChangeShapes Go.WideShapes Go.ChangeAt Go.RowKit Go.Deep Go.Joins

def cntK (s : WS) : Nat → Nat
  | 0 => 0
  | k + 1 => if (s.q k).on then cntK s k + 1 else cntK s k
theorem cntK_le (s : WS) (k : Nat) : cntK s k ≤ k := by
  induction k with
  | zero => exact Nat.le_refl _
  | succ k ih => unfold cntK; split <;> omega
def cnt (s : WS) : Nat := cntK s s.n
/-- A call that changes no block that is there. -/
def QuP (w : World) (v : Value) (e : Ending) (w' : World) : Prop := e = .returned v ∧ Below w.heap.size w w'
def mab (s : WS) : Bool := s.ar && ((s.ev != s.rm) || decide (0 < cnt s))
section
variable {w : World} {s : WS}
set_option maxRecDepth 20000 in
set_option maxHeartbeats 8000000 in
theorem cnt_any (h : Wk w s) : Calls Try.prog 17 #[.pointer (some ⟨s.L, 0, none⟩)] w (QuP w (.tuple #[.int .i64 s.ev, .int .i64 (cnt s)])) := by
  have H := Lib.hid h
  have c0 := h.c0
  have hn := h.hn
  have LE := Lib.hid (cntK_le s)
  have STY : Hid (∀ k, (s.q k).on = true → cntK s (k + 1) = cntK s k + 1) := fun k hk => if_pos hk
  have STN : Hid (∀ k, (s.q k).on = false → cntK s (k + 1) = cntK s k) := fun k hk => if_neg (by rw [hk]; exact Bool.false_ne_true)
  have E : Hid (cnt s = cntK s s.n) := rfl
  generalize cnt s = ct at *
  clear h
  go_enter Try.func17, Try.ntmps17
  go_wp2_with fail
  go_loopw [12, 4] (fun vi vc wr => ∃ k : Nat, vi = .int .i64 k ∧ vc = .int .i64 (cntK s k) ∧ k ≤ s.n ∧ Below w.heap.size w wr) (fun i _ _ => s.n - (intOf i).toNat)
  case atStart => exact ⟨0, rfl, rfl, Nat.zero_le _, Below.refl _ _⟩
  case round =>
    clear c0
    obtain ⟨k, rfl, rfl, hk, hB⟩ := hrel
    have HW := Lib.hid (H.out.below hB)
    have HB := Lib.hid hB
    have lek := LE.out k
    by_cases hlt : k < s.n
    · have Yk := Lib.hid (STY.out k)
      have Nk := Lib.hid (STN.out k)
      obtain ⟨x0, x1, x2⟩ := HW.out.src k hlt
      have hA := HW.out.row' hlt
      have hXlt := HW.out.lX (by omega)
      have b3 : Below wr.heap.size wr (wr.alloc (.cells #[.bool (s.q k).on, .bool (s.q k).hd, .int .u64 (s.q k).t] 63)) := bal (Below.refl _ _) _
      have HB3 := Lib.hid (bel2 hB b3)
      have hkl : (k : Int) < (s.n : Int) := by omega
      rw [hA]
      have z0 : (wr.alloc (.cells #[.bool (s.q k).on, .bool (s.q k).hd, .int .u64 (s.q k).t] 63)).cell? ⟨wr.heap.size, 0, none⟩ = some (.bool (s.q k).on) := (new_c wr _ 63 0).trans rfl
      have hzl : wr.heap.size < (wr.alloc (.cells #[.bool (s.q k).on, .bool (s.q k).hd, .int .u64 (s.q k).t] 63)).heap.size := by simp
      clear HB b3 hB
      generalize (s.q k).on = o at *
      generalize (s.q k).hd = d at *
      generalize (s.q k).t = x at *
      generalize cntK s k = cc at *
      have e1 : wrap64 ((cc : Int) + 1) = (cc : Int) + 1 := IntWalk.wrap64_in _ (by omega)
      go_upto_region 5 with fail
      generalize wr.alloc (.cells #[.bool o, .bool d, .int .u64 x] 63) = w3 at *
      generalize wr.heap.size = Z at *
      clear x0 x1 x2
      cases o with
      | false =>
        have E1 := Lib.hid (Nk.out rfl)
        clear Yk Nk
        go_wp2_with fail
        go_roundw
        case rel => exact ⟨k + 1, by go_num, by rw [E1.out], by omega, HB3.out⟩
        case measure => simp [intOf]; omega
      | true =>
        have E1 := Lib.hid (Yk.out rfl)
        clear Yk Nk
        go_wp2_with fail
        go_roundw
        case rel => exact ⟨k + 1, by go_num, by rw [E1.out]; rfl, by omega, HB3.out⟩
        case measure => simp [intOf]; omega
    · have hkn : k = s.n := by omega
      subst hkn
      have c1 := HW.out.c1
      have q : ¬ (s.n : Int) < (s.n : Int) := by omega
      have F : Hid (QuP w (.tuple #[.int .i64 s.ev, .int .i64 ct]) (.returned (.tuple #[.int .i64 s.ev, .int .i64 (cntK s s.n)])) wr) := ⟨by rw [E.out], hB⟩
      clear HB hB STY STN lek
      generalize cntK s s.n = cc at *
      go_wp2
      go_ret2
      exact F.out
set_option maxRecDepth 20000 in
set_option maxHeartbeats 4000000 in
theorem mab_any (h : Wk w s) : Calls Try.prog 19 #[.pointer (some ⟨s.L, 0, none⟩)] w (QuP w (.bool (mab s))) := by
  have H := Lib.hid h
  have P := Lib.hid (cnt_any h)
  have E : Hid (mab s = (s.ar && ((s.ev != s.rm) || decide (0 < cnt s)))) := rfl
  generalize mab s = b at *
  generalize hc : cnt s = ct at *
  clear h hc
  go_enter Try.func19, Try.ntmps19
  go_wp2_with fail
  refine P.out.mono ?_
  clear P
  rintro e w2 ⟨rfl, hb⟩
  have HB := Lib.hid hb
  have H2 := H.out.below hb
  have c1 := H2.c1
  have c4 := H2.c4
  have c5 := H2.c5
  have lL := H2.lL
  clear hb H H2
  generalize s.ar = ar at *
  generalize s.ev = ev at *
  generalize s.rm = rm at *
  cases ar with
  | false =>
    go_wp2
    go_ret
    exact ⟨by rw [E.out]; rfl, HB.out⟩
  | true =>
    by_cases hq : ev = rm
    · have q1 : (ev != rm) = false := by rw [hq]; exact bne_self_eq_false rm
      rw [q1] at E
      by_cases h0 : 0 < ct
      · have q2 : (0 : Int) < (ct : Int) := by omega
        rw [decide_eq_true h0] at E
        clear hq
        go_wp2
        go_ret
        exact ⟨by rw [E.out]; rfl, HB.out⟩
      · have q2 : ¬ (0 : Int) < (ct : Int) := by omega
        rw [decide_eq_false h0] at E
        clear hq
        go_wp2
        go_ret
        exact ⟨by rw [E.out]; rfl, HB.out⟩
    · have q1 : (ev != rm) = true := by simpa using hq
      rw [q1] at E
      clear hq
      go_wp2
      go_ret
      exact ⟨by rw [E.out]; rfl, HB.out⟩
def dis (s : WS) : WS := { s with ar := false, rm := 0 }
set_option maxRecDepth 20000 in
set_option maxHeartbeats 4000000 in
theorem dis_any (h : Wk w s) : Calls Try.prog 29 #[.pointer (some ⟨s.L, 0, none⟩)] w (OpP w s (dis s) (.tuple #[])) := by
  have c4 := h.c4
  have c5 := h.c5
  have f4 := h.fL 4
  have f5 := h.fL 5
  have lL := h.lL
  have A1 := (h.setL 4 (.bool false) { s with ar := false } ⟨rfl, rfl, rfl, rfl, rfl, rfl⟩ (by decide) rfl rfl rfl rfl rfl rfl).setL 5 (.int .i64 0) (dis s) ⟨rfl, rfl, rfl, rfl, rfl, rfl⟩ (by decide) rfl rfl rfl rfl rfl rfl
  have F : Hid (OpP w s (dis s) (.tuple #[]) (.returned (.tuple #[])) ((w.setCell ⟨s.L, 4, none⟩ (.bool false)).setCell ⟨s.L, 5, none⟩ (.int .i64 0))) := ⟨rfl, A1, cw_setL _ _ (cw_setL _ _ cw_refl)⟩
  generalize dis s = s' at *
  clear h A1
  go_enter Try.func29, Try.ntmps29
  go_wp2_with fail
  refine bodyPost_ret (results_none rfl _ _ _) rfl ?_
  exact F.out
/-- The result of a call of Advance and its like. -/
def avS (s : WS) (now : Int) : WS × Int := if vtB s now then (adv s now, 0) else (s, 1)
set_option maxRecDepth 20000 in
set_option maxHeartbeats 4000000 in
theorem avc_any (h : Wk w s) (now : Int) : Calls Try.prog 30 #[.pointer (some ⟨s.L, 0, none⟩), .int .u64 now] w (OpP w s (avS s now).1 (.int .i64 (avS s now).2)) := by
  have P := Lib.hid (vt_any h now)
  have A := Lib.hid (adv_any h now)
  have E0 : Hid (vtB s now = false → avS s now = (s, 1)) := fun e => by unfold avS; rw [e]; rfl
  have E1 : Hid (vtB s now = true → avS s now = (adv s now, 0)) := fun e => by unfold avS; rw [e]; rfl
  have H := Lib.hid h
  generalize vtB s now = b at *
  generalize avS s now = R at *
  clear h
  go_enter Try.func30, Try.ntmps30
  go_wp2_with fail
  refine P.out.mono ?_
  clear P
  rintro e w2 ⟨rfl, rfl⟩
  cases b with
  | false =>
    obtain rfl := E0.out rfl
    clear A E0 E1
    go_wp2
    go_ret
    exact ⟨rfl, H.out, cw_refl⟩
  | true =>
    obtain rfl := E1.out rfl
    go_wp2_with fail
    refine A.out.mono ?_
    rintro e w2 ⟨rfl, hW, hC⟩
    have F := Lib.hid (And.intro hW hC)
    clear A E0 E1 hW hC H
    go_wp2
    go_ret
    exact ⟨rfl, F.out.1, F.out.2⟩
end
end Go.Proofs.Ytmhabdpnakbfpaa
