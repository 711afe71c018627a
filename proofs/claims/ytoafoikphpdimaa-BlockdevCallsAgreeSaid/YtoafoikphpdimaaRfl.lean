/- The reference: Flush, the power loss, PowerOff. -/
import Derived.Test.YtoafoikphpdimaaRsk
namespace Go.Proofs.Ytoafoikphpdimaa
open Go.ChangeShapes Go.WideShapes Go.ChangeAt Go.RowKit Go.Deep Go.Joins
section
variable {F : Nat → Prop} {w : World} {s : DkS} {x : RX}
set_option maxRecDepth 20000 in
set_option maxHeartbeats 4000000 in
theorem rflush_any (h : Rk F w s x) : Calls Try.prog 33 #[.pointer (some ⟨s.L, 0, none⟩)] w (RpO w F (flS s) (.int .i64 (flR s))) := by
  obtain ⟨-, c1, c2, -⟩ := h.cells
  have hl := h.lt.1
  cases hb : s.off with
  | true =>
    have G : Hid (RpO w F (flS s) (.int .i64 (flR s)) (.returned (.int .i64 16)) w) := by
      unfold flS flR
      rw [hb]
      exact ⟨rfl, x, Rw.refl h⟩
    clear h
    rw [hb] at c2
    clear hb
    go_enter Try.func33, Try.ntmps33
    go_wp2
    go_ret
    exact G.out
  | false =>
    have E1 : Hid (flS s = { s with S := apk s.S s.C (fun _ => true) s.C.length, C := [] }) := by show _ = _; unfold flS; rw [hb]; rfl
    have E2 : Hid (flR s = 0) := by show _ = _; unfold flR; rw [hb]; rfl
    have D0 := Lib.hid (Rw.refl h)
    have hm := h.lenC
    clear h
    rw [hb] at c2
    clear hb
    go_enter Try.func33, Try.ntmps33
    go_wp2_with fail
    go_loopw [3] (fun vi wr => ∃ k : Nat, k ≤ s.C.length ∧ vi = .int .i64 k ∧ Rw w F wr { s with S := apk s.S s.C (fun _ => true) k } x) (fun i _ => s.C.length - (intOf i).toNat)
    case atStart => exact ⟨0, Nat.zero_le _, rfl, D0.out⟩
    case round =>
      clear D0 c1 c2 hl
      obtain ⟨k, hk, rfl, hD⟩ := hrel
      have D := Lib.hid hD
      obtain ⟨F1, hd⟩ := hD.rk
      obtain ⟨A0, c0, hv⟩ := hd.form
      have d1 := hd.cells.2.1
      have hL := hd.lt.1
      simp only at hv d1
      by_cases hlt : k < s.C.length
      · obtain ⟨g, c9, hv2, e0, e1⟩ := hd.cacAt k hlt
        rw [hv2] at d1 hv
        clear hv hv2
        have hg := cell_lt e0
        have HK := Lib.hid (hd.ks _ (List.getElem_mem hlt)).1
        have hX := hd.lt.2.1
        have AP := Lib.hid (apk_t (S := s.S) (C := s.C) (q := fun _ => true) (k := k) rfl hlt)
        have d0 := hd.cells.1
        have hs := hd.secAt s.C[k].k HK.out
        have hf := hd.sec.frozenAt s.C[k].k
        have NX := Lib.hid (rw_drew (rw_sec D.out s.C[k].k s.C[k].d))
        have hkn := HK.out
        have hxc := hd.lenX
        clear hd D HK hD
        generalize hz : s.C[k] = z at *
        clear hz
        simp only at d0 hs hf hX hL hg
        generalize apk s.S s.C (fun _ => true) k = S1 at *
        generalize S1.getD z.k ByteArray.empty = old at *
        go_upto_region 6 with fail
        go_still_tail 21, (by kernel_rfl)
        go_wp2_with fail
        go_roundw
        case rel => exact ⟨k + 1, by omega, by go_num, by rw [AP.out]; exact NX.out⟩
        case measure => simp [intOf]; omega
      · have hkn : k = s.C.length := by omega
        subst hkn
        rw [hv] at d1
        have G : Hid (RpO w F (flS s) (.int .i64 (flR s)) (.returned (.int .i64 0)) (wr.setCell ⟨s.L, 1, none⟩ (.slice none 0 0))) := by
          show RpO _ _ _ _ _ _
          rw [E1.out, E2.out]
          exact ⟨rfl, _, rw_L (s := { s with S := apk s.S s.C (fun _ => true) s.C.length }) D.out (fun _ h => h.setNil)⟩
        have df := hd.fz 1
        clear hd hD D E1 E2 hv
        simp only at df hL
        go_wp2
        go_ret
        exact G.out
theorem rlose_fin {w0 w : World} {F0 : Nat → Prop} {s : DkS} {S1 : List ByteArray} {x : RX} (h : Rw w0 F0 w { s with S := S1 } x) :
    Rw w0 F0 ((((w.setCell ⟨s.L, 1, none⟩ (.slice none 0 0)).setCell ⟨s.L, 2, none⟩ (.bool true)).setCell ⟨s.L, 3, none⟩ (.int .i64 (-1))).setCell ⟨s.L, 4, none⟩ (.slice none 0 0)) { s with S := S1, C := [], off := true, pl := false, pw := 0, q := fun _ => false, qn := 0 } { x with v := .slice none 0 0, A := none, n := 0, c := 0, q := fun _ => false } := by
  have h1 := rw_L (s := { s with S := S1 }) (j := 1) h (fun _ h => h.setNil)
  have h2 := rw_L (s := { s with S := S1, C := [] }) (j := 2) h1 (fun _ h => h.setOff true)
  have h3 := rw_L (s := { s with S := S1, C := [], off := true }) (j := 3) h2 (fun _ h => h.noPlan)
  exact rw_L (s := { s with S := S1, C := [], off := true, pl := false, pw := 0, q := fun _ => false, qn := 0 }) (j := 4) h3 (fun _ h => h.noKeep rfl)
set_option maxRecDepth 20000 in
set_option maxHeartbeats 8000000 in
theorem rlose_any (h : Rk F w s x) {A : Option Addr} {n c : Nat} {q : Nat → Bool} (hB : Bs w A n c q) (hA : ∀ a, A = some a → 0 < n → a.block ≠ s.L ∧ a.block ≠ s.X) :
    Calls Try.prog 47 #[.pointer (some ⟨s.L, 0, none⟩), .slice A n c] w (RpO w F (loS s q n) (.tuple #[])) := by
  have D0 := Lib.hid (Rw.refl h)
  have HB := Lib.hid hB
  have HA := Lib.hid hA
  have HN := Lib.hid hB.len
  have hm := h.lenC
  clear h hB hA
  go_enter Try.func47, Try.ntmps47
  go_wp2_with fail
  go_loopw [4] (fun vi wr => ∃ k : Nat, k ≤ s.C.length ∧ vi = .int .i64 k ∧ Rw w F wr { s with S := apk s.S s.C (kq q n) k } x ∧ Bs wr A n c q) (fun i _ => s.C.length - (intOf i).toNat)
  case atStart => exact ⟨0, Nat.zero_le _, rfl, D0.out, HB.out⟩
  case round =>
    clear D0 HB
    obtain ⟨k, hk, rfl, hD, hB⟩ := hrel
    have D := Lib.hid hD
    obtain ⟨F1, hd⟩ := hD.rk
    obtain ⟨A0, c0, hv⟩ := hd.form
    have d1 := hd.cells.2.1
    have hL := hd.lt.1
    simp only at hv d1 hL
    by_cases hlt : k < s.C.length
    · obtain ⟨g, c9, hv2, e0, e1⟩ := hd.cacAt k hlt
      rw [hv2] at d1 hv
      clear hv hv2
      have hg := cell_lt e0
      have HK := Lib.hid (hd.ks _ (List.getElem_mem hlt)).1
      have hX := hd.lt.2.1
      have APT : Hid (kq q n k = true → apk s.S s.C (kq q n) (k + 1) = (apk s.S s.C (kq q n) k).set s.C[k].k s.C[k].d) := fun e => apk_t e hlt
      have APF : Hid (kq q n k = false → apk s.S s.C (kq q n) (k + 1) = apk s.S s.C (kq q n) k) := fun e => apk_f e
      have d0 := hd.cells.1
      have hs := hd.secAt s.C[k].k HK.out
      have hf := hd.sec.frozenAt s.C[k].k
      have NX := Lib.hid D.out
      have HB2 := Lib.hid hB
      have hkn := HK.out
      have hxc := hd.lenX
      clear hd D HK hD hB
      generalize hz : s.C[k] = z at *
      clear hz
      simp only at d0 hs hf hX hg
      generalize apk s.S s.C (kq q n) k = S1 at *
      generalize S1.getD z.k ByteArray.empty = old at *
      by_cases hq : kq q n k = true
      · have hn : k < n ∧ q k = true := by simpa [kq] using hq
        obtain ⟨hn, hqk⟩ := hn
        have AP := Lib.hid (APT.out hq)
        have NN := HN.out
        rcases HB2.out.row with h0 | ⟨b, off, rfl, hb, hc⟩
        · omega
        have hck := hc k hn
        rw [hqk] at hck
        have B3 : Hid (Bs (wr.setCell ⟨s.X, z.k, none⟩ (.string z.d)).drew (some ⟨b, off, none⟩) n c q) := HB2.out.chg (Chg.set _ _ _ _).drew (fun a e hn e2 => (HA.out a e hn).2 e2)
        clear hc HB2 APT APF hq hqk
        go_upto_region 4 with fail
        go_still_tail 21, (by kernel_rfl)
        go_wp2_with fail
        go_roundw
        case rel => exact ⟨k + 1, by omega, by go_num, by rw [AP.out]; exact rw_drew (rw_sec NX.out z.k z.d), B3.out⟩
        case measure => simp [intOf]; omega
      · have hq : kq q n k = false := by simpa using hq
        have AP := Lib.hid (APF.out hq)
        clear APT APF
        by_cases hn : k < n
        · have NN := HN.out
          rcases HB2.out.row with h0 | ⟨b, off, rfl, hb, hc⟩
          · omega
          have hqk : q k = false := by simpa [kq, hn] using hq
          have hck := hc k hn
          rw [hqk] at hck
          clear hc hq hqk
          go_wp2_with fail
          go_roundw
          case rel => exact ⟨k + 1, by omega, by go_num, by rw [AP.out]; exact NX.out, HB2.out⟩
          case measure => simp [intOf]; omega
        · clear hq
          go_wp2_with fail
          go_roundw
          case rel => exact ⟨k + 1, by omega, by go_num, by rw [AP.out]; exact NX.out, HB2.out⟩
          case measure => simp [intOf]; omega
    · have hkn : k = s.C.length := by omega
      subst hkn
      rw [hv] at d1
      have G : Hid (RpO w F (loS s q n) (.tuple #[]) (.returned (.tuple #[])) ((((wr.setCell ⟨s.L, 1, none⟩ (.slice none 0 0)).setCell ⟨s.L, 2, none⟩ (.bool true)).setCell ⟨s.L, 3, none⟩ (.int .i64 (-1))).setCell ⟨s.L, 4, none⟩ (.slice none 0 0))) :=
        ⟨rfl, _, rlose_fin D.out⟩
      obtain ⟨x0, x1, x2, x3, x4⟩ := hd.cells
      have f1 := hd.fz 1
      have f2 := hd.fz 2
      have f3 := hd.fz 3
      have f4 := hd.fz 4
      clear hd hD D hB x1 hv
      simp only at x2 x3 x4 f1 f2 f3 f4
      generalize plC _ = pc at *
      go_wp2
      refine bodyPost_ret (results_none rfl _ _ _) rfl ?_
      exact G.out
end
end Go.Proofs.Ytoafoikphpdimaa
