/- The calls of a disk that only read, and Flush. -/
import Derived.Test.YtoafoikphpdimaaDsk
namespace Go.Proofs.Ytoafoikphpdimaa
open Go.ChangeShapes Go.WideShapes Go.ChangeAt Go.RowKit Go.Deep Go.Joins

def apk (S : List ByteArray) (C : List CW) (q : Nat → Bool) : Nat → List ByteArray
  | 0 => S
  | k + 1 => if q k then (match C[k]? with | some c => (apk S C q k).set c.k c.d | none => apk S C q k) else apk S C q k
theorem apk_t {S : List ByteArray} {C : List CW} {q : Nat → Bool} {k : Nat} (h : q k = true) (hk : k < C.length) : apk S C q (k + 1) = (apk S C q k).set C[k].k C[k].d := by
  show (if q k then _ else _) = _
  rw [if_pos h, List.getElem?_eq_getElem hk]
theorem apk_f {S : List ByteArray} {C : List CW} {q : Nat → Bool} {k : Nat} (h : q k = false) : apk S C q (k + 1) = apk S C q k := by
  show (if q k then _ else _) = _
  rw [if_neg (by simp [h])]
theorem new_c (w : World) (a : Array Value) (t j : Nat) : (w.alloc (.cells a t)).cell? ⟨w.heap.size, j, none⟩ = a[j]? := by
  unfold World.cell?
  rw [heap_alloc_new w _]
  simp
def hasB (s : DkS) (i : Int) : Bool := decide (0 ≤ i) && decide (i < s.n)
section
variable {F : Nat → Prop} {w : World} {s : DkS} {v : Value} {Ka : Option Addr} {kc : Nat}
set_option maxHeartbeats 1000000 in
theorem has_any (h : Dk F w s v Ka kc) (i : Int) : Calls Try.prog 39 #[.pointer (some ⟨s.L, 0, none⟩), .int .i64 i] w fun e w' => e = .returned (.bool (hasB s i)) ∧ w = w' := by
  obtain ⟨c0, -⟩ := h.cells
  have hl := h.lt.1
  have E1 : Hid (i < 0 → hasB s i = false) := fun h => by unfold hasB; rw [decide_eq_false (by omega)]; rfl
  have E2 : Hid (0 ≤ i → hasB s i = decide (i < s.n)) := fun h => by unfold hasB; rw [decide_eq_true (by omega)]; rfl
  clear h
  generalize hasB s i = b at *
  generalize s.n = n at *
  generalize s.L = L at *
  by_cases h0 : i < 0
  · have F := Lib.hid (E1.out h0)
    clear E1 E2
    go_enter Try.func39, Try.ntmps39
    go_wp2
    go_ret
    exact ⟨by rw [F.out]; rfl, rfl⟩
  · have F := Lib.hid (E2.out (by omega))
    clear E1 E2
    go_enter Try.func39, Try.ntmps39
    go_wp2
    go_ret
    exact ⟨by rw [F.out]; rfl, rfl⟩
theorem size_any (h : Dk F w s v Ka kc) : Calls Try.prog 18 #[.pointer (some ⟨s.L, 0, none⟩)] w fun e w' => e = .returned (.int .i64 s.n) ∧ w = w' := by
  obtain ⟨c0, -⟩ := h.cells
  have hl := h.lt.1
  clear h
  go_enter Try.func18, Try.ntmps18
  go_wp2
  go_ret
  exact ⟨rfl, rfl⟩
theorem pend_any (h : Dk F w s v Ka kc) : Calls Try.prog 16 #[.pointer (some ⟨s.L, 0, none⟩)] w fun e w' => e = .returned (.int .i64 s.C.length) ∧ w = w' := by
  obtain ⟨A, c, rfl⟩ := h.form
  obtain ⟨-, c1, -⟩ := h.cells
  have hl := h.lt.1
  clear h
  generalize s.C.length = n at *
  go_enter Try.func16, Try.ntmps16
  go_wp2
  go_ret
  exact ⟨rfl, rfl⟩
def onS (s : DkS) : DkS := if s.off then { s with off := false } else s
def onR (s : DkS) : Int := if s.off then 0 else 9
theorem on_any (h : Dk F w s v Ka kc) : Calls Try.prog 27 #[.pointer (some ⟨s.L, 0, none⟩)] w (OpP w F (onS s) (.int .i64 (onR s))) := by
  obtain ⟨-, -, c2, -⟩ := h.cells
  have hf := h.fz 2
  have hl := h.lt.1
  cases hb : s.off with
  | true =>
    have G : Hid (OpP w F (onS s) (.int .i64 (onR s)) (.returned (.int .i64 0)) (w.setCell ⟨s.L, 2, none⟩ (.bool false))) := by
      unfold onS onR
      rw [hb]
      exact ⟨rfl, v, Ka, kc, (Dw.refl h).step (fun F h => ⟨h.setOff false, (Chg.set _ _ _ _).mono (fun k _ e => by rw [e]; exact h.FL)⟩)⟩
    clear h
    rw [hb] at c2
    clear hb
    go_enter Try.func27, Try.ntmps27
    go_wp2
    go_ret
    exact G.out
  | false =>
    have G : Hid (OpP w F (onS s) (.int .i64 (onR s)) (.returned (.int .i64 9)) w) := by
      unfold onS onR
      rw [hb]
      exact ⟨rfl, v, Ka, kc, Dw.refl h⟩
    clear h
    rw [hb] at c2
    clear hb
    go_enter Try.func27, Try.ntmps27
    go_wp2
    go_ret
    exact G.out
def flS (s : DkS) : DkS := if s.off then s else { s with S := apk s.S s.C (fun _ => true) s.C.length, C := [] }
def flR (s : DkS) : Int := if s.off then 16 else 0
theorem dw_sec {w0 w : World} {F0 : Nat → Prop} {s : DkS} {v : Value} {Ka : Option Addr} {kc : Nat} (h : Dw w0 F0 w s v Ka kc) (k : Nat) (d : ByteArray) : Dw w0 F0 (w.setCell ⟨s.X, k, none⟩ (.string d)) { s with S := s.S.set k d } v Ka kc :=
  h.step (fun F h => ⟨h.setSec k d, (Chg.set _ _ _ _).mono (fun i _ e => by rw [e]; exact h.FX)⟩)
theorem dw_L {w0 w : World} {F0 : Nat → Prop} {s s' : DkS} {v v' : Value} {Ka Ka' : Option Addr} {kc kc' j : Nat} {u : Value} (h : Dw w0 F0 w s v Ka kc) (hk : ∀ F, Dk F w s v Ka kc → Dk F (w.setCell ⟨s.L, j, none⟩ u) s' v' Ka' kc') : Dw w0 F0 (w.setCell ⟨s.L, j, none⟩ u) s' v' Ka' kc' :=
  h.step (fun F h => ⟨hk F h, (Chg.set _ _ _ _).mono (fun i _ e => by rw [e]; exact h.FL)⟩)
theorem dw_drew {w0 w : World} {F0 : Nat → Prop} {s : DkS} {v : Value} {Ka : Option Addr} {kc : Nat} (h : Dw w0 F0 w s v Ka kc) : Dw w0 F0 w.drew s v Ka kc := h.step (fun _ h => ⟨h.drew, (Chg.refl _ _).drew⟩)
theorem dw_drewN {w0 w : World} {F0 : Nat → Prop} {s : DkS} {v : Value} {Ka : Option Addr} {kc : Nat} (h : Dw w0 F0 w s v Ka kc) (n : Nat) : Dw w0 F0 (w.drewN n) s v Ka kc := h.step (fun _ h => ⟨h.drewN n, (Chg.refl _ _).drewN n⟩)
theorem dw_alloc {w0 w : World} {F0 : Nat → Prop} {s : DkS} {v : Value} {Ka : Option Addr} {kc : Nat} (h : Dw w0 F0 w s v Ka kc) (o : Obj) : Dw w0 F0 (w.alloc o) s v Ka kc := h.step (fun _ h => ⟨h.alloc o, Chg.alloc _ _ _⟩)
theorem Dw.dk {w0 w : World} {F0 : Nat → Prop} {s : DkS} {v : Value} {Ka : Option Addr} {kc : Nat} (h : Dw w0 F0 w s v Ka kc) : ∃ F, Dk F w s v Ka kc := by obtain ⟨F, _, h, _⟩ := h; exact ⟨F, h⟩
theorem apk_set {S : List ByteArray} {C : List CW} {q : Nat → Bool} (k : Nat) : (apk S C q k).length = S.length := by
  induction k with
  | zero => rfl
  | succ k ih =>
    show (if q k then _ else _ : List ByteArray).length = _
    split
    · split
      · rw [List.length_set, ih]
      · exact ih
    · exact ih
set_option maxHeartbeats 2000000 in
theorem flush_any (h : Dk F w s v Ka kc) : Calls Try.prog 24 #[.pointer (some ⟨s.L, 0, none⟩)] w (OpP w F (flS s) (.int .i64 (flR s))) := by
  obtain ⟨-, c1, c2, -⟩ := h.cells
  have hl := h.lt.1
  cases hb : s.off with
  | true =>
    have G : Hid (OpP w F (flS s) (.int .i64 (flR s)) (.returned (.int .i64 16)) w) := by
      unfold flS flR
      rw [hb]
      exact ⟨rfl, v, Ka, kc, Dw.refl h⟩
    clear h
    rw [hb] at c2
    clear hb
    go_enter Try.func24, Try.ntmps24
    go_wp2
    go_ret
    exact G.out
  | false =>
    obtain ⟨A, c, rfl⟩ := h.form
    have E1 : Hid (flS s = { s with S := apk s.S s.C (fun _ => true) s.C.length, C := [] }) := by show _ = _; unfold flS; rw [hb]; rfl
    have E2 : Hid (flR s = 0) := by show _ = _; unfold flR; rw [hb]; rfl
    have D0 := Lib.hid (Dw.refl h)
    have HL := h.cac.1
    have hm : s.C.length ≤ 9223372036854775807 := by
      rcases h.cac.2 with ⟨_, h0⟩ | ⟨g, cap, cur, _, _, _, h1, h2, _⟩
      · omega
      · unfold maxLen at h2; omega
    clear h
    rw [hb] at c2
    clear hb HL
    go_enter Try.func24, Try.ntmps24
    go_wp2_with fail
    go_loopw [14] (fun vi wr => ∃ k : Nat, k ≤ s.C.length ∧ vi = .int .i64 k ∧ Dw w F wr { s with S := apk s.S s.C (fun _ => true) k } (.slice A s.C.length c) Ka kc) (fun i _ => s.C.length - (intOf i).toNat)
    case atStart => exact ⟨0, Nat.zero_le _, rfl, D0.out⟩
    case round =>
      clear D0 c1 c2 hl
      obtain ⟨k, hk, rfl, hD⟩ := hrel
      have D := Lib.hid hD
      obtain ⟨F1, hd⟩ := hD.dk
      by_cases hlt : k < s.C.length
      · obtain ⟨g, c9, hv, e0, e1⟩ := hd.cacAt k hlt
        injection hv with hA _ hc
        subst hA hc
        have hg := cell_lt e0
        have HK := Lib.hid (hd.ks _ (List.getElem_mem hlt)).1
        have hX := hd.lt.2.1
        have hL := hd.lt.1
        have AP := Lib.hid (apk_t (S := s.S) (C := s.C) (q := fun _ => true) (k := k) rfl hlt)
        have hd2 := hd.alloc (.cells #[.int .i64 (s.C[k].k : Nat), .string s.C[k].d] 70)
        have d0 := hd2.cells.1
        have hs := hd2.secAt s.C[k].k HK.out
        have hf := hd2.sec.frozenAt s.C[k].k
        have NX := Lib.hid (dw_drew (dw_sec (dw_alloc D.out (.cells #[.int .i64 (s.C[k].k : Nat), .string s.C[k].d] 70)) s.C[k].k s.C[k].d))
        have hkn := HK.out
        clear hd hd2 D HK hD
        generalize hz : s.C[k] = z at *
        clear hz
        simp only at d0 hs hf
        generalize apk s.S s.C (fun _ => true) k = S1 at *
        generalize S1.getD z.k ByteArray.empty = old at *
        go_upto_region 6 with fail
        have y0 : (wr.alloc (.cells #[.int .i64 (z.k : Nat), .string z.d] 70)).cell? ⟨wr.heap.size, 0, none⟩ = some (.int .i64 (z.k : Nat)) := (new_c wr _ 70 0).trans rfl
        have y1 : (wr.alloc (.cells #[.int .i64 (z.k : Nat), .string z.d] 70)).cell? ⟨wr.heap.size, 1, none⟩ = some (.string z.d) := (new_c wr _ 70 1).trans rfl
        generalize wr.alloc (.cells #[.int .i64 (z.k : Nat), .string z.d] 70) = wa at *
        clear e0 e1 hX hL hg
        generalize wr.heap.size = Z at *
        go_still_tail 9, (by kernel_rfl)
        go_wp2_with fail
        go_roundw
        case rel => exact ⟨k + 1, by omega, by go_num, by rw [AP.out]; exact NX.out⟩
        case measure => simp [intOf]; omega
      · have hkn : k = s.C.length := by omega
        subst hkn
        have G : Hid (OpP w F (flS s) (.int .i64 (flR s)) (.returned (.int .i64 0)) (wr.setCell ⟨s.L, 1, none⟩ (.slice none 0 0))) := by
          show OpP _ _ _ _ _ _
          rw [E1.out, E2.out]
          exact ⟨rfl, _, _, _, dw_L (s := { s with S := apk s.S s.C (fun _ => true) s.C.length }) D.out (fun _ h => h.setNil)⟩
        have d1 := hd.cells.2.1
        have df := hd.fz 1
        clear hd hD D E1 E2
        simp only at d1 df
        go_wp2
        go_ret
        exact G.out
def kq (q : Nat → Bool) (n i : Nat) : Bool := decide (i < n) && q i
def loS (s : DkS) (q : Nat → Bool) (n : Nat) : DkS := { s with S := apk s.S s.C (kq q n) s.C.length, C := [], off := true, pl := false, pw := 0, q := fun _ => false, qn := 0 }
theorem lose_fin {w0 w : World} {F0 : Nat → Prop} {s : DkS} {S1 : List ByteArray} {v : Value} {Ka : Option Addr} {kc : Nat} (h : Dw w0 F0 w { s with S := S1 } v Ka kc) :
    Dw w0 F0 (((((w.setCell ⟨s.L, 1, none⟩ (.slice none 0 0)).setCell ⟨s.L, 2, none⟩ (.bool true)).setCell ⟨s.L, 3, none⟩ (.bool false)).setCell ⟨s.L, 4, none⟩ (.int .i64 0)).setCell ⟨s.L, 5, none⟩ (.slice none 0 0)) { s with S := S1, C := [], off := true, pl := false, pw := 0, q := fun _ => false, qn := 0 } (.slice none 0 0) none 0 := by
  have h1 := dw_L (s := { s with S := S1 }) (j := 1) h (fun _ h => h.setNil)
  have h2 := dw_L (s := { s with S := S1, C := [] }) (j := 2) h1 (fun _ h => h.setOff true)
  have h3 := dw_L (s := { s with S := S1, C := [], off := true }) (j := 3) h2 (fun _ h => h.setPl false)
  have h4 := dw_L (s := { s with S := S1, C := [], off := true, pl := false }) (j := 4) h3 (fun _ h => h.setPw 0 (by omega))
  exact dw_L (s := { s with S := S1, C := [], off := true, pl := false, pw := 0 }) (j := 5) h4 (fun _ h => h.noKeep)
set_option maxRecDepth 20000 in
set_option maxHeartbeats 4000000 in
theorem lose_any (h : Dk F w s v Ka kc) {A : Option Addr} {n c : Nat} {q : Nat → Bool} (hB : Bs w A n c q) (hA : ∀ a, A = some a → 0 < n → a.block ≠ s.L ∧ a.block ≠ s.X) :
    Calls Try.prog 38 #[.pointer (some ⟨s.L, 0, none⟩), .slice A n c] w (OpP w F (loS s q n) (.tuple #[])) := by
  obtain ⟨A0, c0, rfl⟩ := h.form
  obtain ⟨-, c1, -⟩ := h.cells
  have hl := h.lt.1
  have D0 := Lib.hid (Dw.refl h)
  have HB := Lib.hid hB
  have HA := Lib.hid hA
  have HN := Lib.hid hB.len
  have hm : s.C.length ≤ 9223372036854775807 := by
    rcases h.cac.2 with ⟨_, h0⟩ | ⟨g, cap, cur, _, _, _, h1, h2, _⟩
    · omega
    · unfold maxLen at h2; omega
  clear h hB hA
  go_enter Try.func38, Try.ntmps38
  go_wp2_with fail
  go_loopw [11] (fun vi wr => ∃ k : Nat, k ≤ s.C.length ∧ vi = .int .i64 k ∧ Dw w F wr { s with S := apk s.S s.C (kq q n) k } (.slice A0 s.C.length c0) Ka kc ∧ Bs wr A n c q) (fun i _ => s.C.length - (intOf i).toNat)
  case atStart => exact ⟨0, Nat.zero_le _, rfl, D0.out, HB.out⟩
  case round =>
    clear D0 HB c1 hl
    obtain ⟨k, hk, rfl, hD, hB⟩ := hrel
    have D := Lib.hid hD
    obtain ⟨F1, hd⟩ := hD.dk
    by_cases hlt : k < s.C.length
    · obtain ⟨g, c9, hv, e0, e1⟩ := hd.cacAt k hlt
      injection hv with hA9 _ hc
      subst hA9 hc
      have hg := cell_lt e0
      have HK := Lib.hid (hd.ks _ (List.getElem_mem hlt)).1
      have hX := hd.lt.2.1
      have hL := hd.lt.1
      have APT : Hid (kq q n k = true → apk s.S s.C (kq q n) (k + 1) = (apk s.S s.C (kq q n) k).set s.C[k].k s.C[k].d) := fun e => apk_t e hlt
      have APF : Hid (kq q n k = false → apk s.S s.C (kq q n) (k + 1) = apk s.S s.C (kq q n) k) := fun e => apk_f e
      have hd2 := hd.alloc (.cells #[.int .i64 (s.C[k].k : Nat), .string s.C[k].d] 70)
      have d0 := hd2.cells.1
      have hs := hd2.secAt s.C[k].k HK.out
      have hf := hd2.sec.frozenAt s.C[k].k
      have NX := Lib.hid (dw_alloc D.out (.cells #[.int .i64 (s.C[k].k : Nat), .string s.C[k].d] 70))
      have HB2 := Lib.hid (hB.below ((Below.refl _ wr).alloc (Nat.le_refl _) (.cells #[.int .i64 (s.C[k].k : Nat), .string s.C[k].d] 70)))
      have hkn := HK.out
      clear hd hd2 D HK hD hB
      generalize hz : s.C[k] = z at *
      clear hz
      simp only at d0 hs hf
      generalize apk s.S s.C (kq q n) k = S1 at *
      generalize S1.getD z.k ByteArray.empty = old at *
      go_upto_region 3 with fail
      have y0 : (wr.alloc (.cells #[.int .i64 (z.k : Nat), .string z.d] 70)).cell? ⟨wr.heap.size, 0, none⟩ = some (.int .i64 (z.k : Nat)) := (new_c wr _ 70 0).trans rfl
      have y1 : (wr.alloc (.cells #[.int .i64 (z.k : Nat), .string z.d] 70)).cell? ⟨wr.heap.size, 1, none⟩ = some (.string z.d) := (new_c wr _ 70 1).trans rfl
      generalize wr.alloc (.cells #[.int .i64 (z.k : Nat), .string z.d] 70) = wa at *
      clear e0 e1 hX hL hg
      generalize wr.heap.size = Z at *
      by_cases hq : kq q n k = true
      · have hn : k < n ∧ q k = true := by simpa [kq] using hq
        obtain ⟨hn, hqk⟩ := hn
        have AP := Lib.hid (APT.out hq)
        have NN := HN.out
        rcases HB2.out.row with h0 | ⟨b, off, rfl, hb, hc⟩
        · omega
        have hck := hc k hn
        rw [hqk] at hck
        have B3 : Hid (Bs (wa.setCell ⟨s.X, z.k, none⟩ (.string z.d)).drew (some ⟨b, off, none⟩) n c q) := HB2.out.chg (Chg.set _ _ _ _).drew (fun a e hn e2 => (HA.out a e hn).2 e2)
        clear hc HB2 APT APF hq hqk
        go_upto_region 4 with fail
        go_still_tail 9, (by kernel_rfl)
        go_wp2_with fail
        go_roundw
        case rel => exact ⟨k + 1, by omega, by go_num, by rw [AP.out]; exact dw_drew (dw_sec NX.out z.k z.d), B3.out⟩
        case measure => simp [intOf]; omega
      · have hq : kq q n k = false := by simpa using hq
        have AP := Lib.hid (APF.out hq)
        clear APT APF
        by_cases hn : k < n
        · have NN := HN.out
          rcases HB2.out.row with h0 | ⟨b, off, rfl, hb, hc⟩
          · omega
          have hqk : q k = false := by simpa [kq, hn] using hq
          have hck := hc k hn
          rw [hqk] at hck
          clear hc hq hqk
          go_wp2_with fail
          go_roundw
          case rel => exact ⟨k + 1, by omega, by go_num, by rw [AP.out]; exact NX.out, HB2.out⟩
          case measure => simp [intOf]; omega
        · clear hq
          go_wp2_with fail
          go_roundw
          case rel => exact ⟨k + 1, by omega, by go_num, by rw [AP.out]; exact NX.out, HB2.out⟩
          case measure => simp [intOf]; omega
    · have hkn : k = s.C.length := by omega
      subst hkn
      have G : Hid (OpP w F (loS s q n) (.tuple #[]) (.returned (.tuple #[])) (((((wr.setCell ⟨s.L, 1, none⟩ (.slice none 0 0)).setCell ⟨s.L, 2, none⟩ (.bool true)).setCell ⟨s.L, 3, none⟩ (.bool false)).setCell ⟨s.L, 4, none⟩ (.int .i64 0)).setCell ⟨s.L, 5, none⟩ (.slice none 0 0))) :=
        ⟨rfl, _, _, _, lose_fin D.out⟩
      obtain ⟨x0, x1, x2, x3, x4, x5⟩ := hd.cells
      have f1 := hd.fz 1
      have f2 := hd.fz 2
      have f3 := hd.fz 3
      have f4 := hd.fz 4
      have f5 := hd.fz 5
      clear hd hD D hB
      simp only at x1 x2 x3 x4 x5 f1 f2 f3 f4 f5
      go_wp2
      refine bodyPost_ret (results_none rfl _ _ _) rfl ?_
      exact G.out
end
end Go.Proofs.Ytoafoikphpdimaa
