/- temperatures, Energy, Temperature, Released. -/
import Derived.Test.YtidegjinfacjjaaRed
namespace Go.Proofs.Ytidegjinfacjjaa
open Go.ChangeShapes Go.WideShapes Go.ChangeAt Go.RowKit Go.Deep Go.Joins

theorem bel_drewN {B : Nat} {w a : World} (h : Below B w a) (n : Nat) : Below B w (a.drewN n) := ⟨h.os, h.tape, h.output, h.size, h.block⟩
/-- Sizes at which nothing wraps. -/
structure Sz (h : Mo) : Prop where
  c1 : ∀ i, i < h.n → 1 ≤ (h.D i).c
  e0 : ∀ i, i < h.n → -4611686018427387904 ≤ h.E i ∧ h.E i ≤ 4611686018427387904
set_option maxRecDepth 20000 in
set_option maxHeartbeats 4000000 in
theorem tmp_any {w : World} {h : Mo} (k : Hm w h) (sz : Sz h) : Calls Try.prog 35 #[.pointer (some ⟨h.L, 0, none⟩)] w (fun e w' => ∃ v, e = .returned v ∧ TmP w h.n h.T v w' ∧ Below w.heap.size w w') := by
  have H := Lib.hid k
  have SZ := Lib.hid sz
  have n1 := k.n1
  have n2 := k.n2
  have c0 := k.c0
  have lL := k.lL
  have hmk := run_make_row' (P := Try.prog) 24 2 _ 8 Try.underlying24 info2 rfl .i64 .i64 h.n (by omega) (by omega)
  have TG := Lib.hid (tg_made w h.n 2 h.T)
  obtain ⟨b, off, hA, -⟩ := k.dm.addr k.n1
  have HA := Lib.hid hA
  rw [hA] at c0
  clear k sz hA
  go_enter Try.func35, Try.ntmps35
  go_wp2
  clear hmk c0 lL
  generalize w.alloc (.cells (madeCells #[.int .i64 0] h.n) 2) = w0 at *
  generalize hY : w.heap.size = Y at *
  have HY := Lib.hid hY
  clear hY
  go_loopw [17] (fun vi wr => ∃ i : Nat, vi = .int .i64 i ∧ i ≤ h.n ∧ Tg w wr Y h.n i h.T) (fun vi _ => h.n - (intOf vi).toNat)
  case atStart => exact ⟨0, rfl, Nat.zero_le _, TG.out⟩
  case round =>
    clear TG
    obtain ⟨i, rfl, hi, hG⟩ := hrel
    have G := Lib.hid hG
    by_cases hlt : i < h.n
    · have K := H.out.below hG.bel
      have c0 := K.c0
      have lL := K.lL
      obtain ⟨hb, d0, d1⟩ := K.dm.dat' HA.out hlt
      rw [HA.out] at c0
      have C1 := SZ.out.c1 i hlt
      obtain ⟨e0, e1⟩ := SZ.out.e0 i hlt
      have FD := Lib.hid (fun W => fd_any (h.E i) (h.D i).c W C1 e0 e1)
      have HT : Hid (h.E i / (h.D i).c = h.T i) := rfl
      generalize (h.D i).c = dc at *
      generalize (h.D i).a = da at *
      generalize hei : h.E i = ei at *
      have HEI := Lib.hid hei
      clear hei hG K e0 e1 C1
      go_upto_region 5 with fail
      have hx : Below wr.heap.size wr (wr.alloc (.cells #[.int .i64 dc, .int .i64 da] 31)) := bal (Below.refl _ wr) _
      have z0 : (wr.alloc (.cells #[.int .i64 dc, .int .i64 da] 31)).cell? ⟨wr.heap.size, 0, none⟩ = some (.int .i64 dc) := by simp [go_sem]
      clear d0 d1 c0 lL hb
      have G1 := Lib.hid (G.out.below hx)
      generalize wr.alloc (.cells #[.int .i64 dc, .int .i64 da] 31) = w1 at *
      generalize wr.heap.size = Z at *
      clear hx G
      have K := H.out.below G1.out.bel
      have c3 := K.c3
      have en := K.en i hlt
      rw [HEI.out] at en
      obtain ⟨vy, y0⟩ := G1.out.all i hlt
      have fy := G1.out.frz i
      have lY := G1.out.lY
      clear K
      go_still_tail 13, (by kernel_rfl)
      still_call ((FD.out _).mono fun e w' h => And.intro h.1 h.2.symm)
      repeat still_step
      refine wpStill_nil ?_
      have NX := Lib.hid ((G1.out.set hlt).below (Below.refl _ _).drew)
      rw [← HT.out] at NX
      clear c3 en z0 G1
      go_wp2
      go_roundw
      case rel => exact ⟨i + 1, by go_num, by omega, NX.out⟩
      case measure => simp [intOf]; omega
    · obtain rfl : i = h.n := by omega
      have hq : ¬ (h.n : Int) < (h.n : Int) := by omega
      have F : Hid (TmP w h.n h.T (.slice (some ⟨Y, 0, none⟩) h.n h.n) wr ∧ Below w.heap.size w wr) :=
        ⟨⟨_, _, rfl, ⟨by omega, .inr ⟨Y, 0, rfl, hG.lY, fun j hj => by rw [Nat.zero_add]; exact hG.done j (by omega)⟩⟩, fun a e => by injection e with e; subst e; exact ⟨hG.Y0, hG.lY⟩⟩, hG.bel⟩
      clear hG G
      go_wp2
      go_ret
      exact ⟨_, rfl, F.out.1, F.out.2⟩
set_option maxRecDepth 20000 in
theorem has_any {w : World} {h : Mo} (k : Hm w h) (d : Int) : Calls Try.prog 37 #[.pointer (some ⟨h.L, 0, none⟩), .int .i64 d] w (PuP w (.bool (decide (0 ≤ d ∧ d < h.n)))) := by
  have c0 := k.c0
  have lL := k.lL
  have n2 := k.n2
  clear k
  have P : ∀ bb, bb = decide (0 ≤ d ∧ d < h.n) → Calls Try.prog 37 #[.pointer (some ⟨h.L, 0, none⟩), .int .i64 d] w (PuP w (.bool bb)) := fun bb hb => by
    by_cases h0 : 0 ≤ d
    · by_cases h1 : d < h.n
      · rw [decide_eq_true (p := 0 ≤ d ∧ d < h.n) ⟨h0, h1⟩] at hb
        subst hb
        go_enter Try.func37, Try.ntmps37
        go_wp2
        go_ret
        exact ⟨rfl, rfl⟩
      · rw [decide_eq_false (p := 0 ≤ d ∧ d < h.n) (fun q => h1 q.2)] at hb
        subst hb
        go_enter Try.func37, Try.ntmps37
        go_wp2
        go_ret
        exact ⟨rfl, rfl⟩
    · rw [decide_eq_false (p := 0 ≤ d ∧ d < h.n) (fun q => h0 q.1)] at hb
      have h1 : d < 0 := by omega
      subst hb
      go_enter Try.func37, Try.ntmps37
      go_wp2
      go_ret
      exact ⟨rfl, rfl⟩
  exact P _ rfl
/-- The energy of a domain, or 0. -/
def Mo.Ev (h : Mo) (d : Int) : Int := if 0 ≤ d ∧ d < h.n then h.E d.toNat else 0
def Mo.Tv (h : Mo) (d : Int) : Int := if 0 ≤ d ∧ d < h.n then h.T d.toNat else 0
theorem rel_any {w : World} {h : Mo} (k : Hm w h) : Calls Try.prog 22 #[.pointer (some ⟨h.L, 0, none⟩)] w (PuP w (.int .i64 h.o)) := by
  have c4 := k.c4
  have lL := k.lL
  clear k
  go_enter Try.func22, Try.ntmps22
  go_wp2
  go_ret
  exact ⟨rfl, rfl⟩
set_option maxRecDepth 20000 in
theorem eng_any {w : World} {h : Mo} (k : Hm w h) (d : Int) : Calls Try.prog 24 #[.pointer (some ⟨h.L, 0, none⟩), .int .i64 d] w (PuP w (.int .i64 (h.Ev d))) := by
  have HS := Lib.hid (has_any k d)
  by_cases h0 : 0 ≤ d ∧ d < h.n
  · obtain ⟨i, rfl⟩ : ∃ i : Nat, d = i := ⟨d.toNat, by omega⟩
    have hi : i < h.n := by omega
    have V : Hid (h.Ev i = h.E i) := if_pos h0
    have HS := Lib.hid (show Calls Try.prog 37 #[.pointer (some ⟨h.L, 0, none⟩), .int .i64 (i : Int)] w (PuP w (.bool true)) by have := HS.out; rw [decide_eq_true h0] at this; exact this)
    have c3 := k.c3
    have lL := k.lL
    have en := k.en i hi
    have lX := k.lX
    clear k h0
    go_enter Try.func24, Try.ntmps24
    go_wp2_with (go_at_call 37; refine HS.out.mono ?_; rintro e w' ⟨rfl, rfl⟩)
    go_ret
    exact ⟨by rw [V.out]; rfl, rfl⟩
  · have V : Hid (h.Ev d = 0) := if_neg h0
    have HS := Lib.hid (show Calls Try.prog 37 #[.pointer (some ⟨h.L, 0, none⟩), .int .i64 d] w (PuP w (.bool false)) by have := HS.out; rw [decide_eq_false h0] at this; exact this)
    clear k h0
    go_enter Try.func24, Try.ntmps24
    go_wp2_with (go_at_call 37; refine HS.out.mono ?_; rintro e w' ⟨rfl, rfl⟩)
    go_ret
    exact ⟨by rw [V.out]; rfl, rfl⟩
set_option maxRecDepth 20000 in
set_option maxHeartbeats 4000000 in
theorem tem_any {w : World} {h : Mo} (k : Hm w h) (sz : Sz h) (d : Int) : Calls Try.prog 26 #[.pointer (some ⟨h.L, 0, none⟩), .int .i64 d] w (QuP w (.int .i64 (h.Tv d))) := by
  have HS := Lib.hid (has_any k d)
  by_cases h0 : 0 ≤ d ∧ d < h.n
  · obtain ⟨i, rfl⟩ : ∃ i : Nat, d = i := ⟨d.toNat, by omega⟩
    have hi : i < h.n := by omega
    have V : Hid (h.Tv i = h.E i / (h.D i).c) := if_pos h0
    have HS := Lib.hid (show Calls Try.prog 37 #[.pointer (some ⟨h.L, 0, none⟩), .int .i64 (i : Int)] w (PuP w (.bool true)) by have := HS.out; rw [decide_eq_true h0] at this; exact this)
    have c0 := k.c0
    have c3 := k.c3
    have lL := k.lL
    have en := k.en i hi
    have lX := k.lX
    have C1 := sz.c1 i hi
    obtain ⟨e0, e1⟩ := sz.e0 i hi
    have FD := Lib.hid (fun W => fd_any (h.E i) (h.D i).c W C1 e0 e1)
    obtain ⟨b, off, hA, hb, d0, d1⟩ := k.dm.dat hi
    rw [hA] at c0
    generalize (h.D i).c = dc at *
    generalize h.E i = ei at *
    clear k sz h0 C1 e0 e1 d1 hA
    go_enter Try.func26, Try.ntmps26
    go_upto_region 3 with (go_at_call 37; refine HS.out.mono ?_; rintro e w' ⟨rfl, rfl⟩)
    go_quiet ((go_at_call 38; exact Calls.quiet_of_same ((FD.out _).mono fun e w' h => ⟨h.1, h.2.symm⟩)))
    go_wp2
    go_ret
    exact ⟨by rw [V.out]; rfl, bel_drewN (Below.refl _ w) _⟩
  · have V : Hid (h.Tv d = 0) := if_neg h0
    have HS := Lib.hid (show Calls Try.prog 37 #[.pointer (some ⟨h.L, 0, none⟩), .int .i64 d] w (PuP w (.bool false)) by have := HS.out; rw [decide_eq_false h0] at this; exact this)
    clear k h0
    go_enter Try.func26, Try.ntmps26
    go_wp2_with (go_at_call 37; refine HS.out.mono ?_; rintro e w' ⟨rfl, rfl⟩)
    go_ret
    exact ⟨by rw [V.out]; rfl, Below.refl _ _⟩
end Go.Proofs.Ytidegjinfacjjaa
