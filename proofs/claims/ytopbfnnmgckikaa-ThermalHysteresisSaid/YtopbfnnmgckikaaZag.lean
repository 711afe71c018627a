/- ThermalZoneAgrees. -/
import Derived.Test.YtopbfnnmgckikaaMbh
namespace Go.Proofs.Ytopbfnnmgckikaa
open Go.RowKit

def deg (t : Int) (i : Nat) : Int := if i % 8 = 7 then t else (modOf t 141 : Int) - 80
theorem deg_any (t : Int) (i : Nat) (hi : i ≤ 1000) (w : World) : Calls Try.prog 21 #[.int .i64 t, .int .i64 i] w (fun e w' => e = .returned (.int .i64 (deg t i)) ∧ w = w') := by
  have hm : ((i : Int) % 8) = ((i % 8 : Nat) : Int) := by omega
  have q := (modOf_spec t 141 (by omega) (by omega)).2
  have E : Hid (wrap64 ((IntKind.u64.wrap t).tmod 141) = (modOf t 141 : Nat)) := (modOf_spec t 141 (by omega) (by omega)).1
  by_cases h : i % 8 = 7
  · have D : Hid (deg t i = t) := by show _ = _; unfold deg; rw [if_pos h]
    have hb : (((i : Int) % 8) == 7) = true := by rw [hm, h]; rfl
    clear h hm
    generalize deg t i = d at *
    go_enter Try.func21, Try.ntmps21
    go_wp2
    go_ret
    exact ⟨by rw [D.out]; rfl, rfl⟩
  · have D : Hid (deg t i = (modOf t 141 : Int) - 80) := by show _ = _; unfold deg; rw [if_neg h]
    have hb : (((i : Int) % 8) == 7) = false := by rw [hm]; simp; omega
    clear h hm
    generalize deg t i = d at *
    have W : Hid (wrap64 ((modOf t 141 : Int) - 80) = (modOf t 141 : Int) - 80) := IntWalk.wrap64_in _ (by omega)
    generalize modOf t 141 = md at *
    go_enter Try.func21, Try.ntmps21
    go_wp2
    go_ret
    refine ⟨?_, rfl⟩
    show Ending.returned (.int .i64 (wrap64 (wrap64 ((IntKind.u64.wrap t).tmod 141) - 80))) = _
    rw [E.out, W.out, D.out]
theorem gt_tp (g : Nat → St) (m : Nat) (lv a : Int) (h0 : 0 ≤ a) (h1 : a ≤ lv) (h2 : lv ≤ 64) : GT (tpN m) (tpF g) lv a :=
  ⟨by unfold tpN; omega, fun k _ => by
    have q1 := (modOf_spec (g k).a 3 (by omega) (by omega)).2
    have q2 := (modOf_spec (g k).b 101 (by omega) (by omega)).2
    have q3 := (modOf_spec (g k).c 20 (by omega) (by omega)).2
    show 1 ≤ 1 + (modOf (g k).a 3 : Int) ∧ 1 + (modOf (g k).a 3 : Int) ≤ 3 ∧ -67108864 ≤ (modOf (g k).b 101 : Int) - 50 ∧ (modOf (g k).b 101 : Int) - 50 ≤ 67108864 ∧ 0 ≤ (modOf (g k).c 20 : Int) ∧ (modOf (g k).c 20 : Int) ≤ 16777216
    omega, h0, h1, h2⟩
theorem okZ_tp (g : Nat → St) (m : Nat) (lv : Int) (h : 0 ≤ lv ∧ lv ≤ 64) : okZ (tpN m) (tpF g) lv = true := by
  refine okZ_ok ?_ h
  unfold vT
  rw [allTo_of fun k _ => ?_, decide_eq_true (by unfold tpN; omega)]
  · rfl
  · have q1 := (modOf_spec (g k).a 3 (by omega) (by omega)).2
    have q2 := (modOf_spec (g k).b 101 (by omega) (by omega)).2
    have q3 := (modOf_spec (g k).c 20 (by omega) (by omega)).2
    exact decide_eq_true (show 1 ≤ 1 + (modOf (g k).a 3 : Int) ∧ 1 + (modOf (g k).a 3 : Int) ≤ 3 ∧ -67108864 ≤ (modOf (g k).b 101 : Int) - 50 ∧ (modOf (g k).b 101 : Int) - 50 ≤ 67108864 ∧ 0 ≤ (modOf (g k).c 20 : Int) ∧ (modOf (g k).c 20 : Int) ≤ 16777216 by omega)
/-- The places of two zones, apart. -/
structure Apart (B : Nat) (Z O Z' O' : Nat) (TA A2 : Option Addr) (n : Nat) : Prop where
  a : B ≤ Z ∧ B ≤ O ∧ B ≤ Z' ∧ B ≤ O'
  b : Z ≠ Z' ∧ Z ≠ O' ∧ O ≠ Z' ∧ O ≠ O'
  c : ∀ x, TA = some x → 1 ≤ n → x.block ≠ Z' ∧ x.block ≠ O'
  d : ∀ x, A2 = some x → 1 ≤ n → x.block ≠ Z ∧ x.block ≠ O
/-- Two zones in one state. -/
structure Zz (w0 w : World) (Z O Z' O' : Nat) (TA A2 : Option Addr) (tc c2 n : Nat) (f : Nat → St) (lv a : Int) (on : Nat → Bool) : Prop where
  z : Zn 70 w Z O TA tc n f lv a on
  r : Zn 72 w Z' O' A2 c2 n f lv a on
  b : Below w0.heap.size w0 w
theorem Zz.below {w0 w w' : World} {Z O Z' O' : Nat} {TA A2 : Option Addr} {tc c2 n : Nat} {f : Nat → St} {lv a : Int} {on : Nat → Bool} (h : Zz w0 w Z O Z' O' TA A2 tc c2 n f lv a on) (hb : Below w.heap.size w w') : Zz w0 w' Z O Z' O' TA A2 tc c2 n f lv a on :=
  ⟨h.z.below hb, h.r.below hb, bel2 h.b hb⟩
def ZInv (w0 : World) (Z O Z' O' : Nat) (TA A2 : Option Addr) (tc c2 n : Nat) (f : Nat → St) (lv : Int) (N k : Nat) (vi : Value) (wr : World) : Prop :=
  ∃ (i : Nat) (a : Int) (on : Nat → Bool), i + k = N ∧ vi = .int .i64 i ∧ GT n f lv a ∧ Zz w0 wr Z O Z' O' TA A2 tc c2 n f lv a on
set_option maxRecDepth 100000 in
set_option maxHeartbeats 8000000 in
theorem zag_any (A : Option Addr) (m c : Nat) (g : Nat → St) (lv : Int) (TB : Option Addr) (nt ct : Nat) (TZ : Nat → Int) (w : World) (h : SlS .i64 w A m g ∧ m ≤ c ∧ c ≤ 9223372036854775807 ∧ (A = none → c = 0)) (_hlv : (Lit.int .i64 lv).wf = true) (ht : Ns .i64 w TB nt TZ ∧ nt ≤ ct ∧ ct ≤ 9223372036854775807) : Calls Try.prog 5 #[.slice A m c, .int .i64 lv, .slice TB nt ct] w (LawPost w) := by
  obtain ⟨h, _, _, _⟩ := h
  have HT := Lib.hid ht.1
  have hnt := ht.1.len
  have hl := h.len
  clear ht
  by_cases hbig : 20 < m ∨ 60 < nt
  · clear h
    have hor : 20 < m ∨ (¬ 20 < m ∧ 60 < nt) := by omega
    clear hbig
    rcases hor with h1 | ⟨h1, h2⟩
    all_goals
      go_enter Try.func5, Try.ntmps5
      go_wp2_with fail
      refine (awake_any w).mono ?_
      rintro e w2 ⟨rfl, hb⟩
      have B2 := Lib.hid hb
      clear hb
      go_wp2
      go_ret
      exact ⟨rfl, B2.out⟩
  have h20 : ¬ 20 < m := fun x => hbig (.inl x)
  have h60 : ¬ 60 < nt := fun x => hbig (.inr x)
  clear hbig
  have P := trips_q A m c g w h
  have hq := (modOf_spec lv 8 (by omega) (by omega)).2
  have HGT : Hid (GT (tpN m) (tpF g) (modOf lv 8 : Nat) 0) := gt_tp g m _ _ (by omega) (by omega) (by omega)
  have HOK : Hid (okZ (tpN m) (tpF g) (modOf lv 8 : Nat) = true) := okZ_tp g m _ (by omega)
  have hn6 : tpN m ≤ 6 := by unfold tpN; omega
  clear h
  go_enter Try.func5, Try.ntmps5
  go_wp2_with fail
  refine P.mono ?_
  clear P
  rintro e w1 ⟨A2, c2, rfl, hS, hN, hP, hb⟩
  have B1 := Lib.hid hb
  have S1 := Lib.hid hS
  have HN := Lib.hid hN
  have HBL : Hid (∀ a, A2 = some a → 1 ≤ tpN m → a.block < w1.heap.size) := fun a e hm => by subst e; exact sls_blk hS hm
  clear hb hS hN hP
  generalize tpN m = n at *
  generalize tpF g = f at *
  go_wp2_with fail
  refine (mod_any lv 8 (by omega) (by omega) _).mono ?_
  rintro e w1' ⟨rfl, rfl⟩
  generalize hml : ((modOf lv 8 : Nat) : Int) = ml at *
  clear hml
  have P := nz_any A2 n c2 f ml w1 S1.out HN.out
  go_wp2_with fail
  refine P.mono ?_
  clear P
  rintro e w2 ⟨hb, hor⟩
  rcases hor with ⟨h1, _⟩ | ⟨_, Z, O, TA, tc, rfl, hZ, z1, z2, z3⟩
  · rw [HOK.out] at h1; cases h1
  have S2 := Lib.hid (S1.out.below hb (Nat.le_refl _))
  have Z2 := Lib.hid hZ
  have B2 := Lib.hid (bel2 B1.out hb)
  have HZB : Hid (w1.heap.size ≤ Z ∧ w1.heap.size ≤ O ∧ Z < w2.heap.size ∧ O < w2.heap.size ∧ w.heap.size ≤ w1.heap.size) := ⟨z1, z2, hZ.row.lt, hZ.orow.lt, B1.out.size⟩
  have HTA : Hid (∀ x, TA = some x → 1 ≤ n → x.block < w2.heap.size) := fun x e hm => by subst e; exact sls_blk hZ.tr hm
  clear hb hZ z1 z2 z3 S1 B1
  have P := rz_any A2 n c2 f ml w2 S2.out
  go_wp2_with fail
  refine P.mono ?_
  clear P
  rintro e w3 ⟨hb, hor⟩
  rcases hor with ⟨h1, _⟩ | ⟨_, Z', O', rfl, hZ, z1, z2⟩
  · rw [HOK.out] at h1; cases h1
  obtain ⟨y1, y2, y3, y4, y5⟩ := HZB.out
  have HAP : Hid (Apart w.heap.size Z O Z' O' TA A2 n) := ⟨by omega, by omega, fun x e hm => by have := HTA.out x e hm; omega, fun x e hm => by have := HBL.out x e hm; omega⟩
  have START : Hid (ZInv w Z O Z' O' TA A2 tc c2 n f ml nt nt (.int .i64 0) w3) := ⟨0, 0, _, by omega, rfl, HGT.out, ⟨Z2.out.below hb, hZ, bel2 B2.out hb⟩⟩
  clear hb hZ z1 z2 y1 y2 y3 y4 y5 S2 Z2 B2 HZB HTA HBL HOK HN HGT
  go_wp2_with fail
  go_loopg [13] nt (fun k vi wr => ZInv w Z O Z' O' TA A2 tc c2 n f ml nt k vi wr)
  case atStart => exact START.out
  case round =>
    clear START
    obtain ⟨i, a, on, hik, rfl, hG, hZ⟩ := hrel
    by_cases hlt : i < nt
    · obtain ⟨gg, rfl⟩ : ∃ gg, gk = gg + 1 := ⟨gk - 1, by omega⟩
      obtain ⟨tb, toff, rfl, htc⟩ := HT.out.at hZ.b (Nat.le_refl _) hlt
      have HG := Lib.hid hG
      have HZ := Lib.hid hZ
      generalize TZ i = t at *
      have P := deg_any t i (by omega) wr
      clear hG hZ
      go_wp2_with fail
      refine P.mono ?_
      clear P
      rintro e wr' ⟨rfl, rfl⟩
      clear htc
      generalize deg t i = T at *
      by_cases hT : -134217728 ≤ T ∧ T ≤ 134217728
      · have P := upd_any Z O TA tc n f ml a on T wr HZ.out.z HG.out hT.1 hT.2
        go_wp2_with fail
        refine P.mono ?_
        clear P
        rintro e w4 ⟨rfl, hZ4, hc4⟩
        have AP := HAP.out
        have R4 : Zn 72 w4 Z' O' A2 c2 n f ml a on := HZ.out.r.chg hc4 (fun x => by have := AP.b; rcases x with x | x <;> omega) (fun x => by have := AP.b; rcases x with x | x <;> omega) (fun x e hm y => by have := AP.d x e hm; rcases y with y | y <;> omega)
        have B4 : Below w.heap.size w w4 := zo_below HZ.out.b hc4 AP.a.1 AP.a.2.1
        have P := rupd_any Z' O' A2 c2 n f ml a on T w4 R4 HG.out hT.1 hT.2
        have Z4 := Lib.hid hZ4
        have BB4 := Lib.hid B4
        clear R4 hZ4 hc4 B4 HZ AP
        go_wp2_with fail
        refine P.mono ?_
        clear P
        rintro e w5 ⟨rfl, hR5, hc5⟩
        have AP := HAP.out
        have Z5 : Zn 70 w5 Z O TA tc n f ml (nxt (pasK f (updO T f on) 2 n) a ml) (updO T f on) := Z4.out.chg hc5 (fun x => by have := AP.b; rcases x with x | x <;> omega) (fun x => by have := AP.b; rcases x with x | x <;> omega) (fun x e hm y => by have := AP.c x e hm; rcases y with y | y <;> omega)
        have HZ5 : Hid (Zz w w5 Z O Z' O' TA A2 tc c2 n f ml (nxt (pasK f (updO T f on) 2 n) a ml) (updO T f on)) := ⟨Z5, hR5, zo_below BB4.out hc5 AP.a.2.2.1 AP.a.2.2.2⟩
        have HG5 := Lib.hid (HG.out.nxt (pasK f (updO T f on) 2 n))
        clear AP Z5 hR5 hc5 Z4 BB4 HG
        generalize nxt (pasK f (updO T f on) 2 n) a ml = a5 at *
        generalize pasK f (updO T f on) 3 n = q5 at *
        generalize updO T f on = on5 at *
        have hqq : (q5 != q5) = false := by cases q5 <;> rfl
        have P := lvl_any Z O TA tc n f ml a5 on5 w5 HZ5.out.z
        go_wp2_with fail
        refine P.mono ?_
        clear P
        rintro e w6 ⟨rfl, rfl⟩
        have P := rlvl_any Z' O' A2 c2 n f ml a5 on5 w5 HZ5.out.r
        go_wp2_with fail
        refine P.mono ?_
        clear P
        rintro e w6 ⟨rfl, rfl⟩
        have P := act_any Z O TA tc n f ml a5 on5 w5 HZ5.out.z (by omega)
        go_wp2_with fail
        refine P.mono ?_
        clear P
        rintro e w6 ⟨L6, e6, rfl, hr6, _, hb⟩
        have HZ6 := Lib.hid (HZ5.out.below hb)
        have R6 := Lib.hid hr6
        clear hb hr6 HZ5
        have P := ract_any Z' O' A2 c2 n f ml a5 on5 w6 HZ6.out.r (by omega)
        go_wp2_with fail
        refine P.mono ?_
        clear P
        rintro e w7 ⟨L7, e7, rfl, hr7, _, hb⟩
        have HZ7 := Lib.hid (HZ6.out.below hb)
        have P := eqlB L6 L7 e6 e7 (onL n on5) (onL n on5) w7 (R6.out.below hb) hr7
        have hds : decide (onL n on5 = onL n on5) = true := by simp
        rw [hds, onL_len] at P
        clear hb hr7 HZ6 R6 hds
        go_wp2_with fail
        refine P.mono ?_
        clear P
        rintro e w8 ⟨rfl, hb⟩
        have NXT : Hid (ZInv w Z O Z' O' TA A2 tc c2 n f ml nt gg (.int .i64 (i + 1 : Nat)) w8) := ⟨i + 1, a5, on5, by omega, rfl, HG5.out, HZ7.out.below hb⟩
        clear hb HZ7 HG5
        go_wp2
        go_roundg gg
        case measure => omega
        case rel => exact NXT.out
      · have hbad : T < -134217728 ∨ 134217728 < T := by omega
        have P := upd_bad Z T wr hbad
        go_wp2_with fail
        refine P.mono ?_
        clear P
        rintro e w4 ⟨rfl, rfl⟩
        have P := rupd_bad Z' T wr hbad
        go_wp2_with fail
        refine P.mono ?_
        clear P
        rintro e w5 ⟨rfl, rfl⟩
        have HZ5 := HZ
        have HG5 := HG
        clear HZ HG hT
        generalize a = a5 at *
        generalize on = on5 at *
        generalize wr = w5 at *
        have P := lvl_any Z O TA tc n f ml a5 on5 w5 HZ5.out.z
        go_wp2_with fail
        refine P.mono ?_
        clear P
        rintro e w6 ⟨rfl, rfl⟩
        have P := rlvl_any Z' O' A2 c2 n f ml a5 on5 w5 HZ5.out.r
        go_wp2_with fail
        refine P.mono ?_
        clear P
        rintro e w6 ⟨rfl, rfl⟩
        have P := act_any Z O TA tc n f ml a5 on5 w5 HZ5.out.z (by omega)
        go_wp2_with fail
        refine P.mono ?_
        clear P
        rintro e w6 ⟨L6, e6, rfl, hr6, _, hb⟩
        have HZ6 := Lib.hid (HZ5.out.below hb)
        have R6 := Lib.hid hr6
        clear hb hr6 HZ5
        have P := ract_any Z' O' A2 c2 n f ml a5 on5 w6 HZ6.out.r (by omega)
        go_wp2_with fail
        refine P.mono ?_
        clear P
        rintro e w7 ⟨L7, e7, rfl, hr7, _, hb⟩
        have HZ7 := Lib.hid (HZ6.out.below hb)
        have P := eqlB L6 L7 e6 e7 (onL n on5) (onL n on5) w7 (R6.out.below hb) hr7
        have hds : decide (onL n on5 = onL n on5) = true := by simp
        rw [hds, onL_len] at P
        clear hb hr7 HZ6 R6 hds
        go_wp2_with fail
        refine P.mono ?_
        clear P
        rintro e w8 ⟨rfl, hb⟩
        have NXT : Hid (ZInv w Z O Z' O' TA A2 tc c2 n f ml nt gg (.int .i64 (i + 1 : Nat)) w8) := ⟨i + 1, a5, on5, by omega, rfl, HG5.out, HZ7.out.below hb⟩
        clear hb HZ7 HG5
        go_wp2
        go_roundg gg
        case measure => omega
        case rel => exact NXT.out
    · have BB := Lib.hid hZ.b
      clear hG hZ
      go_wp2_with fail
      refine (awake_any wr).mono ?_
      rintro e w4 ⟨rfl, hb⟩
      have B4 := Lib.hid (bel2 BB.out hb)
      clear hb
      go_wp2
      go_ret
      exact ⟨rfl, B4.out⟩
end Go.Proofs.Ytopbfnnmgckikaa
