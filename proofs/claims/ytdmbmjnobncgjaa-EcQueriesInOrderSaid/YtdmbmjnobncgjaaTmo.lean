/- EcTimeout. -/
import Derived.Test.YtdmbmjnobncgjaaAwk
namespace Go.Proofs.Ytdmbmjnobncgjaa
open Go.RowKit

theorem run_busy (k : Nat) (t : TrS) (s : EcS) (now : Int) (h5 : t.st < 5) (hu : s.us = true) (hd : max s.ck now < s.du) : sRun (k + 1) t s now = (t, { s with ck := max s.ck now }) := by
  have ha : sAdv s now = { s with ck := max s.ck now } := by unfold sAdv; rw [if_pos (.inr hd)]
  have hb : sAct t s now = (false, t, { s with ck := max s.ck now }) := by
    unfold sAct
    rw [ha, if_pos hu]
  show (if t.st < 5 then (if (sAct t s now).1 = true then sRun k (sAct t s now).2.1 (sAct t s now).2.2 now else (sAct t s now).2) else (t, s)) = _
  rw [if_pos h5, hb]
  rfl
theorem run_end (k : Nat) (t : TrS) (s : EcS) (now : Int) (h5 : 5 ≤ t.st) : sRun k t s now = (t, s) := by
  cases k with
  | zero => rfl
  | succ k => show (if t.st < 5 then _ else _) = _; rw [if_neg (by omega)]
theorem run_more (k : Nat) (t t' : TrS) (s s' : EcS) (now : Int) (h5 : t.st < 5) (h : sAct t s now = (true, t', s')) : sRun (k + 1) t s now = sRun k t' s' now := by
  show (if t.st < 5 then (if (sAct t s now).1 = true then sRun k (sAct t s now).2.1 (sAct t s now).2.2 now else (sAct t s now).2) else (t, s)) = _
  rw [if_pos h5, h]
  rfl
theorem run_stop (k : Nat) (t t' : TrS) (s s' : EcS) (now : Int) (h5 : t.st < 5) (h : sAct t s now = (false, t', s')) : sRun (k + 1) t s now = (t', s') := by
  show (if t.st < 5 then (if (sAct t s now).1 = true then sRun k (sAct t s now).2.1 (sAct t s now).2.2 now else (sAct t s now).2) else (t, s)) = _
  rw [if_pos h5, h]
  rfl
def TSt (t : TrS) (s : EcS) (tm n : Int) : Prop :=
  (t.st = 0 ∧ t.cd ≠ 132 ∧ s.us = false ∧ s.un = false ∧ s.ck = 0 ∧ s.dl = 1000 ∧ t.dl = tm ∧ n = 0) ∨ (s.us = true ∧ s.du = 1000 ∧ s.ck < 1000 ∧ t.dl = tm ∧ (t.st = 1 ∨ (t.st = 6 ∧ tm ≤ n)))
theorem TSt.bd {t : TrS} {s : EcS} {tm n : Int} (h : TSt t s tm n) : 0 ≤ t.st ∧ t.st ≤ 6 := by
  rcases h with h | h
  · omega
  · omega
theorem TSt.later {t : TrS} {s : EcS} {tm n m : Int} (h : TSt t s tm n) (hu : s.us = true) (hm : n ≤ m) : TSt t s tm m := by
  rcases h with h | ⟨h1, h2, h3, h4, h5⟩
  · exact absurd h.2.2.1 (by simp [hu])
  · exact .inr ⟨h1, h2, h3, h4, h5.imp id (fun x => ⟨x.1, by omega⟩)⟩
def tval (tm n : Int) : Value := .tuple #[.int .u8 0, .bool (decide (tm ≤ n)), .int .i64 (if tm ≤ n then 14 else 0)]
theorem tst_busy {t : TrS} {s : EcS} {tm n : Int} {r : TrS × EcS} (hr : sRun 18 t s n = r) (hd : r.1.dl = tm) (hs : r.1.st = 1) (hu : r.2.us = true) (hdu : r.2.du = 1000) (hck : r.2.ck < 1000) :
    TSt (sStep t s n).1 (sStep t s n).2 tm n ∧ (sStep t s n).2.us = true ∧ stVal (sStep t s n).1 = tval tm n := by
  have e : sStep t s n = if r.1.st < 5 ∧ r.1.dl ≤ n then ({ r.1 with st := 6 }, r.2) else r := by unfold sStep; rw [hr]
  rw [e, hd]
  unfold tval
  by_cases h : tm ≤ n
  · rw [if_pos ⟨by omega, h⟩, if_pos h, decide_eq_true h]
    exact ⟨.inr ⟨hu, hdu, hck, hd, .inr ⟨rfl, h⟩⟩, hu, rfl⟩
  · rw [if_neg (fun x => h x.2), if_neg h, decide_eq_false h]
    exact ⟨.inr ⟨hu, hdu, hck, hd, .inl hs⟩, hu, by unfold stVal; rw [if_neg (show ¬ r.1.st = 5 by omega), if_neg (show ¬ r.1.st = 6 by omega)]⟩
theorem tst_step {t : TrS} {s : EcS} {tm n : Int} (h : TSt t s tm n) (h0 : 0 ≤ n) (h1 : n < 1000) :
    TSt (sStep t s n).1 (sStep t s n).2 tm n ∧ (sStep t s n).2.us = true ∧ stVal (sStep t s n).1 = tval tm n := by
  rcases h with ⟨a1, a2, a3, a4, a5, a6, a7, rfl⟩ | ⟨a1, a2, a3, a4, a5⟩
  · have hA : sAct t s 0 = (true, { t with st := 1 }, { s with us := true, cm := true, vl := t.cd, du := 1000 }) := by
      unfold sAct
      rw [sAdv_same s 0 a3 (by omega), if_neg (by simp [a3]), if_pos a1, if_neg (by simp [a4]), if_neg a2]
      unfold sWri
      rw [if_neg (by simp [a3]), a5, a6]
      rfl
    have hr := (run_more 17 t _ s _ 0 (by omega) hA).trans (run_busy 16 { t with st := 1 } { s with us := true, cm := true, vl := t.cd, du := 1000 } 0 (by show (1 : Int) < 5; omega) rfl (by show max s.ck 0 < 1000; omega))
    exact tst_busy hr a7 rfl rfl rfl (by show max s.ck 0 < 1000; omega)
  · rcases a5 with a5 | ⟨a5, a6⟩
    · have hr := run_busy 17 t s n (by omega) a1 (by omega)
      exact tst_busy hr a4 a5 a1 a2 (by show max s.ck n < 1000; omega)
    · have hr := run_end 18 t s n (by omega)
      have e : sStep t s n = (t, s) := by
        unfold sStep
        rw [hr, if_neg (fun x => by have := x.1; have : t.st < 5 := this; omega)]
      rw [e]
      unfold tval
      rw [if_pos a6, decide_eq_true a6]
      exact ⟨.inr ⟨a1, a2, a3, a4, .inr ⟨a5, a6⟩⟩, a1, by unfold stVal; rw [if_neg (show ¬ t.st = 5 by omega), if_pos a5]⟩
theorem EcQ.below {w w' : World} {L : Nat} {s : EcS} (h : EcQ w L s) (hb : Below w.heap.size w w') : EcQ w' L s := by
  obtain ⟨A, c, k⟩ := h
  exact ⟨A, c, ⟨k.row.of_block (hb.block L k.row.lt), k.q.chg (Chg.of_below hb (fun _ => False)) (fun _ _ _ x => x), k.dl, k.ck, k.du, k.reg, k.vl, k.ou, k.cd, k.aa, k.ql, k.qn⟩⟩
def TInv (w0 : World) (L T : Nat) (tm : Int) (k : Nat) (vn vi : Value) (wr : World) : Prop :=
  ∃ (i : Nat) (n : Int) (t : TrS) (s : EcS), vi = .int .i64 i ∧ vn = .int .u64 n ∧ i + k = 100 ∧ 0 ≤ n ∧ n ≤ 5 * i ∧ TSt t s tm n ∧ EcQ wr L s ∧ TrW wr T t ∧ s.xq T ∧ Below w0.heap.size w0 wr
set_option maxRecDepth 100000 in
set_option maxHeartbeats 4000000 in
theorem tmo_any (tm : Int) (A : Option Addr) (len cap : Nat) (Z : Nat → Int) (wb : Bool) (w : World) (htm : (Lit.int .u64 tm).wf = true) (hz : Ns .u8 w A len Z ∧ len ≤ cap ∧ cap ≤ 9223372036854775807) : Calls Try.prog 8 #[.int .u64 tm, .slice A len cap, .bool wb] w (LawPost w) := by
  have htm := u64_of_wf htm
  obtain ⟨ht0, ht1⟩ := htm
  have hm0 : 0 ≤ tm % 40 := Int.emod_nonneg _ (by omega)
  have hm1 : tm % 40 < 40 := Int.emod_lt_of_pos _ (by omega)
  have HZ := Lib.hid hz.1
  have hlen := hz.1.len
  obtain ⟨_, hcap1, hcap2⟩ := hz
  go_enter Try.func8, Try.ntmps8
  go_wp2_with fail
  generalize tm % 40 = q at *
  refine (new_good w 1000 (by omega) (by omega)).mono ?_
  rintro e w1 ⟨rfl, k1, b1'⟩
  have K1 := Lib.hid k1
  have B1 := Lib.hid b1'
  have hlt1 : w.heap.size < w1.heap.size := by obtain ⟨A, c, k⟩ := k1; exact k.row.lt
  clear k1 b1'
  generalize hL : w.heap.size = L at *
  have HL := Lib.hid hL
  clear hL
  go_wp2_with fail
  refine (awake_any w1).mono ?_
  rintro e w2 ⟨rfl, b2'⟩
  have K2 := Lib.hid (K1.out.below b2')
  have B2 := Lib.hid (bel2 (HL.out ▸ B1.out : Below w.heap.size w w1) b2')
  have hlt2 : L < w2.heap.size := Nat.lt_of_lt_of_le hlt1 b2'.size
  clear b2' K1 B1 hlt1
  go_wp2_with fail
  refine (read_new w2 1 0 q (u64_lit 0 (by omega)) (u64_lit q (by omega))).mono ?_
  rintro e w3 ⟨rfl, t3, b3'⟩
  have hl0 : lat 0 q = q := by unfold lat; rw [if_pos (by omega)]; omega
  have hlt3 : w2.heap.size < w3.heap.size := blk_lt t3
  rw [hl0] at t3
  have TT3 : Hid (TrW w3 w2.heap.size ⟨128, 1, 0, q, 0, 0⟩) := trw_of t3 (u8_lit _ (by omega)) (u8_lit _ (by omega)) (u8_lit _ (by omega)) (u64_lit _ (by omega)) (u8_lit _ (by omega))
  have K3 : Hid (EcQ w3 L { e0 with dl := 1000 }) := K2.out.below b3'
  have B3 : Hid (Below w.heap.size w w3) := bel2 B2.out b3'
  have HLB : Hid (w.heap.size ≤ L) := by show _ ≤ _; rw [HL.out]; exact Nat.le_refl _
  cases wb with
  | false =>
    have K3 := Lib.hid (ecq_add K2.out b3' (Nat.le_refl _) hlt3)
    generalize hT : w2.heap.size = T at *
    have hX : Hid ((addX { e0 with dl := 1000 } T).xq T) := .inr rfl
    have hne : T ≠ L := by omega
    have START : Hid (TInv w L T q 100 (.int .u64 0) (.int .i64 0) w3) := ⟨0, 0, _, _, rfl, rfl, rfl, by omega, by omega, .inl ⟨rfl, by show (128 : Int) ≠ 132; omega, rfl, rfl, rfl, rfl, rfl, rfl⟩, K3.out, TT3.out, hX.out, B3.out⟩
    have HTB : Hid (w.heap.size ≤ T ∧ w.heap.size ≤ L) := ⟨by have := HLB.out; omega, HLB.out⟩
    clear t3 b3' K2 B2 hT hl0 K3 TT3 B3 hX HL HLB
    go_wp2_with fail
    go_loopg [10, 11] 100 (fun k vn vi wr => TInv w L T q k vn vi wr)
    case atStart => exact START.out
    case round =>
      clear START
      obtain ⟨i, n, t, s, rfl, rfl, hik, hn0, hn5, hS, hE, hW, hX, hB⟩ := hrel
      by_cases hi : i < 100
      · obtain ⟨g, rfl⟩ : ∃ g, gk = g + 1 := ⟨gk - 1, by omega⟩
        have P := step_any wr L T s t n hE (by unfold U64; omega) hW hne hX hS.bd.1 hS.bd.2
        obtain ⟨hS1, hu, hv⟩ := tst_step hS hn0 (by omega)
        have hx2 := sStep_T t s n
        generalize sStep t s n = R at *
        have N : Hid (∀ w2 m, EcQ w2 L R.2 → TrW w2 T R.1 → Chg (TL T L) wr w2 → n ≤ m → m ≤ 5 * (i + 1 : Nat) → TInv w L T q g (.int .u64 m) (.int .i64 (i + 1 : Nat)) w2) := fun w2 m a b c h1 h2 =>
          ⟨i + 1, m, R.1, R.2, rfl, rfl, by omega, by omega, h2, hS1.later hu h1, a, b, by rw [hx2]; exact hX, tl_below hB c HTB.out.1 HTB.out.2⟩
        have C : Hid (∀ w2, Chg (TL T L) wr w2 → Below w.heap.size w w2) := fun w2 c => tl_below hB c HTB.out.1 HTB.out.2
        have HV := Lib.hid hv
        clear hS hE hW hX hB hS1 hu hv hx2
        go_wp2_with fail
        refine P.mono ?_
        rintro e w2 ⟨rfl, k1, k2, k3⟩
        have D := Lib.hid (fun m => N.out w2 m k1 k2 k3)
        have C2 := Lib.hid (C.out w2 k3)
        clear P N C k1 k2 k3
        rw [HV.out]
        unfold tval
        by_cases hq : q ≤ n
        · rw [decide_eq_true hq, if_pos hq]
          by_cases hil : i < len
          · obtain ⟨b, off, hA, hc⟩ := HZ.out.at C2.out (Nat.le_refl _) hil
            have hA := hA
            subst hA
            obtain ⟨z0, z1⟩ := bounds_u8 (HZ.out.wf i hil)
            generalize Z i = z at *
            have hz5 : 0 ≤ z % 5 ∧ z % 5 < 5 := ⟨Int.emod_nonneg _ (by omega), Int.emod_lt_of_pos _ (by omega)⟩
            obtain ⟨hz50, hz51⟩ := hz5
            go_wp2
            go_roundg g
            case measure => omega
            case rel => exact D.out _ (by omega) (by omega)
          · go_wp2
            go_roundg g
            case measure => omega
            case rel => exact D.out _ (by omega) (by omega)
        · rw [decide_eq_false hq, if_neg hq]
          by_cases hil : i < len
          · obtain ⟨b, off, hA, hc⟩ := HZ.out.at C2.out (Nat.le_refl _) hil
            have hA := hA
            subst hA
            obtain ⟨z0, z1⟩ := bounds_u8 (HZ.out.wf i hil)
            generalize Z i = z at *
            have hz5 : 0 ≤ z % 5 ∧ z % 5 < 5 := ⟨Int.emod_nonneg _ (by omega), Int.emod_lt_of_pos _ (by omega)⟩
            obtain ⟨hz50, hz51⟩ := hz5
            go_wp2
            go_roundg g
            case measure => omega
            case rel => exact D.out _ (by omega) (by omega)
          · go_wp2
            go_roundg g
            case measure => omega
            case rel => exact D.out _ (by omega) (by omega)
      · have hie : i = 100 := by omega
        subst hie
        have HB := Lib.hid hB
        clear hS hE hW hX hB
        go_wp2
        go_ret
        exact ⟨rfl, HB.out⟩
  | true =>
    have hlt3' : L < w3.heap.size := by omega
    generalize hT0 : w2.heap.size = T0 at *
    clear t3 b3' K2 B2 hT0 TT3
    go_wp2_with fail
    refine (write_new w3 1 2 0 q (u64_lit 0 (by omega)) (u64_lit q (by omega))).mono ?_
    rintro e w4 ⟨rfl, t4, b4'⟩
    have hlt4 : w3.heap.size < w4.heap.size := blk_lt t4
    rw [hl0] at t4
    have TT4 : Hid (TrW w4 w3.heap.size ⟨129, 1, 2, q, 0, 0⟩) := trw_of t4 (u8_lit _ (by omega)) (u8_lit _ (by omega)) (u8_lit _ (by omega)) (u64_lit _ (by omega)) (u8_lit _ (by omega))
    have K4 := Lib.hid (ecq_add K3.out b4' (Nat.le_refl _) hlt4)
    have B4 : Hid (Below w.heap.size w w4) := bel2 B3.out b4'
    generalize hT : w3.heap.size = T at *
    have hX : Hid ((addX { e0 with dl := 1000 } T).xq T) := .inr rfl
    have hne : T ≠ L := by omega
    have START : Hid (TInv w L T q 100 (.int .u64 0) (.int .i64 0) w4) := ⟨0, 0, _, _, rfl, rfl, rfl, by omega, by omega, .inl ⟨rfl, by show (129 : Int) ≠ 132; omega, rfl, rfl, rfl, rfl, rfl, rfl⟩, K4.out, TT4.out, hX.out, B4.out⟩
    have HTB : Hid (w.heap.size ≤ T ∧ w.heap.size ≤ L) := ⟨by have := HLB.out; omega, HLB.out⟩
    clear t4 b4' hT hl0 K4 TT4 B4 hX HL HLB K3 B3 hlt3 hlt3'
    go_wp2_with fail
    go_loopg [10, 11] 100 (fun k vn vi wr => TInv w L T q k vn vi wr)
    case atStart => exact START.out
    case round =>
      clear START
      obtain ⟨i, n, t, s, rfl, rfl, hik, hn0, hn5, hS, hE, hW, hX, hB⟩ := hrel
      by_cases hi : i < 100
      · obtain ⟨g, rfl⟩ : ∃ g, gk = g + 1 := ⟨gk - 1, by omega⟩
        have P := step_any wr L T s t n hE (by unfold U64; omega) hW hne hX hS.bd.1 hS.bd.2
        obtain ⟨hS1, hu, hv⟩ := tst_step hS hn0 (by omega)
        have hx2 := sStep_T t s n
        generalize sStep t s n = R at *
        have N : Hid (∀ w2 m, EcQ w2 L R.2 → TrW w2 T R.1 → Chg (TL T L) wr w2 → n ≤ m → m ≤ 5 * (i + 1 : Nat) → TInv w L T q g (.int .u64 m) (.int .i64 (i + 1 : Nat)) w2) := fun w2 m a b c h1 h2 =>
          ⟨i + 1, m, R.1, R.2, rfl, rfl, by omega, by omega, h2, hS1.later hu h1, a, b, by rw [hx2]; exact hX, tl_below hB c HTB.out.1 HTB.out.2⟩
        have C : Hid (∀ w2, Chg (TL T L) wr w2 → Below w.heap.size w w2) := fun w2 c => tl_below hB c HTB.out.1 HTB.out.2
        have HV := Lib.hid hv
        clear hS hE hW hX hB hS1 hu hv hx2
        go_wp2_with fail
        refine P.mono ?_
        rintro e w2 ⟨rfl, k1, k2, k3⟩
        have D := Lib.hid (fun m => N.out w2 m k1 k2 k3)
        have C2 := Lib.hid (C.out w2 k3)
        clear P N C k1 k2 k3
        rw [HV.out]
        unfold tval
        by_cases hq : q ≤ n
        · rw [decide_eq_true hq, if_pos hq]
          by_cases hil : i < len
          · obtain ⟨b, off, hA, hc⟩ := HZ.out.at C2.out (Nat.le_refl _) hil
            have hA := hA
            subst hA
            obtain ⟨z0, z1⟩ := bounds_u8 (HZ.out.wf i hil)
            generalize Z i = z at *
            have hz5 : 0 ≤ z % 5 ∧ z % 5 < 5 := ⟨Int.emod_nonneg _ (by omega), Int.emod_lt_of_pos _ (by omega)⟩
            obtain ⟨hz50, hz51⟩ := hz5
            go_wp2
            go_roundg g
            case measure => omega
            case rel => exact D.out _ (by omega) (by omega)
          · go_wp2
            go_roundg g
            case measure => omega
            case rel => exact D.out _ (by omega) (by omega)
        · rw [decide_eq_false hq, if_neg hq]
          by_cases hil : i < len
          · obtain ⟨b, off, hA, hc⟩ := HZ.out.at C2.out (Nat.le_refl _) hil
            have hA := hA
            subst hA
            obtain ⟨z0, z1⟩ := bounds_u8 (HZ.out.wf i hil)
            generalize Z i = z at *
            have hz5 : 0 ≤ z % 5 ∧ z % 5 < 5 := ⟨Int.emod_nonneg _ (by omega), Int.emod_lt_of_pos _ (by omega)⟩
            obtain ⟨hz50, hz51⟩ := hz5
            go_wp2
            go_roundg g
            case measure => omega
            case rel => exact D.out _ (by omega) (by omega)
          · go_wp2
            go_roundg g
            case measure => omega
            case rel => exact D.out _ (by omega) (by omega)
      · have hie : i = 100 := by omega
        subst hie
        have HB := Lib.hid hB
        clear hS hE hW hX hB
        go_wp2
        go_ret
        exact ⟨rfl, HB.out⟩
end Go.Proofs.Ytdmbmjnobncgjaa
