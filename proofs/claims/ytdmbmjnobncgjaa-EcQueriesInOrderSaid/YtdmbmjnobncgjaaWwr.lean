/- write. -/
import Derived.Test.YtdmbmjnobncgjaaWst
namespace Go.Proofs.Ytdmbmjnobncgjaa
open Go.RowKit

theorem later_q (w : World) (t d : Int) (ht : U64 t) (hd : U64 d) : Calls Try.prog 41 #[.int .u64 t, .int .u64 d] w (fun e w' => e = .returned (.int .u64 (lat t d)) ∧ w' = w) := by
  obtain ⟨t0, t1⟩ := ht
  obtain ⟨d0, d1⟩ := hd
  by_cases h : t + d < 18446744073709551616
  · have E : Hid (lat t d = t + d) := by show _ = _; unfold lat; rw [if_pos h]
    have hw : IntKind.u64.wrap (t + d) = t + d := by rw [IntKind.wrap_u64]; omega
    have hl : decide (t + d < t) = false := decide_eq_false (by omega)
    go_enter Try.func41, Try.ntmps41
    go_wp2
    go_ret
    exact ⟨by rw [E.out]; rfl, rfl⟩
  · have E : Hid (lat t d = 18446744073709551615) := by show _ = _; unfold lat; rw [if_neg h]
    have hw : IntKind.u64.wrap (t + d) = t + d - 18446744073709551616 := by rw [IntKind.wrap_u64]; omega
    have hl : decide (t + d - 18446744073709551616 < t) = true := decide_eq_true (by omega)
    go_enter Try.func41, Try.ntmps41
    go_wp2
    go_ret
    exact ⟨by rw [E.out]; rfl, rfl⟩
/-- write on the state. -/
def sWri (s : EcS) (cm : Bool) (v : Int) : EcS := if s.us = true then s else { s with us := true, cm := cm, vl := v, du := lat s.ck s.dl }
set_option maxRecDepth 100000 in
set_option maxHeartbeats 4000000 in
theorem write_any (w : World) (L : Nat) (s : EcS) (now v : Int) (cm : Bool) (h : EcQ w L s) (hn : U64 now) (hv : U8 v) : Calls Try.prog 37 #[.pointer (some ⟨L, 0, none⟩), .int .u64 now, .bool cm, .int .u8 v] w (EP w L (sWri (sAdv s now) cm v) (.tuple #[])) := by
  have P := adv_any w L s now h hn
  clear h
  generalize sAdv s now = t at *
  unfold sWri
  by_cases hu : t.us = true
  · rw [if_pos hu]
    have HU := Lib.hid hu
    clear hu
    go_enter Try.func37, Try.ntmps37
    go_wp2_with fail
    refine P.mono ?_
    rintro e w1 ⟨rfl, ⟨A, c, k⟩, g⟩
    clear P
    have c1 : w1.cell? ⟨L, 258, none⟩ = some (.bool true) := by rw [er_us k.row]; show some (Value.bool t.us) = _; rw [HU.out]
    have hL := k.row.lt
    have K := Lib.hid k
    have G := Lib.hid g
    clear k g
    go_wp2
    go_end0
    exact ⟨rfl, ⟨A, c, K.out⟩, G.out⟩
  · rw [if_neg hu]
    have HU : Hid (t.us = false) := by show _ = _; simpa using hu
    clear hu
    go_enter Try.func37, Try.ntmps37
    go_wp2_with fail
    refine P.mono ?_
    rintro e w1 ⟨rfl, ⟨A, c, k⟩, g⟩
    clear P
    have c1 : w1.cell? ⟨L, 258, none⟩ = some (.bool false) := by rw [er_us k.row]; show some (Value.bool t.us) = _; rw [HU.out]
    have c2 := er_ck k.row
    have c3 := er_dl k.row
    have c4 := er_cm k.row
    have c5 := er_vl k.row
    have c6 := er_du k.row
    have z1 := k.row.frozen 258
    have z2 := k.row.frozen 259
    have z3 := k.row.frozen 260
    have z4 := k.row.frozen 261
    have hL := k.row.lt
    have M := Lib.hid (fun w' : World => later_q w' t.ck t.dl k.ck k.dl)
    have K := Lib.hid k
    have G := Lib.hid g
    clear k g
    go_upto_region 2 with fail
    go_still_tail 15, (by kernel_rfl)
    still_call (M.out _)
    repeat still_step
    refine wpStill_nil ?_
    go_wp2
    go_end0
    have k := K.out
    have g1 := g_store w1 L 258 (.bool true)
    have g2 := g_then g1 (g_store _ L 259 (.bool cm))
    have g3 := g_then g2 (g_store _ L 260 (.int .u8 v))
    have g4 := g_then g3 (g_store _ L 261 (.int .u64 (lat t.ck t.dl)))
    exact ⟨rfl, ⟨A, c, Ec.drew ⟨ew_du (ew_vl (ew_cm (ew_us k.row true) cm) v) (lat t.ck t.dl), k.q.own g4, k.dl, k.ck, lat_u k.ck k.dl, k.reg, hv, k.ou, k.cd, k.aa, k.ql, k.qn⟩⟩, g_drew (g_then G.out g4)⟩
theorem wdata_any (w : World) (L : Nat) (s : EcS) (now v : Int) (h : EcQ w L s) (hn : U64 now) (hv : U8 v) : Calls Try.prog 13 #[.pointer (some ⟨L, 0, none⟩), .int .u64 now, .int .u8 v] w (EP w L (sWri (sAdv s now) false v) (.tuple #[])) := by
  have P := write_any w L s now v false h hn hv
  clear h
  generalize sWri (sAdv s now) false v = t at *
  go_enter Try.func13, Try.ntmps13
  go_wp2_with fail
  refine P.mono ?_
  rintro e w1 ⟨rfl, k, g⟩
  have K := Lib.hid k
  have G := Lib.hid g
  clear P k g
  go_wp2
  go_end0
  exact ⟨rfl, K.out, G.out⟩
theorem wcmd_any (w : World) (L : Nat) (s : EcS) (now v : Int) (h : EcQ w L s) (hn : U64 now) (hv : U8 v) : Calls Try.prog 16 #[.pointer (some ⟨L, 0, none⟩), .int .u64 now, .int .u8 v] w (EP w L (sWri (sAdv s now) true v) (.tuple #[])) := by
  have P := write_any w L s now v true h hn hv
  clear h
  generalize sWri (sAdv s now) true v = t at *
  go_enter Try.func16, Try.ntmps16
  go_wp2_with fail
  refine P.mono ?_
  rintro e w1 ⟨rfl, k, g⟩
  have K := Lib.hid k
  have G := Lib.hid g
  clear P k g
  go_wp2
  go_end0
  exact ⟨rfl, K.out, G.out⟩
end Go.Proofs.Ytdmbmjnobncgjaa
