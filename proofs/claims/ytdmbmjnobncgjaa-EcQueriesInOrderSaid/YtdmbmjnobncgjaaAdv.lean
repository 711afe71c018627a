/- advance. -/
import Derived.Test.YtdmbmjnobncgjaaCtq
namespace Go.Proofs.Ytdmbmjnobncgjaa
open Go.RowKit

/-- advance on the state. -/
def sAdv (s : EcS) (now : Int) : EcS :=
  if s.us = false ∨ max s.ck now < s.du then { s with ck := max s.ck now }
  else if s.cm = true then sStart { s with ck := max s.ck now, us := false } s.vl else sTake { s with ck := max s.ck now, us := false } s.vl
theorem ec_ck {w : World} {L : Nat} {s : EcS} (h : Ec w L s) (x : Int) (hx : U64 x) : Ec (w.setCell ⟨L, 1, none⟩ (.int .u64 x)) L { s with ck := x } := by
  have g := g_store w L 1 (.int .u64 x)
  exact ⟨ew_ck h.row x, h.q.own g, h.dl, hx, h.du, h.reg, h.vl, h.ou, h.cd, h.aa, h.ql, h.qn⟩
theorem ec_us {w : World} {L : Nat} {s : EcS} (h : Ec w L s) (x : Bool) : Ec (w.setCell ⟨L, 258, none⟩ (.bool x)) L { s with us := x } := by
  have g := g_store w L 258 (.bool x)
  exact ⟨ew_us h.row x, h.q.own g, h.dl, h.ck, h.du, h.reg, h.vl, h.ou, h.cd, h.aa, h.ql, h.qn⟩
set_option maxRecDepth 100000 in
set_option maxHeartbeats 4000000 in
theorem adv_a (w : World) (L : Nat) (s : EcS) (now : Int) (h : Ec w L s) (hn : U64 now) (hu : s.us = false) : Calls Try.prog 39 #[.pointer (some ⟨L, 0, none⟩), .int .u64 now] w (EP w L ({ s with ck := max s.ck now }) (.tuple #[])) := by
  have c1 := er_ck h.row
  have z1 := h.row.frozen 1
  have hL := h.row.lt
  have H := Lib.hid h
  have HU := Lib.hid hu
  clear hu
  by_cases hm : s.ck < now
  · have hM : max s.ck now = now := by omega
    rw [hM]
    have K := Lib.hid (ec_ck h now hn)
    have G := Lib.hid (g_store w L 1 (.int .u64 now))
    clear h
    go_enter Try.func39, Try.ntmps39
    go_upto_region 1 with fail
    generalize w.setCell ⟨L, 1, none⟩ (.int .u64 now) = w1 at *
    clear c1 z1 hL
    have k := K.out
    have c1 := er_ck k.row
    have c3 := er_du k.row
    have c2 : w1.cell? ⟨L, 258, none⟩ = some (.bool false) := by rw [er_us k.row]; show some (Value.bool s.us) = _; rw [HU.out]
    have hL := k.row.lt
    clear k
    go_quiet (fail)
    go_wp2
    go_end0
    exact ⟨rfl, .of (K.out.drewN _), g_drewN G.out _⟩
  · have hM : max s.ck now = s.ck := by omega
    rw [hM]
    have K := Lib.hid (ec_ck h s.ck h.ck)
    have G := Lib.hid (g_store w L 1 (.int .u64 s.ck))
    clear h
    go_enter Try.func39, Try.ntmps39
    go_upto_region 1 with fail
    generalize w.setCell ⟨L, 1, none⟩ (.int .u64 s.ck) = w1 at *
    clear c1 z1 hL
    have k := K.out
    have c1 := er_ck k.row
    have c3 := er_du k.row
    have c2 : w1.cell? ⟨L, 258, none⟩ = some (.bool false) := by rw [er_us k.row]; show some (Value.bool s.us) = _; rw [HU.out]
    have hL := k.row.lt
    clear k
    go_quiet (fail)
    go_wp2
    go_end0
    exact ⟨rfl, .of (K.out.drewN _), g_drewN G.out _⟩
set_option maxRecDepth 100000 in
set_option maxHeartbeats 4000000 in
theorem adv_b (w : World) (L : Nat) (s : EcS) (now : Int) (h : Ec w L s) (hn : U64 now) (hu : s.us = true) (hd : max s.ck now < s.du) : Calls Try.prog 39 #[.pointer (some ⟨L, 0, none⟩), .int .u64 now] w (EP w L ({ s with ck := max s.ck now }) (.tuple #[])) := by
  have c1 := er_ck h.row
  have z1 := h.row.frozen 1
  have hL := h.row.lt
  have H := Lib.hid h
  have HU := Lib.hid hu
  clear hu
  by_cases hm : s.ck < now
  · have hM : max s.ck now = now := by omega
    rw [hM] at hd ⊢
    have K := Lib.hid (ec_ck h now hn)
    have G := Lib.hid (g_store w L 1 (.int .u64 now))
    clear h
    go_enter Try.func39, Try.ntmps39
    go_upto_region 1 with fail
    generalize w.setCell ⟨L, 1, none⟩ (.int .u64 now) = w1 at *
    clear c1 z1 hL
    have k := K.out
    have c1 := er_ck k.row
    have c3 := er_du k.row
    have c2 : w1.cell? ⟨L, 258, none⟩ = some (.bool true) := by rw [er_us k.row]; show some (Value.bool s.us) = _; rw [HU.out]
    have hL := k.row.lt
    clear k
    go_quiet (fail)
    go_wp2
    go_end0
    exact ⟨rfl, .of (K.out.drewN _), g_drewN G.out _⟩
  · have hM : max s.ck now = s.ck := by omega
    rw [hM] at hd ⊢
    have K := Lib.hid (ec_ck h s.ck h.ck)
    have G := Lib.hid (g_store w L 1 (.int .u64 s.ck))
    clear h
    go_enter Try.func39, Try.ntmps39
    go_upto_region 1 with fail
    generalize w.setCell ⟨L, 1, none⟩ (.int .u64 s.ck) = w1 at *
    clear c1 z1 hL
    have k := K.out
    have c1 := er_ck k.row
    have c3 := er_du k.row
    have c2 : w1.cell? ⟨L, 258, none⟩ = some (.bool true) := by rw [er_us k.row]; show some (Value.bool s.us) = _; rw [HU.out]
    have hL := k.row.lt
    clear k
    go_quiet (fail)
    go_wp2
    go_end0
    exact ⟨rfl, .of (K.out.drewN _), g_drewN G.out _⟩
set_option maxRecDepth 100000 in
set_option maxHeartbeats 4000000 in
theorem adv_c (w : World) (L : Nat) (s : EcS) (now : Int) (h : Ec w L s) (hn : U64 now) (hu : s.us = true) (hd : ¬ max s.ck now < s.du) (hcm : s.cm = true) : Calls Try.prog 39 #[.pointer (some ⟨L, 0, none⟩), .int .u64 now] w (EP w L (sStart { s with ck := max s.ck now, us := false } s.vl) (.tuple #[])) := by
  have c1 := er_ck h.row
  have z1 := h.row.frozen 1
  have hL := h.row.lt
  have H := Lib.hid h
  have HU := Lib.hid hu
  clear hu
  have HC := Lib.hid hcm
  clear hcm
  by_cases hm : s.ck < now
  · have hM : max s.ck now = now := by omega
    rw [hM] at hd ⊢
    have K := Lib.hid (ec_ck h now hn)
    have G := Lib.hid (g_store w L 1 (.int .u64 now))
    clear h
    go_enter Try.func39, Try.ntmps39
    go_upto_region 1 with fail
    generalize w.setCell ⟨L, 1, none⟩ (.int .u64 now) = w1 at *
    clear c1 z1 hL
    have k := K.out
    have c1 := er_ck k.row
    have c3 := er_du k.row
    have c2 : w1.cell? ⟨L, 258, none⟩ = some (.bool true) := by rw [er_us k.row]; show some (Value.bool s.us) = _; rw [HU.out]
    have c4 : w1.cell? ⟨L, 259, none⟩ = some (.bool true) := by rw [er_cm k.row]; show some (Value.bool s.cm) = _; rw [HC.out]
    have c5 := er_vl k.row
    have z2 := k.row.frozen 258
    have hL := k.row.lt
    clear k
    go_quiet (fail)
    have P := fun nq => start_any ((w1.drewN nq).setCell ⟨L, 258, none⟩ (.bool false)) L { s with ck := now, us := false } s.vl (.of (ec_us (K.out.drewN nq) false))
    go_wp2_with fail
    refine (P _).mono ?_
    rintro e w2 ⟨rfl, k1, k2⟩
    have k1 := Lib.hid k1
    clear P c1 c2 c3 c4 c5 z2
    go_wp2
    go_end0
    exact ⟨rfl, k1.out, g_then (g_then (g_drewN G.out _) (g_store _ L 258 _)) k2⟩
  · have hM : max s.ck now = s.ck := by omega
    rw [hM] at hd ⊢
    have K := Lib.hid (ec_ck h s.ck h.ck)
    have G := Lib.hid (g_store w L 1 (.int .u64 s.ck))
    clear h
    go_enter Try.func39, Try.ntmps39
    go_upto_region 1 with fail
    generalize w.setCell ⟨L, 1, none⟩ (.int .u64 s.ck) = w1 at *
    clear c1 z1 hL
    have k := K.out
    have c1 := er_ck k.row
    have c3 := er_du k.row
    have c2 : w1.cell? ⟨L, 258, none⟩ = some (.bool true) := by rw [er_us k.row]; show some (Value.bool s.us) = _; rw [HU.out]
    have c4 : w1.cell? ⟨L, 259, none⟩ = some (.bool true) := by rw [er_cm k.row]; show some (Value.bool s.cm) = _; rw [HC.out]
    have c5 := er_vl k.row
    have z2 := k.row.frozen 258
    have hL := k.row.lt
    clear k
    go_quiet (fail)
    have P := fun nq => start_any ((w1.drewN nq).setCell ⟨L, 258, none⟩ (.bool false)) L { s with ck := s.ck, us := false } s.vl (.of (ec_us (K.out.drewN nq) false))
    go_wp2_with fail
    refine (P _).mono ?_
    rintro e w2 ⟨rfl, k1, k2⟩
    have k1 := Lib.hid k1
    clear P c1 c2 c3 c4 c5 z2
    go_wp2
    go_end0
    exact ⟨rfl, k1.out, g_then (g_then (g_drewN G.out _) (g_store _ L 258 _)) k2⟩
set_option maxRecDepth 100000 in
set_option maxHeartbeats 4000000 in
theorem adv_d (w : World) (L : Nat) (s : EcS) (now : Int) (h : Ec w L s) (hn : U64 now) (hu : s.us = true) (hd : ¬ max s.ck now < s.du) (hcm : s.cm = false) : Calls Try.prog 39 #[.pointer (some ⟨L, 0, none⟩), .int .u64 now] w (EP w L (sTake { s with ck := max s.ck now, us := false } s.vl) (.tuple #[])) := by
  have c1 := er_ck h.row
  have z1 := h.row.frozen 1
  have hL := h.row.lt
  have H := Lib.hid h
  have HU := Lib.hid hu
  clear hu
  have HC := Lib.hid hcm
  clear hcm
  by_cases hm : s.ck < now
  · have hM : max s.ck now = now := by omega
    rw [hM] at hd ⊢
    have K := Lib.hid (ec_ck h now hn)
    have G := Lib.hid (g_store w L 1 (.int .u64 now))
    clear h
    go_enter Try.func39, Try.ntmps39
    go_upto_region 1 with fail
    generalize w.setCell ⟨L, 1, none⟩ (.int .u64 now) = w1 at *
    clear c1 z1 hL
    have k := K.out
    have c1 := er_ck k.row
    have c3 := er_du k.row
    have c2 : w1.cell? ⟨L, 258, none⟩ = some (.bool true) := by rw [er_us k.row]; show some (Value.bool s.us) = _; rw [HU.out]
    have c4 : w1.cell? ⟨L, 259, none⟩ = some (.bool false) := by rw [er_cm k.row]; show some (Value.bool s.cm) = _; rw [HC.out]
    have c5 := er_vl k.row
    have z2 := k.row.frozen 258
    have hL := k.row.lt
    clear k
    go_quiet (fail)
    have P := fun nq => take_any ((w1.drewN nq).setCell ⟨L, 258, none⟩ (.bool false)) L { s with ck := now, us := false } s.vl (.of (ec_us (K.out.drewN nq) false)) K.out.vl
    go_wp2_with fail
    refine (P _).mono ?_
    rintro e w2 ⟨rfl, k1, k2⟩
    have k1 := Lib.hid k1
    clear P c1 c2 c3 c4 c5 z2
    go_wp2
    go_end0
    exact ⟨rfl, k1.out, g_then (g_then (g_drewN G.out _) (g_store _ L 258 _)) k2⟩
  · have hM : max s.ck now = s.ck := by omega
    rw [hM] at hd ⊢
    have K := Lib.hid (ec_ck h s.ck h.ck)
    have G := Lib.hid (g_store w L 1 (.int .u64 s.ck))
    clear h
    go_enter Try.func39, Try.ntmps39
    go_upto_region 1 with fail
    generalize w.setCell ⟨L, 1, none⟩ (.int .u64 s.ck) = w1 at *
    clear c1 z1 hL
    have k := K.out
    have c1 := er_ck k.row
    have c3 := er_du k.row
    have c2 : w1.cell? ⟨L, 258, none⟩ = some (.bool true) := by rw [er_us k.row]; show some (Value.bool s.us) = _; rw [HU.out]
    have c4 : w1.cell? ⟨L, 259, none⟩ = some (.bool false) := by rw [er_cm k.row]; show some (Value.bool s.cm) = _; rw [HC.out]
    have c5 := er_vl k.row
    have z2 := k.row.frozen 258
    have hL := k.row.lt
    clear k
    go_quiet (fail)
    have P := fun nq => take_any ((w1.drewN nq).setCell ⟨L, 258, none⟩ (.bool false)) L { s with ck := s.ck, us := false } s.vl (.of (ec_us (K.out.drewN nq) false)) K.out.vl
    go_wp2_with fail
    refine (P _).mono ?_
    rintro e w2 ⟨rfl, k1, k2⟩
    have k1 := Lib.hid k1
    clear P c1 c2 c3 c4 c5 z2
    go_wp2
    go_end0
    exact ⟨rfl, k1.out, g_then (g_then (g_drewN G.out _) (g_store _ L 258 _)) k2⟩
theorem EcQ.cg {w : World} {L : Nat} {s : EcS} {A : Option Addr} {c : Nat} (h : Ec w L { s with qa := A, qc := c }) : EcQ w L s := ⟨A, c, h⟩
end Go.Proofs.Ytdmbmjnobncgjaa
