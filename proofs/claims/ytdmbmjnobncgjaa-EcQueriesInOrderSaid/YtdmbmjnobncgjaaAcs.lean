/- act: the ways that write a byte or read one. -/
import Derived.Test.YtdmbmjnobncgjaaAct
namespace Go.Proofs.Ytdmbmjnobncgjaa
open Go.RowKit

theorem bt_0_2_n : (bits BinOp.and IntKind.u8 0 2 != 0) = false := by decide
theorem bt_0_1_n : (bits BinOp.and IntKind.u8 0 1 != 0) = false := by decide
theorem bt_0_1_e : (bits BinOp.and IntKind.u8 0 1 == 0) = true := by decide
theorem bt_32_2_n : (bits BinOp.and IntKind.u8 32 2 != 0) = false := by decide
theorem bt_32_1_n : (bits BinOp.and IntKind.u8 32 1 != 0) = false := by decide
theorem bt_32_1_e : (bits BinOp.and IntKind.u8 32 1 == 0) = true := by decide
theorem bt_1_2_n : (bits BinOp.and IntKind.u8 1 2 != 0) = false := by decide
theorem bt_1_1_n : (bits BinOp.and IntKind.u8 1 1 != 0) = true := by decide
theorem bt_1_1_e : (bits BinOp.and IntKind.u8 1 1 == 0) = false := by decide
theorem bt_33_2_n : (bits BinOp.and IntKind.u8 33 2 != 0) = false := by decide
theorem bt_33_1_n : (bits BinOp.and IntKind.u8 33 1 != 0) = true := by decide
theorem bt_33_1_e : (bits BinOp.and IntKind.u8 33 1 == 0) = false := by decide
set_option maxRecDepth 100000 in
set_option maxHeartbeats 4000000 in
theorem act_0u (w : World) (L T : Nat) (s : EcS) (t : TrS) (now : Int) (h : EcQ w L s) (hn : U64 now) (ht : TrW w T t) (hne : T ≠ L) (hx : s.xq T) (hu : (sAdv s now).us = false) (hs : t.st = 0) (hun : (sAdv s now).un = true) :
    Calls Try.prog 42 #[.pointer (some ⟨T, 0, none⟩), .pointer (some ⟨L, 0, none⟩), .int .u64 now] w (AP w L T { sAdv s now with un := false } t (.bool true)) := by
  have P := stat_any w L s now h hn
  have hv := stat_lit1 _ hu hun
  have hx : (sAdv s now).xq T := by rw [(sAdv_xq s now).1]; exact hx
  have I := Lib.hid (sAdv_idem s now hu)
  have HN := Lib.hid hun
  clear h hu hun
  generalize sAdv s now = a at *
  generalize sStat a = v at *
  have HS := Lib.hid hs
  clear hs
  rcases hv with rfl | rfl
  all_goals
    have bt_0_2_n' := bt_0_2_n
    have bt_0_1_n' := bt_0_1_n
    have bt_0_1_e' := bt_0_1_e
    have bt_32_2_n' := bt_32_2_n
    have bt_32_1_n' := bt_32_1_n
    have bt_32_1_e' := bt_32_1_e
    have bt_1_2_n' := bt_1_2_n
    have bt_1_1_n' := bt_1_1_n
    have bt_1_1_e' := bt_1_1_e
    have bt_33_2_n' := bt_33_2_n
    have bt_33_1_n' := bt_33_1_n
    have bt_33_1_e' := bt_33_1_e
    go_enter Try.func42, Try.ntmps42
    go_wp2_with fail
    refine P.mono ?_
    rintro e w1 ⟨rfl, k, g⟩
    have ht1 := ht.grown g hne
    have c4 : w1.cell? ⟨T, 4, none⟩ = some (.int .i64 0) := by rw [ht1.row.cell (show 4 < 6 by omega)]; show some (Value.int .i64 t.st) = _; rw [HS.out]
    have z4 := ht1.row.frozen 4
    have hT := ht1.row.lt
    have K := Lib.hid k
    have G := Lib.hid g
    have TT := Lib.hid ht1
    clear P k g ht ht1
    go_wp2_with fail
    have P2 := read_any w1 L a now K.out hn
    rw [I.out, if_pos HN.out] at P2
    refine P2.mono ?_
    rintro e w2 ⟨rfl, k2, g2⟩
    have K2 := Lib.hid k2
    have G2 := Lib.hid g2
    clear P2 k2 g2 c4 z4 hT
    go_wp2
    go_ret
    exact ⟨rfl, K2.out, TT.out.grown G2.out hne, (tl_g G.out).trans (tl_g G2.out)⟩
set_option maxRecDepth 100000 in
set_option maxHeartbeats 4000000 in
theorem act_0q (w : World) (L T : Nat) (s : EcS) (t : TrS) (now : Int) (h : EcQ w L s) (hn : U64 now) (ht : TrW w T t) (hne : T ≠ L) (hx : s.xq T) (hu : (sAdv s now).us = false) (hs : t.st = 0) (hun : (sAdv s now).un = false) (hc : (t.cd == 132) = true) :
    Calls Try.prog 42 #[.pointer (some ⟨T, 0, none⟩), .pointer (some ⟨L, 0, none⟩), .int .u64 now] w (AP w L T (sWri (sAdv s now) true t.cd) { t with st := 3 } (.bool true)) := by
  have P := stat_any w L s now h hn
  have hv := stat_lit0 _ hu hun
  have hx : (sAdv s now).xq T := by rw [(sAdv_xq s now).1]; exact hx
  have I := Lib.hid (sAdv_idem s now hu)
  clear h hu hun
  generalize sAdv s now = a at *
  generalize sStat a = v at *
  have HS := Lib.hid hs
  clear hs
  rcases hv with rfl | rfl
  all_goals
    have bt_0_2_n' := bt_0_2_n
    have bt_0_1_n' := bt_0_1_n
    have bt_0_1_e' := bt_0_1_e
    have bt_32_2_n' := bt_32_2_n
    have bt_32_1_n' := bt_32_1_n
    have bt_32_1_e' := bt_32_1_e
    have bt_1_2_n' := bt_1_2_n
    have bt_1_1_n' := bt_1_1_n
    have bt_1_1_e' := bt_1_1_e
    have bt_33_2_n' := bt_33_2_n
    have bt_33_1_n' := bt_33_1_n
    have bt_33_1_e' := bt_33_1_e
    go_enter Try.func42, Try.ntmps42
    go_wp2_with fail
    refine P.mono ?_
    rintro e w1 ⟨rfl, k, g⟩
    have ht1 := ht.grown g hne
    have c4 : w1.cell? ⟨T, 4, none⟩ = some (.int .i64 0) := by rw [ht1.row.cell (show 4 < 6 by omega)]; show some (Value.int .i64 t.st) = _; rw [HS.out]
    have z4 := ht1.row.frozen 4
    have hT := ht1.row.lt
    have K := Lib.hid k
    have G := Lib.hid g
    have TT := Lib.hid ht1
    clear P k g ht ht1
    have c0 : w1.cell? ⟨T, 0, none⟩ = some (.int .u8 t.cd) := TT.out.row.cell (show 0 < 6 by omega)
    go_wp2_with fail
    have P2 := wcmd_any w1 L a now t.cd K.out hn TT.out.cd
    rw [I.out] at P2
    refine P2.mono ?_
    rintro e w2 ⟨rfl, k2, g2⟩
    have ht2 := TT.out.grown g2 hne
    clear c4 z4 hT c0 P2
    have c4 : w2.cell? ⟨T, 4, none⟩ = some (.int .i64 0) := by rw [ht2.row.cell (show 4 < 6 by omega)]; show some (Value.int .i64 t.st) = _; rw [HS.out]
    have z4 := ht2.row.frozen 4
    have hT := ht2.row.lt
    have c5 : w2.cell? ⟨T, 0, none⟩ = some (.int .u8 t.cd) := ht2.row.cell (show 0 < 6 by omega)
    have hx2 : (sWri a true t.cd).xq T := by unfold sWri; split <;> exact hx
    have K2 := Lib.hid k2
    have G2 := Lib.hid g2
    have TT2 := Lib.hid ht2
    clear k2 g2 ht2
    go_wp2
    go_ret
    exact ⟨rfl, tw_set (tw_set K2.out hx2 hne) hx2 hne, tw_st (tw_st TT2.out 1) 3, (((tl_g G.out).trans (tl_g G2.out)).trans (tl_t (g_store w2 T 4 _))).trans (tl_t (g_store _ T 4 _))⟩
set_option maxRecDepth 100000 in
set_option maxHeartbeats 4000000 in
theorem act_0c (w : World) (L T : Nat) (s : EcS) (t : TrS) (now : Int) (h : EcQ w L s) (hn : U64 now) (ht : TrW w T t) (hne : T ≠ L) (hx : s.xq T) (hu : (sAdv s now).us = false) (hs : t.st = 0) (hun : (sAdv s now).un = false) (hc : (t.cd == 132) = false) :
    Calls Try.prog 42 #[.pointer (some ⟨T, 0, none⟩), .pointer (some ⟨L, 0, none⟩), .int .u64 now] w (AP w L T (sWri (sAdv s now) true t.cd) { t with st := 1 } (.bool true)) := by
  have P := stat_any w L s now h hn
  have hv := stat_lit0 _ hu hun
  have hx : (sAdv s now).xq T := by rw [(sAdv_xq s now).1]; exact hx
  have I := Lib.hid (sAdv_idem s now hu)
  clear h hu hun
  generalize sAdv s now = a at *
  generalize sStat a = v at *
  have HS := Lib.hid hs
  clear hs
  rcases hv with rfl | rfl
  all_goals
    have bt_0_2_n' := bt_0_2_n
    have bt_0_1_n' := bt_0_1_n
    have bt_0_1_e' := bt_0_1_e
    have bt_32_2_n' := bt_32_2_n
    have bt_32_1_n' := bt_32_1_n
    have bt_32_1_e' := bt_32_1_e
    have bt_1_2_n' := bt_1_2_n
    have bt_1_1_n' := bt_1_1_n
    have bt_1_1_e' := bt_1_1_e
    have bt_33_2_n' := bt_33_2_n
    have bt_33_1_n' := bt_33_1_n
    have bt_33_1_e' := bt_33_1_e
    go_enter Try.func42, Try.ntmps42
    go_wp2_with fail
    refine P.mono ?_
    rintro e w1 ⟨rfl, k, g⟩
    have ht1 := ht.grown g hne
    have c4 : w1.cell? ⟨T, 4, none⟩ = some (.int .i64 0) := by rw [ht1.row.cell (show 4 < 6 by omega)]; show some (Value.int .i64 t.st) = _; rw [HS.out]
    have z4 := ht1.row.frozen 4
    have hT := ht1.row.lt
    have K := Lib.hid k
    have G := Lib.hid g
    have TT := Lib.hid ht1
    clear P k g ht ht1
    have c0 : w1.cell? ⟨T, 0, none⟩ = some (.int .u8 t.cd) := TT.out.row.cell (show 0 < 6 by omega)
    go_wp2_with fail
    have P2 := wcmd_any w1 L a now t.cd K.out hn TT.out.cd
    rw [I.out] at P2
    refine P2.mono ?_
    rintro e w2 ⟨rfl, k2, g2⟩
    have ht2 := TT.out.grown g2 hne
    clear c4 z4 hT c0 P2
    have c4 : w2.cell? ⟨T, 4, none⟩ = some (.int .i64 0) := by rw [ht2.row.cell (show 4 < 6 by omega)]; show some (Value.int .i64 t.st) = _; rw [HS.out]
    have z4 := ht2.row.frozen 4
    have hT := ht2.row.lt
    have c5 : w2.cell? ⟨T, 0, none⟩ = some (.int .u8 t.cd) := ht2.row.cell (show 0 < 6 by omega)
    have hx2 : (sWri a true t.cd).xq T := by unfold sWri; split <;> exact hx
    have K2 := Lib.hid k2
    have G2 := Lib.hid g2
    have TT2 := Lib.hid ht2
    clear k2 g2 ht2
    go_wp2
    go_ret
    exact ⟨rfl, tw_set K2.out hx2 hne, tw_st TT2.out 1, ((tl_g G.out).trans (tl_g G2.out)).trans (tl_t (g_store w2 T 4 _))⟩
set_option maxRecDepth 100000 in
set_option maxHeartbeats 4000000 in
theorem act_1w (w : World) (L T : Nat) (s : EcS) (t : TrS) (now : Int) (h : EcQ w L s) (hn : U64 now) (ht : TrW w T t) (hne : T ≠ L) (hx : s.xq T) (hu : (sAdv s now).us = false) (hs : t.st = 1) (hc : (t.cd == 129) = true) :
    Calls Try.prog 42 #[.pointer (some ⟨T, 0, none⟩), .pointer (some ⟨L, 0, none⟩), .int .u64 now] w (AP w L T (sWri (sAdv s now) false t.ad) { t with st := 2 } (.bool true)) := by
  have P := stat_any w L s now h hn
  have hv := stat_lit2 _ hu
  have hx : (sAdv s now).xq T := by rw [(sAdv_xq s now).1]; exact hx
  have I := Lib.hid (sAdv_idem s now hu)
  clear h hu
  generalize sAdv s now = a at *
  generalize sStat a = v at *
  have HS := Lib.hid hs
  clear hs
  rcases hv with rfl | rfl | rfl | rfl
  all_goals
    have bt_0_2_n' := bt_0_2_n
    have bt_0_1_n' := bt_0_1_n
    have bt_0_1_e' := bt_0_1_e
    have bt_32_2_n' := bt_32_2_n
    have bt_32_1_n' := bt_32_1_n
    have bt_32_1_e' := bt_32_1_e
    have bt_1_2_n' := bt_1_2_n
    have bt_1_1_n' := bt_1_1_n
    have bt_1_1_e' := bt_1_1_e
    have bt_33_2_n' := bt_33_2_n
    have bt_33_1_n' := bt_33_1_n
    have bt_33_1_e' := bt_33_1_e
    go_enter Try.func42, Try.ntmps42
    go_wp2_with fail
    refine P.mono ?_
    rintro e w1 ⟨rfl, k, g⟩
    have ht1 := ht.grown g hne
    have c4 : w1.cell? ⟨T, 4, none⟩ = some (.int .i64 1) := by rw [ht1.row.cell (show 4 < 6 by omega)]; show some (Value.int .i64 t.st) = _; rw [HS.out]
    have z4 := ht1.row.frozen 4
    have hT := ht1.row.lt
    have K := Lib.hid k
    have G := Lib.hid g
    have TT := Lib.hid ht1
    clear P k g ht ht1
    have c0 : w1.cell? ⟨T, 1, none⟩ = some (.int .u8 t.ad) := TT.out.row.cell (show 1 < 6 by omega)
    go_wp2_with fail
    have P2 := wdata_any w1 L a now t.ad K.out hn TT.out.ad
    rw [I.out] at P2
    refine P2.mono ?_
    rintro e w2 ⟨rfl, k2, g2⟩
    have ht2 := TT.out.grown g2 hne
    clear c4 z4 hT c0 P2
    have c4 : w2.cell? ⟨T, 4, none⟩ = some (.int .i64 1) := by rw [ht2.row.cell (show 4 < 6 by omega)]; show some (Value.int .i64 t.st) = _; rw [HS.out]
    have z4 := ht2.row.frozen 4
    have hT := ht2.row.lt
    have c5 : w2.cell? ⟨T, 0, none⟩ = some (.int .u8 t.cd) := ht2.row.cell (show 0 < 6 by omega)
    have hx2 : (sWri a false t.ad).xq T := by unfold sWri; split <;> exact hx
    have K2 := Lib.hid k2
    have G2 := Lib.hid g2
    have TT2 := Lib.hid ht2
    clear k2 g2 ht2
    go_wp2
    go_ret
    exact ⟨rfl, tw_set (tw_set K2.out hx2 hne) hx2 hne, tw_st (tw_st TT2.out 3) 2, (((tl_g G.out).trans (tl_g G2.out)).trans (tl_t (g_store w2 T 4 _))).trans (tl_t (g_store _ T 4 _))⟩
set_option maxRecDepth 100000 in
set_option maxHeartbeats 4000000 in
theorem act_1r (w : World) (L T : Nat) (s : EcS) (t : TrS) (now : Int) (h : EcQ w L s) (hn : U64 now) (ht : TrW w T t) (hne : T ≠ L) (hx : s.xq T) (hu : (sAdv s now).us = false) (hs : t.st = 1) (hc : (t.cd == 129) = false) :
    Calls Try.prog 42 #[.pointer (some ⟨T, 0, none⟩), .pointer (some ⟨L, 0, none⟩), .int .u64 now] w (AP w L T (sWri (sAdv s now) false t.ad) { t with st := 3 } (.bool true)) := by
  have P := stat_any w L s now h hn
  have hv := stat_lit2 _ hu
  have hx : (sAdv s now).xq T := by rw [(sAdv_xq s now).1]; exact hx
  have I := Lib.hid (sAdv_idem s now hu)
  clear h hu
  generalize sAdv s now = a at *
  generalize sStat a = v at *
  have HS := Lib.hid hs
  clear hs
  rcases hv with rfl | rfl | rfl | rfl
  all_goals
    have bt_0_2_n' := bt_0_2_n
    have bt_0_1_n' := bt_0_1_n
    have bt_0_1_e' := bt_0_1_e
    have bt_32_2_n' := bt_32_2_n
    have bt_32_1_n' := bt_32_1_n
    have bt_32_1_e' := bt_32_1_e
    have bt_1_2_n' := bt_1_2_n
    have bt_1_1_n' := bt_1_1_n
    have bt_1_1_e' := bt_1_1_e
    have bt_33_2_n' := bt_33_2_n
    have bt_33_1_n' := bt_33_1_n
    have bt_33_1_e' := bt_33_1_e
    go_enter Try.func42, Try.ntmps42
    go_wp2_with fail
    refine P.mono ?_
    rintro e w1 ⟨rfl, k, g⟩
    have ht1 := ht.grown g hne
    have c4 : w1.cell? ⟨T, 4, none⟩ = some (.int .i64 1) := by rw [ht1.row.cell (show 4 < 6 by omega)]; show some (Value.int .i64 t.st) = _; rw [HS.out]
    have z4 := ht1.row.frozen 4
    have hT := ht1.row.lt
    have K := Lib.hid k
    have G := Lib.hid g
    have TT := Lib.hid ht1
    clear P k g ht ht1
    have c0 : w1.cell? ⟨T, 1, none⟩ = some (.int .u8 t.ad) := TT.out.row.cell (show 1 < 6 by omega)
    go_wp2_with fail
    have P2 := wdata_any w1 L a now t.ad K.out hn TT.out.ad
    rw [I.out] at P2
    refine P2.mono ?_
    rintro e w2 ⟨rfl, k2, g2⟩
    have ht2 := TT.out.grown g2 hne
    clear c4 z4 hT c0 P2
    have c4 : w2.cell? ⟨T, 4, none⟩ = some (.int .i64 1) := by rw [ht2.row.cell (show 4 < 6 by omega)]; show some (Value.int .i64 t.st) = _; rw [HS.out]
    have z4 := ht2.row.frozen 4
    have hT := ht2.row.lt
    have c5 : w2.cell? ⟨T, 0, none⟩ = some (.int .u8 t.cd) := ht2.row.cell (show 0 < 6 by omega)
    have hx2 : (sWri a false t.ad).xq T := by unfold sWri; split <;> exact hx
    have K2 := Lib.hid k2
    have G2 := Lib.hid g2
    have TT2 := Lib.hid ht2
    clear k2 g2 ht2
    go_wp2
    go_ret
    exact ⟨rfl, tw_set K2.out hx2 hne, tw_st TT2.out 3, ((tl_g G.out).trans (tl_g G2.out)).trans (tl_t (g_store w2 T 4 _))⟩
set_option maxRecDepth 100000 in
set_option maxHeartbeats 4000000 in
theorem act_2 (w : World) (L T : Nat) (s : EcS) (t : TrS) (now : Int) (h : EcQ w L s) (hn : U64 now) (ht : TrW w T t) (hne : T ≠ L) (hx : s.xq T) (hu : (sAdv s now).us = false) (hs : t.st = 2) :
    Calls Try.prog 42 #[.pointer (some ⟨T, 0, none⟩), .pointer (some ⟨L, 0, none⟩), .int .u64 now] w (AP w L T (sWri (sAdv s now) false t.dt) { t with st := 4 } (.bool true)) := by
  have P := stat_any w L s now h hn
  have hv := stat_lit2 _ hu
  have hx : (sAdv s now).xq T := by rw [(sAdv_xq s now).1]; exact hx
  have I := Lib.hid (sAdv_idem s now hu)
  clear h hu
  generalize sAdv s now = a at *
  generalize sStat a = v at *
  have HS := Lib.hid hs
  clear hs
  rcases hv with rfl | rfl | rfl | rfl
  all_goals
    have bt_0_2_n' := bt_0_2_n
    have bt_0_1_n' := bt_0_1_n
    have bt_0_1_e' := bt_0_1_e
    have bt_32_2_n' := bt_32_2_n
    have bt_32_1_n' := bt_32_1_n
    have bt_32_1_e' := bt_32_1_e
    have bt_1_2_n' := bt_1_2_n
    have bt_1_1_n' := bt_1_1_n
    have bt_1_1_e' := bt_1_1_e
    have bt_33_2_n' := bt_33_2_n
    have bt_33_1_n' := bt_33_1_n
    have bt_33_1_e' := bt_33_1_e
    go_enter Try.func42, Try.ntmps42
    go_wp2_with fail
    refine P.mono ?_
    rintro e w1 ⟨rfl, k, g⟩
    have ht1 := ht.grown g hne
    have c4 : w1.cell? ⟨T, 4, none⟩ = some (.int .i64 2) := by rw [ht1.row.cell (show 4 < 6 by omega)]; show some (Value.int .i64 t.st) = _; rw [HS.out]
    have z4 := ht1.row.frozen 4
    have hT := ht1.row.lt
    have K := Lib.hid k
    have G := Lib.hid g
    have TT := Lib.hid ht1
    clear P k g ht ht1
    have c0 : w1.cell? ⟨T, 2, none⟩ = some (.int .u8 t.dt) := TT.out.row.cell (show 2 < 6 by omega)
    go_wp2_with fail
    have P2 := wdata_any w1 L a now t.dt K.out hn TT.out.dt
    rw [I.out] at P2
    refine P2.mono ?_
    rintro e w2 ⟨rfl, k2, g2⟩
    have ht2 := TT.out.grown g2 hne
    clear c4 z4 hT c0 P2
    have c4 : w2.cell? ⟨T, 4, none⟩ = some (.int .i64 2) := by rw [ht2.row.cell (show 4 < 6 by omega)]; show some (Value.int .i64 t.st) = _; rw [HS.out]
    have z4 := ht2.row.frozen 4
    have hT := ht2.row.lt
    have hx2 : (sWri a false t.dt).xq T := by unfold sWri; split <;> exact hx
    have K2 := Lib.hid k2
    have G2 := Lib.hid g2
    have TT2 := Lib.hid ht2
    clear k2 g2 ht2
    go_wp2
    go_ret
    exact ⟨rfl, tw_set K2.out hx2 hne, tw_st TT2.out 4, ((tl_g G.out).trans (tl_g G2.out)).trans (tl_t (g_store w2 T 4 _))⟩
set_option maxRecDepth 100000 in
set_option maxHeartbeats 4000000 in
theorem act_3e (w : World) (L T : Nat) (s : EcS) (t : TrS) (now : Int) (h : EcQ w L s) (hn : U64 now) (ht : TrW w T t) (hne : T ≠ L) (hx : s.xq T) (hu : (sAdv s now).us = false) (hs : t.st = 3) (hun : (sAdv s now).un = false) :
    Calls Try.prog 42 #[.pointer (some ⟨T, 0, none⟩), .pointer (some ⟨L, 0, none⟩), .int .u64 now] w (AP w L T (sAdv s now) t (.bool false)) := by
  have P := stat_any w L s now h hn
  have hv := stat_lit0 _ hu hun
  have hx : (sAdv s now).xq T := by rw [(sAdv_xq s now).1]; exact hx
  have I := Lib.hid (sAdv_idem s now hu)
  clear h hu hun
  generalize sAdv s now = a at *
  generalize sStat a = v at *
  have HS := Lib.hid hs
  clear hs
  rcases hv with rfl | rfl
  all_goals
    have bt_0_2_n' := bt_0_2_n
    have bt_0_1_n' := bt_0_1_n
    have bt_0_1_e' := bt_0_1_e
    have bt_32_2_n' := bt_32_2_n
    have bt_32_1_n' := bt_32_1_n
    have bt_32_1_e' := bt_32_1_e
    have bt_1_2_n' := bt_1_2_n
    have bt_1_1_n' := bt_1_1_n
    have bt_1_1_e' := bt_1_1_e
    have bt_33_2_n' := bt_33_2_n
    have bt_33_1_n' := bt_33_1_n
    have bt_33_1_e' := bt_33_1_e
    go_enter Try.func42, Try.ntmps42
    go_wp2_with fail
    refine P.mono ?_
    rintro e w1 ⟨rfl, k, g⟩
    have ht1 := ht.grown g hne
    have c4 : w1.cell? ⟨T, 4, none⟩ = some (.int .i64 3) := by rw [ht1.row.cell (show 4 < 6 by omega)]; show some (Value.int .i64 t.st) = _; rw [HS.out]
    have z4 := ht1.row.frozen 4
    have hT := ht1.row.lt
    have K := Lib.hid k
    have G := Lib.hid g
    have TT := Lib.hid ht1
    clear P k g ht ht1
    go_wp2
    go_ret
    exact ⟨rfl, K.out, TT.out, tl_g G.out⟩
set_option maxRecDepth 100000 in
set_option maxHeartbeats 4000000 in
theorem act_3r (w : World) (L T : Nat) (s : EcS) (t : TrS) (now : Int) (h : EcQ w L s) (hn : U64 now) (ht : TrW w T t) (hne : T ≠ L) (hx : s.xq T) (hu : (sAdv s now).us = false) (hs : t.st = 3) (hun : (sAdv s now).un = true) :
    Calls Try.prog 42 #[.pointer (some ⟨T, 0, none⟩), .pointer (some ⟨L, 0, none⟩), .int .u64 now] w (AP w L T { sAdv s now with un := false } { t with st := 5, vl := (sAdv s now).ou } (.bool true)) := by
  have P := stat_any w L s now h hn
  have hv := stat_lit1 _ hu hun
  have hx : (sAdv s now).xq T := by rw [(sAdv_xq s now).1]; exact hx
  have I := Lib.hid (sAdv_idem s now hu)
  have HN := Lib.hid hun
  clear h hu hun
  generalize sAdv s now = a at *
  generalize sStat a = v at *
  have HS := Lib.hid hs
  clear hs
  rcases hv with rfl | rfl
  all_goals
    have bt_0_2_n' := bt_0_2_n
    have bt_0_1_n' := bt_0_1_n
    have bt_0_1_e' := bt_0_1_e
    have bt_32_2_n' := bt_32_2_n
    have bt_32_1_n' := bt_32_1_n
    have bt_32_1_e' := bt_32_1_e
    have bt_1_2_n' := bt_1_2_n
    have bt_1_1_n' := bt_1_1_n
    have bt_1_1_e' := bt_1_1_e
    have bt_33_2_n' := bt_33_2_n
    have bt_33_1_n' := bt_33_1_n
    have bt_33_1_e' := bt_33_1_e
    go_enter Try.func42, Try.ntmps42
    go_wp2_with fail
    refine P.mono ?_
    rintro e w1 ⟨rfl, k, g⟩
    have ht1 := ht.grown g hne
    have c4 : w1.cell? ⟨T, 4, none⟩ = some (.int .i64 3) := by rw [ht1.row.cell (show 4 < 6 by omega)]; show some (Value.int .i64 t.st) = _; rw [HS.out]
    have z4 := ht1.row.frozen 4
    have hT := ht1.row.lt
    have hou : Hid (U8 a.ou) := by obtain ⟨A, c, k⟩ := k; exact k.ou
    have K := Lib.hid k
    have G := Lib.hid g
    have TT := Lib.hid ht1
    clear P k g ht ht1
    go_wp2_with fail
    have P2 := read_any w1 L a now K.out hn
    rw [I.out, if_pos HN.out] at P2
    refine P2.mono ?_
    rintro e w2 ⟨rfl, k2, g2⟩
    have ht2 := TT.out.grown g2 hne
    clear c4 z4 hT P2
    have c4 : w2.cell? ⟨T, 4, none⟩ = some (.int .i64 3) := by rw [ht2.row.cell (show 4 < 6 by omega)]; show some (Value.int .i64 t.st) = _; rw [HS.out]
    have c5 : w2.cell? ⟨T, 5, none⟩ = some (.int .u8 t.vl) := ht2.row.cell (show 5 < 6 by omega)
    have z4 := ht2.row.frozen 4
    have z5 := ht2.row.frozen 5
    have hT := ht2.row.lt
    have K2 := Lib.hid k2
    have G2 := Lib.hid g2
    have TT2 := Lib.hid ht2
    clear k2 g2 ht2
    go_wp2
    go_ret
    exact ⟨rfl, tw_set (tw_set K2.out hx hne) hx hne, tw_st (tw_vl TT2.out a.ou hou.out) 5, (((tl_g G.out).trans (tl_g G2.out)).trans (tl_t (g_store w2 T 5 _))).trans (tl_t (g_store _ T 4 _))⟩
end Go.Proofs.Ytdmbmjnobncgjaa
