/- Status. -/
import Derived.Test.YtdmbmjnobncgjaaWri
namespace Go.Proofs.Ytdmbmjnobncgjaa
open Go.RowKit

/-- The status bits of a state. -/
def sStat (s : EcS) : Int := (if s.un = true then 1 else 0) + (if s.us = true then 2 else 0) + (if s.ql = [] then 0 else 32)
set_option maxRecDepth 100000 in
set_option maxHeartbeats 2000000 in
theorem stat_any (w : World) (L : Nat) (s : EcS) (now : Int) (h : EcQ w L s) (hn : U64 now) : Calls Try.prog 24 #[.pointer (some ⟨L, 0, none⟩), .int .u64 now] w (EP w L (sAdv s now) (.int .u8 (sStat (sAdv s now)))) := by
  have P := adv_any w L s now h hn
  clear h
  generalize sAdv s now = t at *
  unfold sStat
  by_cases hun : t.un = true <;> by_cases hus : t.us = true <;> by_cases hql : t.ql = []
  · rw [if_pos hun, if_pos hus, if_pos hql]
    have HN : Hid (t.un = true) := by show _ = _; simpa using hun
    have HS : Hid (t.us = true) := by show _ = _; simpa using hus
    have HQ := Lib.hid hql
    clear hun hus hql
    go_enter Try.func24, Try.ntmps24
    go_wp2_with fail
    refine P.mono ?_
    rintro e w1 ⟨rfl, ⟨A, c, k⟩, g⟩
    clear P
    have c1 : w1.cell? ⟨L, 263, none⟩ = some (.bool true) := by rw [er_un k.row]; show some (Value.bool t.un) = _; rw [HN.out]
    have c2 : w1.cell? ⟨L, 258, none⟩ = some (.bool true) := by rw [er_us k.row]; show some (Value.bool t.us) = _; rw [HS.out]
    have c3 : w1.cell? ⟨L, 264, none⟩ = some (.slice A t.ql.length c) := er_q k.row
    have hl : t.ql.length ≤ 1000000 := k.ql.1
    rw [show t.ql.length = 0 by rw [HQ.out]; rfl] at c3
    clear hl
    have hL := k.row.lt
    have K := Lib.hid k
    have G := Lib.hid g
    clear k g
    go_wp2
    go_ret
    exact ⟨rfl, ⟨A, c, K.out⟩, G.out⟩
  · rw [if_pos hun, if_pos hus, if_neg hql]
    have HN : Hid (t.un = true) := by show _ = _; simpa using hun
    have HS : Hid (t.us = true) := by show _ = _; simpa using hus
    have HQ := Lib.hid hql
    clear hun hus hql
    go_enter Try.func24, Try.ntmps24
    go_wp2_with fail
    refine P.mono ?_
    rintro e w1 ⟨rfl, ⟨A, c, k⟩, g⟩
    clear P
    have c1 : w1.cell? ⟨L, 263, none⟩ = some (.bool true) := by rw [er_un k.row]; show some (Value.bool t.un) = _; rw [HN.out]
    have c2 : w1.cell? ⟨L, 258, none⟩ = some (.bool true) := by rw [er_us k.row]; show some (Value.bool t.us) = _; rw [HS.out]
    have c3 : w1.cell? ⟨L, 264, none⟩ = some (.slice A t.ql.length c) := er_q k.row
    have hl : t.ql.length ≤ 1000000 := k.ql.1
    have hl0 : 0 < t.ql.length := List.length_pos_iff.2 HQ.out
    generalize t.ql.length = n at *
    have hL := k.row.lt
    have K := Lib.hid k
    have G := Lib.hid g
    clear k g
    go_wp2
    go_ret
    exact ⟨rfl, ⟨A, c, K.out⟩, G.out⟩
  · rw [if_pos hun, if_neg hus, if_pos hql]
    have HN : Hid (t.un = true) := by show _ = _; simpa using hun
    have HS : Hid (t.us = false) := by show _ = _; simpa using hus
    have HQ := Lib.hid hql
    clear hun hus hql
    go_enter Try.func24, Try.ntmps24
    go_wp2_with fail
    refine P.mono ?_
    rintro e w1 ⟨rfl, ⟨A, c, k⟩, g⟩
    clear P
    have c1 : w1.cell? ⟨L, 263, none⟩ = some (.bool true) := by rw [er_un k.row]; show some (Value.bool t.un) = _; rw [HN.out]
    have c2 : w1.cell? ⟨L, 258, none⟩ = some (.bool false) := by rw [er_us k.row]; show some (Value.bool t.us) = _; rw [HS.out]
    have c3 : w1.cell? ⟨L, 264, none⟩ = some (.slice A t.ql.length c) := er_q k.row
    have hl : t.ql.length ≤ 1000000 := k.ql.1
    rw [show t.ql.length = 0 by rw [HQ.out]; rfl] at c3
    clear hl
    have hL := k.row.lt
    have K := Lib.hid k
    have G := Lib.hid g
    clear k g
    go_wp2
    go_ret
    exact ⟨rfl, ⟨A, c, K.out⟩, G.out⟩
  · rw [if_pos hun, if_neg hus, if_neg hql]
    have HN : Hid (t.un = true) := by show _ = _; simpa using hun
    have HS : Hid (t.us = false) := by show _ = _; simpa using hus
    have HQ := Lib.hid hql
    clear hun hus hql
    go_enter Try.func24, Try.ntmps24
    go_wp2_with fail
    refine P.mono ?_
    rintro e w1 ⟨rfl, ⟨A, c, k⟩, g⟩
    clear P
    have c1 : w1.cell? ⟨L, 263, none⟩ = some (.bool true) := by rw [er_un k.row]; show some (Value.bool t.un) = _; rw [HN.out]
    have c2 : w1.cell? ⟨L, 258, none⟩ = some (.bool false) := by rw [er_us k.row]; show some (Value.bool t.us) = _; rw [HS.out]
    have c3 : w1.cell? ⟨L, 264, none⟩ = some (.slice A t.ql.length c) := er_q k.row
    have hl : t.ql.length ≤ 1000000 := k.ql.1
    have hl0 : 0 < t.ql.length := List.length_pos_iff.2 HQ.out
    generalize t.ql.length = n at *
    have hL := k.row.lt
    have K := Lib.hid k
    have G := Lib.hid g
    clear k g
    go_wp2
    go_ret
    exact ⟨rfl, ⟨A, c, K.out⟩, G.out⟩
  · rw [if_neg hun, if_pos hus, if_pos hql]
    have HN : Hid (t.un = false) := by show _ = _; simpa using hun
    have HS : Hid (t.us = true) := by show _ = _; simpa using hus
    have HQ := Lib.hid hql
    clear hun hus hql
    go_enter Try.func24, Try.ntmps24
    go_wp2_with fail
    refine P.mono ?_
    rintro e w1 ⟨rfl, ⟨A, c, k⟩, g⟩
    clear P
    have c1 : w1.cell? ⟨L, 263, none⟩ = some (.bool false) := by rw [er_un k.row]; show some (Value.bool t.un) = _; rw [HN.out]
    have c2 : w1.cell? ⟨L, 258, none⟩ = some (.bool true) := by rw [er_us k.row]; show some (Value.bool t.us) = _; rw [HS.out]
    have c3 : w1.cell? ⟨L, 264, none⟩ = some (.slice A t.ql.length c) := er_q k.row
    have hl : t.ql.length ≤ 1000000 := k.ql.1
    rw [show t.ql.length = 0 by rw [HQ.out]; rfl] at c3
    clear hl
    have hL := k.row.lt
    have K := Lib.hid k
    have G := Lib.hid g
    clear k g
    go_wp2
    go_ret
    exact ⟨rfl, ⟨A, c, K.out⟩, G.out⟩
  · rw [if_neg hun, if_pos hus, if_neg hql]
    have HN : Hid (t.un = false) := by show _ = _; simpa using hun
    have HS : Hid (t.us = true) := by show _ = _; simpa using hus
    have HQ := Lib.hid hql
    clear hun hus hql
    go_enter Try.func24, Try.ntmps24
    go_wp2_with fail
    refine P.mono ?_
    rintro e w1 ⟨rfl, ⟨A, c, k⟩, g⟩
    clear P
    have c1 : w1.cell? ⟨L, 263, none⟩ = some (.bool false) := by rw [er_un k.row]; show some (Value.bool t.un) = _; rw [HN.out]
    have c2 : w1.cell? ⟨L, 258, none⟩ = some (.bool true) := by rw [er_us k.row]; show some (Value.bool t.us) = _; rw [HS.out]
    have c3 : w1.cell? ⟨L, 264, none⟩ = some (.slice A t.ql.length c) := er_q k.row
    have hl : t.ql.length ≤ 1000000 := k.ql.1
    have hl0 : 0 < t.ql.length := List.length_pos_iff.2 HQ.out
    generalize t.ql.length = n at *
    have hL := k.row.lt
    have K := Lib.hid k
    have G := Lib.hid g
    clear k g
    go_wp2
    go_ret
    exact ⟨rfl, ⟨A, c, K.out⟩, G.out⟩
  · rw [if_neg hun, if_neg hus, if_pos hql]
    have HN : Hid (t.un = false) := by show _ = _; simpa using hun
    have HS : Hid (t.us = false) := by show _ = _; simpa using hus
    have HQ := Lib.hid hql
    clear hun hus hql
    go_enter Try.func24, Try.ntmps24
    go_wp2_with fail
    refine P.mono ?_
    rintro e w1 ⟨rfl, ⟨A, c, k⟩, g⟩
    clear P
    have c1 : w1.cell? ⟨L, 263, none⟩ = some (.bool false) := by rw [er_un k.row]; show some (Value.bool t.un) = _; rw [HN.out]
    have c2 : w1.cell? ⟨L, 258, none⟩ = some (.bool false) := by rw [er_us k.row]; show some (Value.bool t.us) = _; rw [HS.out]
    have c3 : w1.cell? ⟨L, 264, none⟩ = some (.slice A t.ql.length c) := er_q k.row
    have hl : t.ql.length ≤ 1000000 := k.ql.1
    rw [show t.ql.length = 0 by rw [HQ.out]; rfl] at c3
    clear hl
    have hL := k.row.lt
    have K := Lib.hid k
    have G := Lib.hid g
    clear k g
    go_wp2
    go_ret
    exact ⟨rfl, ⟨A, c, K.out⟩, G.out⟩
  · rw [if_neg hun, if_neg hus, if_neg hql]
    have HN : Hid (t.un = false) := by show _ = _; simpa using hun
    have HS : Hid (t.us = false) := by show _ = _; simpa using hus
    have HQ := Lib.hid hql
    clear hun hus hql
    go_enter Try.func24, Try.ntmps24
    go_wp2_with fail
    refine P.mono ?_
    rintro e w1 ⟨rfl, ⟨A, c, k⟩, g⟩
    clear P
    have c1 : w1.cell? ⟨L, 263, none⟩ = some (.bool false) := by rw [er_un k.row]; show some (Value.bool t.un) = _; rw [HN.out]
    have c2 : w1.cell? ⟨L, 258, none⟩ = some (.bool false) := by rw [er_us k.row]; show some (Value.bool t.us) = _; rw [HS.out]
    have c3 : w1.cell? ⟨L, 264, none⟩ = some (.slice A t.ql.length c) := er_q k.row
    have hl : t.ql.length ≤ 1000000 := k.ql.1
    have hl0 : 0 < t.ql.length := List.length_pos_iff.2 HQ.out
    generalize t.ql.length = n at *
    have hL := k.row.lt
    have K := Lib.hid k
    have G := Lib.hid g
    clear k g
    go_wp2
    go_ret
    exact ⟨rfl, ⟨A, c, K.out⟩, G.out⟩
end Go.Proofs.Ytdmbmjnobncgjaa
