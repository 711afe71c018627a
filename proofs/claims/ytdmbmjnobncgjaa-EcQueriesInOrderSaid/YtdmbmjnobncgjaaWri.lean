/- advance on the state, Status, ReadData, write, the registers. -/
import Derived.Test.YtdmbmjnobncgjaaAdv
namespace Go.Proofs.Ytdmbmjnobncgjaa
open Go.RowKit

theorem adv_any (w : World) (L : Nat) (s : EcS) (now : Int) (h : EcQ w L s) (hn : U64 now) : Calls Try.prog 39 #[.pointer (some ⟨L, 0, none⟩), .int .u64 now] w (EP w L (sAdv s now) (.tuple #[])) := by
  obtain ⟨A, c, h⟩ := h
  unfold sAdv
  by_cases hu : s.us = false
  · rw [if_pos (.inl hu)]
    exact (adv_a w L { s with qa := A, qc := c } now h hn hu).mono fun e w' k => k.cg (fun _ _ => rfl)
  have hu' : s.us = true := by simpa using hu
  by_cases hd : max s.ck now < s.du
  · rw [if_pos (.inr hd)]
    exact (adv_b w L { s with qa := A, qc := c } now h hn hu' hd).mono fun e w' k => k.cg (fun _ _ => rfl)
  rw [if_neg (fun x => x.elim hu hd)]
  by_cases hc : s.cm = true
  · rw [if_pos hc]
    refine (adv_c w L { s with qa := A, qc := c } now h hn hu' hd hc).mono fun e w' k => k.cg (fun A' c' => ?_)
    show { sStart { s with ck := max s.ck now, us := false, qa := A, qc := c } s.vl with qa := A', qc := c' } = { sStart { s with ck := max s.ck now, us := false } s.vl with qa := A', qc := c' }
    unfold sStart
    by_cases h1 : s.vl = 128 ∨ s.vl = 129
    · rw [if_pos h1, if_pos h1]
    rw [if_neg h1, if_neg h1]
    by_cases h2 : s.vl = 132
    · rw [if_pos h2, if_pos h2]
      cases hq : s.ql <;> rfl
    · rw [if_neg h2, if_neg h2]
  · rw [if_neg hc]
    refine (adv_d w L { s with qa := A, qc := c } now h hn hu' hd (by simpa using hc)).mono fun e w' k => k.cg (fun A' c' => ?_)
    show { sTake { s with ck := max s.ck now, us := false, qa := A, qc := c } s.vl with qa := A', qc := c' } = { sTake { s with ck := max s.ck now, us := false } s.vl with qa := A', qc := c' }
    unfold sTake
    by_cases h1 : s.cd = 128
    · rw [if_pos h1, if_pos h1]
    rw [if_neg h1, if_neg h1]
    by_cases h2 : s.cd = 129
    · rw [if_pos h2, if_pos h2]
      by_cases h3 : s.ad = true
      · rw [if_pos h3, if_pos h3]
      · rw [if_neg h3, if_neg h3]
    · rw [if_neg h2, if_neg h2]
theorem reg_any (w : World) (L : Nat) (s : EcS) (i : Nat) (h : EcQ w L s) (hi : i < 256) : Calls Try.prog 26 #[.pointer (some ⟨L, 0, none⟩), .int .u8 i] w (fun e w' => e = .returned (.int .u8 (s.reg i)) ∧ w = w') := by
  obtain ⟨A, c, h⟩ := h
  have c1 := er_reg h.row i hi
  have hi3 : (i : Int) < 256 := by omega
  have hL := h.row.lt
  clear h
  go_enter Try.func26, Try.ntmps26
  go_wp2
  go_ret
  exact ⟨rfl, rfl⟩
theorem setreg_any (w : World) (L : Nat) (s : EcS) (i : Nat) (v : Int) (h : EcQ w L s) (hi : i < 256) (hv : U8 v) : Calls Try.prog 22 #[.pointer (some ⟨L, 0, none⟩), .int .u8 i, .int .u8 v] w (EP w L { s with reg := updR s.reg i v } (.tuple #[])) := by
  obtain ⟨A, c, h⟩ := h
  have c1 := er_reg h.row i hi
  have hi3 : (i : Int) < 256 := by omega
  have z1 := h.row.frozen (2 + i)
  have hL := h.row.lt
  have H := Lib.hid h
  clear h
  go_enter Try.func22, Try.ntmps22
  go_wp2
  go_end0
  have h := H.out
  have g := g_store w L (2 + i) (.int .u8 v)
  refine ⟨rfl, ⟨A, c, ⟨ew_reg h.row i hi v, h.q.own g, h.dl, h.ck, h.du, ?_, h.vl, h.ou, h.cd, h.aa, h.ql, h.qn⟩⟩, g⟩
  intro j hj
  show U8 (if j = i then v else s.reg j)
  split
  · exact hv
  · exact h.reg j hj
theorem read_any (w : World) (L : Nat) (s : EcS) (now : Int) (h : EcQ w L s) (hn : U64 now) : Calls Try.prog 18 #[.pointer (some ⟨L, 0, none⟩), .int .u64 now] w (EP w L { sAdv s now with un := false } (.int .u8 (if (sAdv s now).un = true then (sAdv s now).ou else 0))) := by
  have P := adv_any w L s now h hn
  clear h
  generalize sAdv s now = t at *
  by_cases hu : t.un = true
  · rw [if_pos hu]
    have HU := Lib.hid hu
    clear hu
    go_enter Try.func18, Try.ntmps18
    go_wp2_with fail
    refine P.mono ?_
    rintro e w1 ⟨rfl, ⟨A, c, k⟩, g⟩
    clear P
    have c1 : w1.cell? ⟨L, 263, none⟩ = some (.bool true) := by rw [er_un k.row]; show some (Value.bool t.un) = _; rw [HU.out]
    have c2 := er_ou k.row
    have z1 := k.row.frozen 263
    have hL := k.row.lt
    have K := Lib.hid k
    have G := Lib.hid g
    clear k g
    go_wp2
    go_ret
    have k := K.out
    have g := g_store w1 L 263 (.bool false)
    exact ⟨rfl, ⟨A, c, ⟨ew_un k.row false, k.q.own g, k.dl, k.ck, k.du, k.reg, k.vl, k.ou, k.cd, k.aa, k.ql, k.qn⟩⟩, g_then G.out g⟩
  · have hu' : t.un = false := by simpa using hu
    rw [if_neg hu]
    have E : Hid ({ t with un := false } = t) := by
      show _ = _
      cases t; simp only at hu'; subst hu'; rfl
    have HU := Lib.hid hu'
    clear hu hu'
    rw [E.out]
    go_enter Try.func18, Try.ntmps18
    go_wp2_with fail
    refine P.mono ?_
    rintro e w1 ⟨rfl, ⟨A, c, k⟩, g⟩
    clear P
    have c1 : w1.cell? ⟨L, 263, none⟩ = some (.bool false) := by rw [er_un k.row]; show some (Value.bool t.un) = _; rw [HU.out]
    have hL := k.row.lt
    have K := Lib.hid k
    have G := Lib.hid g
    clear k g
    go_wp2
    go_ret
    exact ⟨rfl, ⟨A, c, K.out⟩, G.out⟩
end Go.Proofs.Ytdmbmjnobncgjaa
