/- The controller's small methods: later, startCommand. -/
import Derived.Test.YtdmbmjnobncgjaaSta
namespace Go.Proofs.Ytdmbmjnobncgjaa
open Go.RowKit

/-- A controller whose queue lies anywhere of its own. -/
def EcQ (w : World) (L : Nat) (s : EcS) : Prop := ∃ A c, Ec w L { s with qa := A, qc := c }
def EP (w : World) (L : Nat) (s : EcS) (v : Value) (e : Ending) (w' : World) : Prop := e = .returned v ∧ EcQ w' L s ∧ w.grownBy w' (some L)
/-- A sum of times that saturates. -/
def lat (t d : Int) : Int := if t + d < 18446744073709551616 then t + d else 18446744073709551615
theorem lat_u {t d : Int} (ht : U64 t) (hd : U64 d) : U64 (lat t d) := by
  unfold lat U64 at *
  split <;> omega
theorem later_any (w : World) (t d : Int) (ht : U64 t) (hd : U64 d) : Calls Try.prog 41 #[.int .u64 t, .int .u64 d] w (fun e w' => e = .returned (.int .u64 (lat t d)) ∧ Below w.heap.size w w') := by
  obtain ⟨t0, t1⟩ := ht
  obtain ⟨d0, d1⟩ := hd
  by_cases h : t + d < 18446744073709551616
  · have E : Hid (lat t d = t + d) := by show _ = _; unfold lat; rw [if_pos h]
    have hw : IntKind.u64.wrap (t + d) = t + d := by rw [IntKind.wrap_u64]; omega
    have hl : decide (t + d < t) = false := decide_eq_false (by omega)
    go_enter Try.func41, Try.ntmps41
    go_wp2
    go_ret
    exact ⟨by rw [E.out]; rfl, Below.refl _ _⟩
  · have E : Hid (lat t d = 18446744073709551615) := by show _ = _; unfold lat; rw [if_neg h]
    have hw : IntKind.u64.wrap (t + d) = t + d - 18446744073709551616 := by rw [IntKind.wrap_u64]; omega
    have hl : decide (t + d - 18446744073709551616 < t) = true := decide_eq_true (by omega)
    go_enter Try.func41, Try.ntmps41
    go_wp2
    go_ret
    exact ⟨by rw [E.out]; rfl, Below.refl _ _⟩
theorem Ec.q0 {w : World} {L : Nat} {s : EcS} (h : Ec w L s) : Ec w L { s with qa := s.qa } := h
theorem EcQ.of {w : World} {L : Nat} {s : EcS} (h : Ec w L s) : EcQ w L s := ⟨s.qa, s.qc, h⟩
theorem Ec.drewN {w : World} {L : Nat} {s : EcS} (h : Ec w L s) (n : Nat) : Ec (w.drewN n) L s :=
  ⟨h.row.of_block rfl, h.q.chg ((Chg.refl (fun _ => False) w).drewN n) (fun _ _ _ x => x), h.dl, h.ck, h.du, h.reg, h.vl, h.ou, h.cd, h.aa, h.ql, h.qn⟩
theorem Ec.drew {w : World} {L : Nat} {s : EcS} (h : Ec w L s) : Ec w.drew L s :=
  ⟨h.row.of_block rfl, h.q.chg ((Chg.refl (fun _ => False) w).drew) (fun _ _ _ x => x), h.dl, h.ck, h.du, h.reg, h.vl, h.ou, h.cd, h.aa, h.ql, h.qn⟩
theorem put_q (w : World) (L : Nat) (s : EcS) (v : Int) (h : EcQ w L s) (hv : U8 v) : Calls Try.prog 50 #[.pointer (some ⟨L, 0, none⟩), .int .u8 v] w (EP w L { s with ou := v, un := true } (.tuple #[])) := by
  obtain ⟨A, c, h⟩ := h
  exact (put_any w L _ v h hv).mono fun e w' k => ⟨k.1, ⟨A, c, k.2.1⟩, k.2.2⟩
theorem ew_start {w : World} {L : Nat} {s : EcS} (h : Ec w L s) (x : Int) (hx : U8 x) : Ec ((w.setCell ⟨L, 265, none⟩ (.int .u8 x)).setCell ⟨L, 266, none⟩ (.bool false)) L { s with cd := x, ad := false } := by
  have g := g_then (g_store w L 265 (.int .u8 x)) (g_store _ L 266 (.bool false))
  exact ⟨ew_ad (ew_cd h.row x) false, h.q.own g, h.dl, h.ck, h.du, h.reg, h.vl, h.ou, hx, h.aa, h.ql, h.qn⟩
theorem start_o (w : World) (L : Nat) (s : EcS) (v : Int) (h : Ec w L s) (hv : v ≠ 128 ∧ v ≠ 129 ∧ v ≠ 132) : Calls Try.prog 45 #[.pointer (some ⟨L, 0, none⟩), .int .u8 v] w (EP w L { s with cd := 0, ad := false } (.tuple #[])) := by
  have c1 := er_cd h.row
  have c2 := er_ad h.row
  have z1 := h.row.frozen 265
  have z2 := h.row.frozen 266
  have hL := h.row.lt
  have e1 : (v == 128) = false := by simp [hv.1]
  have e2 : (v == 129) = false := by simp [hv.2.1]
  have e3 : (v == 132) = false := by simp [hv.2.2]
  have H := Lib.hid h
  clear h hv
  go_enter Try.func45, Try.ntmps45
  go_wp2
  go_end0
  exact ⟨rfl, .of (ew_start H.out 0 (by unfold U8; omega)), g_then (g_store w L 265 _) (g_store _ L 266 _)⟩
theorem start_c (w : World) (L : Nat) (s : EcS) (v : Int) (h : Ec w L s) (hv : v = 128 ∨ v = 129) : Calls Try.prog 45 #[.pointer (some ⟨L, 0, none⟩), .int .u8 v] w (EP w L { s with cd := v, ad := false } (.tuple #[])) := by
  have c1 := er_cd h.row
  have c2 := er_ad h.row
  have z1 := h.row.frozen 265
  have z2 := h.row.frozen 266
  have hL := h.row.lt
  have H := Lib.hid h
  clear h
  have F : Hid (∀ x, U8 x → EP w L { s with cd := x, ad := false } (.tuple #[]) (.returned (.tuple #[])) (((w.setCell ⟨L, 265, none⟩ (.int .u8 0)).setCell ⟨L, 266, none⟩ (.bool false)).setCell ⟨L, 265, none⟩ (.int .u8 x))) := fun x hx => by
    have h1 := ew_start H.out 0 (by unfold U8; omega)
    have g := g_store ((w.setCell ⟨L, 265, none⟩ (.int .u8 0)).setCell ⟨L, 266, none⟩ (.bool false)) L 265 (.int .u8 x)
    exact ⟨rfl, .of ⟨ew_cd h1.row x, h1.q.own g, h1.dl, h1.ck, h1.du, h1.reg, h1.vl, h1.ou, hx, h1.aa, h1.ql, h1.qn⟩, g_then (g_then (g_store w L 265 _) (g_store _ L 266 _)) g⟩
  rcases hv with rfl | rfl
  · go_enter Try.func45, Try.ntmps45
    go_wp2
    go_end0
    exact F.out 128 (by unfold U8; omega)
  · go_enter Try.func45, Try.ntmps45
    go_wp2
    go_end0
    exact F.out 129 (by unfold U8; omega)
theorem start_e (w : World) (L : Nat) (s : EcS) (h : Ec w L s) (hq : s.ql = []) : Calls Try.prog 45 #[.pointer (some ⟨L, 0, none⟩), .int .u8 132] w (EP w L { s with cd := 0, ad := false, ou := 0, un := true } (.tuple #[])) := by
  have c1 := er_cd h.row
  have c2 := er_ad h.row
  have c3 := er_q h.row
  rw [hq] at c3
  have z1 := h.row.frozen 265
  have z2 := h.row.frozen 266
  have hL := h.row.lt
  have H := Lib.hid h
  have P := put_q ((w.setCell ⟨L, 265, none⟩ (.int .u8 0)).setCell ⟨L, 266, none⟩ (.bool false)) L _ 0 (.of (ew_start H.out 0 (by unfold U8; omega))) (by unfold U8; omega)
  clear h
  go_enter Try.func45, Try.ntmps45
  go_wp2_with fail
  refine P.mono ?_
  rintro e w1 ⟨rfl, k1, k2⟩
  have k1 := Lib.hid k1
  clear P
  go_wp2
  go_end0
  exact ⟨rfl, k1.out, g_then (g_then (g_store w L 265 _) (g_store _ L 266 _)) k2⟩
end Go.Proofs.Ytdmbmjnobncgjaa
