/- Check of one device. -/
import Derived.Test.YtejfopjnokopeaaVra
namespace Go.Proofs.Ytejfopjnokopeaa
open Go.ChangeShapes Go.WideShapes Go.ChangeAt Go.RowKit Go.Deep Go.Joins

/-- The cells of a device. -/
def C13 (w : World) (b : Nat) (d : PD) : Prop := b < w.heap.size ∧ w.cell? ⟨b, 0, none⟩ = some (.int .i64 d.p) ∧ w.cell? ⟨b, 1, none⟩ = some (.slice (d.A 0) (d.n 0) (d.c 0)) ∧ w.cell? ⟨b, 2, none⟩ = some (.slice (d.A 1) (d.n 1) (d.c 1)) ∧ w.cell? ⟨b, 3, none⟩ = some (.slice (d.A 2) (d.n 2) (d.c 2)) ∧ w.cell? ⟨b, 4, none⟩ = some (.slice (d.A 3) (d.n 3) (d.c 3)) ∧ w.cell? ⟨b, 5, none⟩ = some (.int .i64 (d.e 0)) ∧ w.cell? ⟨b, 6, none⟩ = some (.int .i64 (d.e 1)) ∧ w.cell? ⟨b, 7, none⟩ = some (.int .i64 (d.e 2)) ∧ w.cell? ⟨b, 8, none⟩ = some (.int .i64 (d.e 3)) ∧ w.cell? ⟨b, 9, none⟩ = some (.int .i64 (d.e 4)) ∧ w.cell? ⟨b, 10, none⟩ = some (.int .i64 (d.e 5)) ∧ w.cell? ⟨b, 11, none⟩ = some (.int .i64 d.wd) ∧ w.cell? ⟨b, 12, none⟩ = some (.int .i64 d.ws)
theorem c13_new (w : World) (d : PD) : C13 (w.alloc (.cells d.cells 33)) w.heap.size d :=
  ⟨by simp, (new_c w _ 33 0).trans rfl, (new_c w _ 33 1).trans rfl, (new_c w _ 33 2).trans rfl, (new_c w _ 33 3).trans rfl, (new_c w _ 33 4).trans rfl, (new_c w _ 33 5).trans rfl, (new_c w _ 33 6).trans rfl, (new_c w _ 33 7).trans rfl, (new_c w _ 33 8).trans rfl, (new_c w _ 33 9).trans rfl, (new_c w _ 33 10).trans rfl, (new_c w _ 33 11).trans rfl, (new_c w _ 33 12).trans rfl⟩
theorem C13.below {w w' : World} {b : Nat} {d : PD} (h : C13 w b d) (hb : Below w.heap.size w w') : C13 w' b d := by
  obtain ⟨hl, y0, y1, y2, y3, y4, y5, y6, y7, y8, y9, y10, y11, y12⟩ := h
  have e : ∀ j, w'.cell? ⟨b, j, none⟩ = w.cell? ⟨b, j, none⟩ := fun j => hb.cell (by exact hl)
  exact ⟨by have := hb.size; omega, (e _).trans y0, (e _).trans y1, (e _).trans y2, (e _).trans y3, (e _).trans y4, (e _).trans y5, (e _).trans y6, (e _).trans y7, (e _).trans y8, (e _).trans y9, (e _).trans y10, (e _).trans y11, (e _).trans y12⟩
def chR (d : PD) (l : Nat → List Int) (n : Int) : Int := if vrB l n 4 && vdB d then 0 else 1
def ErP (w : World) (x : Int) (e : Ending) (w' : World) : Prop := e = .returned (.int .i64 x) ∧ Below w.heap.size w w'
set_option maxRecDepth 20000 in
set_option maxHeartbeats 16000000 in
theorem chk_one (d : PD) (b cp : Nat) (l : Nat → List Int) (n : Int) (w : World) (h : Rl w d l) (hc : C13 w b d) (hp : d.p = -1) (hn : 0 ≤ n ∧ n ≤ 64) :
    Calls Try.prog 17 #[.slice (some ⟨b, 0, none⟩) 1 cp, .int .i64 n] w (ErP w (chR d l n)) := by
  have HC := Lib.hid hc
  have b1 : Below w.heap.size w (w.alloc (.cells d.cells 33)) := bal (Below.refl _ _) _
  have C1 := Lib.hid (c13_new w d)
  have R1 := Lib.hid (h.below b1)
  have B1 := Lib.hid b1
  have ER : Hid (chR d l n = if vrB l n 4 && vdB d then 0 else 1) := rfl
  obtain ⟨hl, y0, y1, y2, y3, y4, y5, y6, y7, y8, y9, y10, y11, y12⟩ := hc
  clear h b1
  have p1 : ¬ d.p < -1 := by omega
  have p2 : ¬ (0 : Int) ≤ d.p := by omega
  have HP := Lib.hid hp
  clear hp
  unfold PD.cells at C1 R1 B1
  generalize chR d l n = R at *
  go_enter Try.func17, Try.ntmps17
  go_wp2_with fail
  go_loopw [20] (fun vi wr => (vi = .int .i64 0 ∧ w = wr) ∨ (vi = .int .i64 1 ∧ R = 0 ∧ Below w.heap.size w wr)) (fun i _ => 1 - (intOf i).toNat)
  case atStart => exact .inl ⟨rfl, rfl⟩
  case round =>
    rcases hrel with ⟨rfl, rfl⟩ | ⟨rfl, hR, hB⟩
    · go_upto_region 6 with fail
      generalize w.alloc _ = w1 at *
      clear y0 y1 y2 y3 y4 y5 y6 y7 y8 y9 y10 y11 y12
      have P1 := vr_any d l n w1 R1.out
      obtain ⟨hl1, x0, x1, x2, x3, x4, x5, x6, x7, x8, x9, x10, x11, x12⟩ := C1.out
      generalize hZ : w.heap.size = Z at C1 hl1 x0 x1 x2 x3 x4 x5 x6 x7 x8 x9 x10 x11 x12
      cases hv : vrB l n 4 with
      | false =>
        rw [hv] at P1
        have F : Hid (R = 1) := by show _ = _; rw [ER.out, hv]; rfl
        clear hv
        go_wp2_with (go_at_call 39; refine P1.mono ?_; rintro e w5 ⟨rfl, hb5⟩)
        go_ret
        exact ⟨by rw [F.out]; rfl, bel2 B1.out hb5⟩
      | true =>
        rw [hv] at P1
        have ER2 : Hid (R = if vdB d then 0 else 1) := by show _ = _; rw [ER.out, hv]; rfl
        clear hv
        go_wp2_with fail
        refine P1.mono ?_
        clear P1 x0 x1 x2 x3 x4 x5 x6 x7 x8 x9 x10 x11 x12
        rintro e w2 ⟨rfl, hb2⟩
        obtain ⟨hl2, x0, x1, x2, x3, x4, x5, x6, x7, x8, x9, x10, x11, x12⟩ := C1.out.below hb2
        have P2 := vd_any d w2
        have HB2 := Lib.hid (bel2 B1.out hb2)
        clear hb2
        cases hv : vdB d with
        | false =>
          rw [hv] at P2
          have F : Hid (R = 1) := by show _ = _; rw [ER2.out, hv]; rfl
          clear hv
          go_wp2_with (go_at_call 40; refine P2.mono ?_; rintro e w5 ⟨rfl, hb5⟩)
          go_ret
          exact ⟨by rw [F.out]; rfl, bel2 HB2.out hb5⟩
        | true =>
          rw [hv] at P2
          have F : Hid (R = 0) := by show _ = _; rw [ER2.out, hv]; rfl
          clear hv
          go_wp2_with (go_at_call 40; refine P2.mono ?_; rintro e w5 ⟨rfl, hb5⟩; have HB5 := Lib.hid (bel2 HB2.out hb5); clear hb5)
          go_roundw
          case rel => exact .inr ⟨rfl, F.out, HB5.out⟩
          case measure => simp [intOf]
    · have F := Lib.hid hR
      have HB := Lib.hid hB
      clear hR hB
      have q : ¬ (1 : Int) < 1 := by omega
      have q2 : decide ((1 : Int) < 1) = false := by decide
      go_wp2
      go_ret
      exact ⟨by rw [F.out]; rfl, HB.out⟩
end Go.Proofs.Ytejfopjnokopeaa
