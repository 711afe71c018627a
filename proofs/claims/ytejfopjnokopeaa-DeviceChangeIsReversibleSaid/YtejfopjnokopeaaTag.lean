/- DeviceTargetAgrees: the walk. -/
import Derived.Test.YtejfopjnokopeaaSmw
import Derived.Test.YtejfopjnokopeaaAwk
namespace Go.Proofs.Ytejfopjnokopeaa
open Go.ChangeShapes Go.WideShapes Go.ChangeAt Go.RowKit Go.Deep Go.Joins

theorem PdW.below {w w' : World} {D : PD} (h : PdW w D) (hb : Below w.heap.size w w') : PdW w' D :=
  ⟨h.p, fun k hk => by
    obtain ⟨h1, h2, Z, h3⟩ := h.rails k hk
    exact ⟨h1, h2, Z, h3.below hb (Nat.le_refl _)⟩, h.e, h.wd, h.ws⟩
set_option maxRecDepth 20000 in
set_option maxHeartbeats 16000000 in
theorem tag_any (D : PD) (s : Int) (wake : Bool) (w : World) (hd : PdW w D) (_hs : (Lit.int .i64 s).wf = true) : Calls Try.prog 4 #[.agg D.cells, .int .i64 s, .bool wake] w (LawPost w) := by
  have b1 : Below w.heap.size w (w.alloc (.cells D.cells 33)) := bal (Below.refl _ _) _
  have C1 := Lib.hid (c13_new w D)
  have D1 := hd.below b1
  have B1 := Lib.hid b1
  have b2 : Below (w.alloc (.cells D.cells 33)).heap.size (w.alloc (.cells D.cells 33)) ((w.alloc (.cells D.cells 33)).alloc (.cells D.cells 33)) := bal (Below.refl _ _) _
  have C2 := Lib.hid (c13_new (w.alloc (.cells D.cells 33)) D)
  have hsz : (w.alloc (.cells D.cells 33)).heap.size = w.heap.size + 1 := by simp
  rw [hsz] at C2
  have P := some_one (w.heap.size + 1) 1 3 D ((w.alloc (.cells D.cells 33)).alloc (.cells D.cells 33)) C2.out (D1.below b2) (by decide) (by decide)
  have C1b := Lib.hid (C1.out.below b2)
  have B2 := Lib.hid (bel2 b1 b2)
  obtain ⟨hl1, x0, x1, x2, x3, x4, x5, x6, x7, x8, x9, x10, x11, x12⟩ := C1.out
  clear b1 b2 D1 hd C1 C2 hsz B1
  have TG := Lib.hid (fun s W => tgt_any D s wake W)
  have RT := Lib.hid (fun s W => rtgt_any D s wake W)
  have AW := Lib.hid (fun W => awake_any W)
  have MD := Lib.hid (fun W => mod_any s 6 (by decide) (by decide) W)
  have hq := (modOf_spec s 6 (by decide) (by decide)).2
  generalize modOf s 6 = q at *
  unfold PD.cells at P C1b B2 x0 x1 x2 x3 x4 x5 x6 x7 x8 x9 x10 x11 x12 ⊢
  go_enter Try.func4, Try.ntmps4
  go_wp2_with fail
  refine P.mono ?_
  clear P x0 x1 x2 x3 x4 x5 x6 x7 x8 x9 x10 x11 x12
  rintro e w2 ⟨Z, cc, E, l, rfl, CE, -, -, -, hb2⟩
  have B2 := Lib.hid (bel2 B2.out hb2)
  have C1 := Lib.hid (C1b.out.below hb2)
  have CE := Lib.hid CE
  clear C1b hb2
  have TE := Lib.hid (fun s W => tgt_any E s wake W)
  have RE := Lib.hid (fun s W => rtgt_any E s wake W)
  generalize w.heap.size = L at C1 hl1
  obtain ⟨hl2, x0, x1, x2, x3, x4, x5, x6, x7, x8, x9, x10, x11, x12⟩ := C1.out
  go_wp2_with fail
  refine (MD.out _).mono ?_
  rintro e w3 ⟨rfl, rfl⟩
  go_wp2_with fail
  refine (TG.out _ _).mono ?_
  clear x0 x1 x2 x3 x4 x5 x6 x7 x8 x9 x10 x11 x12
  rintro e w3 ⟨rfl, hb3⟩
  have B3 := Lib.hid (bel2 B2.out hb3)
  have C1 := Lib.hid (C1.out.below hb3)
  have CE := Lib.hid (CE.out.below hb3)
  clear B2 hb3
  obtain ⟨hl3, x0, x1, x2, x3, x4, x5, x6, x7, x8, x9, x10, x11, x12⟩ := C1.out
  go_wp2_with fail
  refine (RT.out _ _).mono ?_
  clear x0 x1 x2 x3 x4 x5 x6 x7 x8 x9 x10 x11 x12
  rintro e w4 ⟨rfl, hb4⟩
  have B4 := Lib.hid (bel2 B3.out hb4)
  have CE := Lib.hid (CE.out.below hb4)
  clear B3 hb4 C1
  obtain ⟨hl4, x0, x1, x2, x3, x4, x5, x6, x7, x8, x9, x10, x11, x12⟩ := CE.out
  go_wp2_with fail
  refine (TE.out _ _).mono ?_
  clear x0 x1 x2 x3 x4 x5 x6 x7 x8 x9 x10 x11 x12
  rintro e w5 ⟨rfl, hb5⟩
  have B5 := Lib.hid (bel2 B4.out hb5)
  have CE := Lib.hid (CE.out.below hb5)
  clear B4 hb5
  obtain ⟨hl5, x0, x1, x2, x3, x4, x5, x6, x7, x8, x9, x10, x11, x12⟩ := CE.out
  go_wp2_with fail
  refine (RE.out _ _).mono ?_
  clear x0 x1 x2 x3 x4 x5 x6 x7 x8 x9 x10 x11 x12
  rintro e w6 ⟨rfl, hb6⟩
  have B6 := Lib.hid (bel2 B5.out hb6)
  clear B5 hb6 CE TG RT TE RE MD
  generalize tgt D s wake = r1 at *
  generalize tgt E (q : Int) wake = r2 at *
  go_wp2_with (go_at_call 14; refine (AW.out _).mono ?_; rintro e w9 ⟨rfl, hb9⟩)
  go_ret
  exact ⟨rfl, bel2 B6.out hb9⟩
end Go.Proofs.Ytejfopjnokopeaa
