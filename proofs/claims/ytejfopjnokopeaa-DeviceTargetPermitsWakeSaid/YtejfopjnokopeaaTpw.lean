/- DeviceTargetPermitsWake: the walk. -/
import Derived.Test.YtejfopjnokopeaaTag
import Derived.Test.YtejfopjnokopeaaTkc
namespace Go.Proofs.Ytejfopjnokopeaa
open Go.ChangeShapes Go.WideShapes Go.ChangeAt Go.RowKit Go.Deep Go.Joins

set_option maxRecDepth 20000 in
set_option maxHeartbeats 16000000 in
theorem tpw_any (D : PD) (s : Int) (w : World) (hd : PdW w D) (_hs : (Lit.int .i64 s).wf = true) : Calls Try.prog 5 #[.agg D.cells, .int .i64 s] w (LawPost w) := by
  have b1 : Below w.heap.size w (w.alloc (.cells D.cells 33)) := bal (Below.refl _ _) _
  have C1 := Lib.hid (c13_new w D)
  have D1 := hd.below b1
  have b2 : Below (w.alloc (.cells D.cells 33)).heap.size (w.alloc (.cells D.cells 33)) ((w.alloc (.cells D.cells 33)).alloc (.cells D.cells 33)) := bal (Below.refl _ _) _
  have C2 := Lib.hid (c13_new (w.alloc (.cells D.cells 33)) D)
  have hsz : (w.alloc (.cells D.cells 33)).heap.size = w.heap.size + 1 := by simp
  rw [hsz] at C2
  have P := some_one (w.heap.size + 1) 1 3 D ((w.alloc (.cells D.cells 33)).alloc (.cells D.cells 33)) C2.out (D1.below b2) (by decide) (by decide)
  have B2 := Lib.hid (bel2 b1 b2)
  obtain ⟨hl1, x0, x1, x2, x3, x4, x5, x6, x7, x8, x9, x10, x11, x12⟩ := C1.out
  clear b1 b2 D1 hd C1 C2 hsz
  have AW := Lib.hid (fun W => awake_any W)
  have MD := Lib.hid (fun W => mod_any s 6 (by decide) (by decide) W)
  have hq := (modOf_spec s 6 (by decide) (by decide)).2
  generalize modOf s 6 = q at *
  unfold PD.cells at P B2 x0 x1 x2 x3 x4 x5 x6 x7 x8 x9 x10 x11 x12 ⊢
  go_enter Try.func5, Try.ntmps5
  go_wp2_with fail
  refine P.mono ?_
  clear P x0 x1 x2 x3 x4 x5 x6 x7 x8 x9 x10 x11 x12 hl1
  rintro e w2 ⟨Z, cc, E, l, rfl, CE, OE, -, -, hb2⟩
  have B2 := Lib.hid (bel2 B2.out hb2)
  have TG := Lib.hid (fun s b W => tgt_any E s b W)
  have UP : Hid (∀ r, q = r + 1 → E.e r ≤ E.e (r + 1)) := fun r h => OE.up r (by omega)
  clear hb2
  obtain ⟨hl2, x0, x1, x2, x3, x4, x5, x6, x7, x8, x9, x10, x11, x12⟩ := CE
  have KA : Hid (∀ a : Array Value, (w2.alloc (.cells a 33)).cell? ⟨Z, 0, none⟩ = some (.int .i64 E.p) ∧ (w2.alloc (.cells a 33)).cell? ⟨Z, 1, none⟩ = some (.slice (E.A 0) (E.n 0) (E.c 0)) ∧ (w2.alloc (.cells a 33)).cell? ⟨Z, 2, none⟩ = some (.slice (E.A 1) (E.n 1) (E.c 1)) ∧ (w2.alloc (.cells a 33)).cell? ⟨Z, 3, none⟩ = some (.slice (E.A 2) (E.n 2) (E.c 2)) ∧ (w2.alloc (.cells a 33)).cell? ⟨Z, 4, none⟩ = some (.slice (E.A 3) (E.n 3) (E.c 3)) ∧ (w2.alloc (.cells a 33)).cell? ⟨Z, 5, none⟩ = some (.int .i64 (E.e 0)) ∧ (w2.alloc (.cells a 33)).cell? ⟨Z, 6, none⟩ = some (.int .i64 (E.e 1)) ∧ (w2.alloc (.cells a 33)).cell? ⟨Z, 7, none⟩ = some (.int .i64 (E.e 2)) ∧ (w2.alloc (.cells a 33)).cell? ⟨Z, 8, none⟩ = some (.int .i64 (E.e 3)) ∧ (w2.alloc (.cells a 33)).cell? ⟨Z, 9, none⟩ = some (.int .i64 (E.e 4)) ∧ (w2.alloc (.cells a 33)).cell? ⟨Z, 10, none⟩ = some (.int .i64 (E.e 5)) ∧ (w2.alloc (.cells a 33)).cell? ⟨Z, 11, none⟩ = some (.int .i64 E.wd) ∧ (w2.alloc (.cells a 33)).cell? ⟨Z, 12, none⟩ = some (.int .i64 E.ws)) := fun a => by
    have b : Below w2.heap.size w2 (w2.alloc (.cells a 33)) := bal (Below.refl _ _) _
    exact ⟨(b.cell (by exact hl2)).trans x0, (b.cell (by exact hl2)).trans x1, (b.cell (by exact hl2)).trans x2, (b.cell (by exact hl2)).trans x3, (b.cell (by exact hl2)).trans x4, (b.cell (by exact hl2)).trans x5, (b.cell (by exact hl2)).trans x6, (b.cell (by exact hl2)).trans x7, (b.cell (by exact hl2)).trans x8, (b.cell (by exact hl2)).trans x9, (b.cell (by exact hl2)).trans x10, (b.cell (by exact hl2)).trans x11, (b.cell (by exact hl2)).trans x12⟩
  have C3 := Lib.hid (c13_new w2 E)
  have b3 : Below w2.heap.size w2 (w2.alloc (.cells E.cells 33)) := bal (Below.refl _ _) _
  have B3 := Lib.hid (bel2 B2.out b3).drew
  clear b3
  go_upto_region 2 with fail
  refine wp_region_noPanic ?_
  refine wp_region_held_drew (S := fun W => W.cell? ⟨Z, 0, none⟩ = some (.int .i64 E.p) ∧ W.cell? ⟨Z, 1, none⟩ = some (.slice (E.A 0) (E.n 0) (E.c 0)) ∧ W.cell? ⟨Z, 2, none⟩ = some (.slice (E.A 1) (E.n 1) (E.c 1)) ∧ W.cell? ⟨Z, 3, none⟩ = some (.slice (E.A 2) (E.n 2) (E.c 2)) ∧ W.cell? ⟨Z, 4, none⟩ = some (.slice (E.A 3) (E.n 3) (E.c 3)) ∧ W.cell? ⟨Z, 5, none⟩ = some (.int .i64 (E.e 0)) ∧ W.cell? ⟨Z, 6, none⟩ = some (.int .i64 (E.e 1)) ∧ W.cell? ⟨Z, 7, none⟩ = some (.int .i64 (E.e 2)) ∧ W.cell? ⟨Z, 8, none⟩ = some (.int .i64 (E.e 3)) ∧ W.cell? ⟨Z, 9, none⟩ = some (.int .i64 (E.e 4)) ∧ W.cell? ⟨Z, 10, none⟩ = some (.int .i64 (E.e 5)) ∧ W.cell? ⟨Z, 11, none⟩ = some (.int .i64 E.wd) ∧ W.cell? ⟨Z, 12, none⟩ = some (.int .i64 E.ws)) (by kernel_rfl) (⟨x0, x1, x2, x3, x4, x5, x6, x7, x8, x9, x10, x11, x12⟩) (fun hHeld => ?_)
  refine wpAnyH_take (i := 0) (v := ?va0) (by simp only [List.getElem?_toArray, List.getElem?_cons_zero]; rfl) (by kernel_rfl) (by kernel_rfl) (by kernel_rfl) (fun _ _ _ h => h) (Or.inl ⟨by rfl, ?ya0⟩) hHeld ?_
  case ya0 => (intro w hSw; go_simp <;> with_reducible rfl)
  simp only [Act.put, List.setIfInBounds_toArray, List.set_cons_zero, List.set_cons_succ]
  refine wpAnyH_take (i := 1) (v := ?va1) (by simp only [List.getElem?_toArray, List.getElem?_cons_succ, List.getElem?_cons_zero]; rfl) (by kernel_rfl) (by kernel_rfl) (by kernel_rfl) (fun _ _ _ h => h) (Or.inl ⟨by rfl, ?ya1⟩) hHeld ?_
  case ya1 => (intro w hSw; go_simp <;> with_reducible rfl)
  simp only [Act.put, List.setIfInBounds_toArray, List.set_cons_zero, List.set_cons_succ]
  refine wpAnyH_take (i := 2) (v := ?va2) (by simp only [List.getElem?_toArray, List.getElem?_cons_succ, List.getElem?_cons_zero]; rfl) (by kernel_rfl) (by kernel_rfl) (by kernel_rfl) (fun _ _ _ h => h) (Or.inl ⟨by rfl, ?ya2⟩) hHeld ?_
  case ya2 => (intro w hSw; go_simp <;> with_reducible rfl)
  simp only [Act.put, List.setIfInBounds_toArray, List.set_cons_zero, List.set_cons_succ]
  refine wpAnyH_take (i := 3) (v := ?va3) (by simp only [List.getElem?_toArray, List.getElem?_cons_succ, List.getElem?_cons_zero]; rfl) (by kernel_rfl) (by kernel_rfl) (by kernel_rfl) (fun _ _ _ h => h) (Or.inl ⟨by rfl, ?ya3⟩) hHeld ?_
  case ya3 => (intro w hSw; go_simp <;> with_reducible rfl)
  simp only [Act.put, List.setIfInBounds_toArray, List.set_cons_zero, List.set_cons_succ]
  refine wpAnyH_call (i := 4) (v := .int .i64 q) (f := 15) (args := #[.int .i64 s, .int .i64 6]) (by simp only [List.getElem?_toArray, List.getElem?_cons_succ, List.getElem?_cons_zero]; rfl) (by kernel_rfl) (by kernel_rfl) (by kernel_rfl) (fun _ _ _ h => h) (by rfl) ?ya4 ?ca4 hHeld ?_
  case ya4 => (intro w hSw; go_simp <;> (first | with_reducible rfl | decide))
  case ca4 => exact fun W _ => MD.out W
  simp only [Act.put, List.setIfInBounds_toArray, List.set_cons_zero, List.set_cons_succ]
  refine wpAnyH_ready (rs := [5]) (by kernel_rfl) (by simp) ?_
  refine AllReadyH.cons (by simp only [List.getElem?_toArray, List.getElem?_cons_succ, List.getElem?_cons_zero]; rfl) (fun K hK => ?_) ?_
  rotate_left
  · exact AllReadyH.nil
  go_simp
  refine hK.out _ _ ?_ (fun hHeld => ?_)
  · exact KA.out _
  clear hK K
  refine wpAnyH_ready (rs := [6]) (by kernel_rfl) (by simp) ?_
  refine AllReadyH.cons (by simp only [List.getElem?_toArray, List.getElem?_cons_succ, List.getElem?_cons_zero]; rfl) (fun K hK => ?_) ?_
  rotate_left
  · exact AllReadyH.nil
  go_simp
  refine hK.out _ _ ?_ (fun hHeld => ?_)
  · exact KA.out _
  clear hK K
  refine wpAnyH_take (i := 7) (v := ?va7) (by simp only [List.getElem?_toArray, List.getElem?_cons_succ, List.getElem?_cons_zero]; rfl) (by kernel_rfl) (by kernel_rfl) (by kernel_rfl) (fun _ _ _ h => h) (Or.inl ⟨by rfl, ?ya7⟩) hHeld ?_
  case ya7 => (intro w hSw; go_simp <;> with_reducible rfl)
  simp only [Act.put, List.setIfInBounds_toArray, List.set_cons_zero, List.set_cons_succ]
  refine wpAnyH_done (by kernel_rfl) ?_ _
  refine NoPanic.normal ?_
  clear KA x0 x1 x2 x3 x4 x5 x6 x7 x8 x9 x10 x11 x12 hHeld MD B2
  have C3 : Hid (C13 (w2.alloc (.cells E.cells 33)).drew w2.heap.size E) := C3.out
  unfold PD.cells at C3 B3
  go_upto_region 3 with fail
  generalize (w2.alloc (.cells #[.int .i64 E.p, .slice (E.A 0) (E.n 0) (E.c 0), .slice (E.A 1) (E.n 1) (E.c 1), .slice (E.A 2) (E.n 2) (E.c 2), .slice (E.A 3) (E.n 3) (E.c 3), .int .i64 (E.e 0), .int .i64 (E.e 1), .int .i64 (E.e 2), .int .i64 (E.e 3), .int .i64 (E.e 4), .int .i64 (E.e 5), .int .i64 E.wd, .int .i64 E.ws] 33)).drew = w3 at *
  generalize w2.heap.size = L at *
  have TT := Lib.hid (TG.out (q : Int) true)
  have TF := Lib.hid (TG.out (q : Int) false)
  have EF : Hid (tgt E (q : Int) false = (E.e q, 0)) := by show _ = _; unfold tgt; rw [if_neg (by omega)]; rfl
  have cE := Lib.hid (fun (W : World) (h : C13 W L E) => c13_E h hq)
  rw [EF.out] at TF
  obtain ⟨hl3, x0, x1, x2, x3, x4, x5, x6, x7, x8, x9, x10, x11, x12⟩ := C3.out
  have k6 : (q : Int) < 6 := by omega
  by_cases h2 : E.ws < (q : Int)
  · have ET : Hid (tgt E (q : Int) true = (0, 13)) := by show _ = _; unfold tgt; rw [if_neg (by omega), if_pos rfl, if_pos h2]
    rw [ET.out] at TT
    go_wp2_with fail
    refine (TT.out _).mono ?_
    rintro e w4 ⟨rfl, hb4⟩
    have B4 := Lib.hid (bel2 B3.out hb4)
    have C4 := Lib.hid (C3.out.below hb4)
    clear hb4 x0 x1 x2 x3 x4 x5 x6 x7 x8 x9 x10 x11 x12 B3 C3 TT
    obtain ⟨hl4, x0, x1, x2, x3, x4, x5, x6, x7, x8, x9, x10, x11, x12⟩ := C4.out
    go_wp2_with fail
    refine (TF.out _).mono ?_
    rintro e w5 ⟨rfl, hb5⟩
    have B4 := Lib.hid (bel2 B4.out hb5)
    have C4 := Lib.hid (C4.out.below hb5)
    clear hb5 x0 x1 x2 x3 x4 x5 x6 x7 x8 x9 x10 x11 x12 TF
    obtain ⟨hl5, x0, x1, x2, x3, x4, x5, x6, x7, x8, x9, x10, x11, x12⟩ := C4.out
    have xe := cE.out _ C4.out
    clear C4 cE EF ET
    generalize hx : E.e q = x at *
    have UP : Hid (∀ r, q = r + 1 → E.e r ≤ x) := fun r h => by have := UP.out r h; rw [← hx, h]; exact this
    clear hx
    have h2' : ¬ (q : Int) ≤ E.ws := by omega
    by_cases h0 : q = 0
    · have j0 : ¬ ((0 : Int) < (q : Int)) := by omega
      clear UP h0
      go_wp2_with (go_at_call 14; refine (AW.out _).mono ?_; rintro e w9 ⟨rfl, hb9⟩)
      go_ret
      exact ⟨rfl, bel2 B4.out hb9⟩
    · obtain ⟨r, rfl⟩ : ∃ r, q = r + 1 := ⟨q - 1, by omega⟩
      have j0 : (0 : Int) < ((r + 1 : Nat) : Int) := by omega
      have j1 : IntKind.i64.wrap (((r + 1 : Nat) : Int) - 1) = (r : Int) := by rw [show ((r + 1 : Nat) : Int) - 1 = (r : Int) by omega]; exact IntWalk.i64_in _ (by omega)
      have up : ¬ x < E.e r := by have := UP.out r rfl; omega
      have TR := Lib.hid (TG.out (r : Int) false)
      have ER : Hid (tgt E (r : Int) false = (E.e r, 0)) := by show _ = _; unfold tgt; rw [if_neg (by omega)]; rfl
      rw [ER.out] at TR
      generalize E.e r = y at *
      go_wp2_with fail
      refine (TR.out _).mono ?_
      rintro e w5 ⟨rfl, hb5⟩
      have B5 := Lib.hid (bel2 B4.out hb5)
      clear B4 hb5 x0 x1 x2 x3 x4 x5 x6 x7 x8 x9 x10 x11 x12
      go_wp2_with (go_at_call 14; refine (AW.out _).mono ?_; rintro e w9 ⟨rfl, hb9⟩)
      go_ret
      exact ⟨rfl, bel2 B5.out hb9⟩
  · have h2' : (q : Int) ≤ E.ws := by omega
    by_cases h3 : E.wd < E.e q
    · have ET : Hid (tgt E (q : Int) true = (E.wd, 0)) := by show _ = _; unfold tgt; rw [if_neg (by omega), if_pos rfl, if_neg h2]; show (min (E.e q) E.wd, 0) = _; rw [Int.min_eq_right (by omega)]
      rw [ET.out] at TT
      have h4 : ¬ E.e q < E.wd := by omega
      go_wp2_with fail
      refine (TT.out _).mono ?_
      rintro e w4 ⟨rfl, hb4⟩
      have B4 := Lib.hid (bel2 B3.out hb4)
      have C4 := Lib.hid (C3.out.below hb4)
      clear hb4 x0 x1 x2 x3 x4 x5 x6 x7 x8 x9 x10 x11 x12 B3 C3 TT
      obtain ⟨hl4, x0, x1, x2, x3, x4, x5, x6, x7, x8, x9, x10, x11, x12⟩ := C4.out
      go_wp2_with fail
      refine (TF.out _).mono ?_
      rintro e w5 ⟨rfl, hb5⟩
      have B4 := Lib.hid (bel2 B4.out hb5)
      have C4 := Lib.hid (C4.out.below hb5)
      clear hb5 x0 x1 x2 x3 x4 x5 x6 x7 x8 x9 x10 x11 x12 TF
      obtain ⟨hl5, x0, x1, x2, x3, x4, x5, x6, x7, x8, x9, x10, x11, x12⟩ := C4.out
      have xe := cE.out _ C4.out
      clear C4 cE EF ET
      generalize hx : E.e q = x at *
      have UP : Hid (∀ r, q = r + 1 → E.e r ≤ x) := fun r h => by have := UP.out r h; rw [← hx, h]; exact this
      clear hx
      by_cases h0 : q = 0
      · have j0 : ¬ ((0 : Int) < (q : Int)) := by omega
        clear UP h0
        go_wp2_with (go_at_call 14; refine (AW.out _).mono ?_; rintro e w9 ⟨rfl, hb9⟩)
        go_ret
        exact ⟨rfl, bel2 B4.out hb9⟩
      · obtain ⟨r, rfl⟩ : ∃ r, q = r + 1 := ⟨q - 1, by omega⟩
        have j0 : (0 : Int) < ((r + 1 : Nat) : Int) := by omega
        have j1 : IntKind.i64.wrap (((r + 1 : Nat) : Int) - 1) = (r : Int) := by rw [show ((r + 1 : Nat) : Int) - 1 = (r : Int) by omega]; exact IntWalk.i64_in _ (by omega)
        have up : ¬ x < E.e r := by have := UP.out r rfl; omega
        have TR := Lib.hid (TG.out (r : Int) false)
        have ER : Hid (tgt E (r : Int) false = (E.e r, 0)) := by show _ = _; unfold tgt; rw [if_neg (by omega)]; rfl
        rw [ER.out] at TR
        generalize E.e r = y at *
        go_wp2_with fail
        refine (TR.out _).mono ?_
        rintro e w5 ⟨rfl, hb5⟩
        have B5 := Lib.hid (bel2 B4.out hb5)
        clear B4 hb5 x0 x1 x2 x3 x4 x5 x6 x7 x8 x9 x10 x11 x12
        go_wp2_with (go_at_call 14; refine (AW.out _).mono ?_; rintro e w9 ⟨rfl, hb9⟩)
        go_ret
        exact ⟨rfl, bel2 B5.out hb9⟩
    · have ET : Hid (tgt E (q : Int) true = (E.e q, 0)) := by show _ = _; unfold tgt; rw [if_neg (by omega), if_pos rfl, if_neg h2]; show (min (E.e q) E.wd, 0) = _; rw [Int.min_eq_left (by omega)]
      rw [ET.out] at TT
      by_cases h5 : E.e q = E.wd
      · rw [h5] at h3 TT
        go_wp2_with fail
        refine (TT.out _).mono ?_
        rintro e w4 ⟨rfl, hb4⟩
        have B4 := Lib.hid (bel2 B3.out hb4)
        have C4 := Lib.hid (C3.out.below hb4)
        clear hb4 x0 x1 x2 x3 x4 x5 x6 x7 x8 x9 x10 x11 x12 B3 C3 TT
        obtain ⟨hl4, x0, x1, x2, x3, x4, x5, x6, x7, x8, x9, x10, x11, x12⟩ := C4.out
        go_wp2_with fail
        refine (TF.out _).mono ?_
        rintro e w5 ⟨rfl, hb5⟩
        have B4 := Lib.hid (bel2 B4.out hb5)
        have C4 := Lib.hid (C4.out.below hb5)
        clear hb5 x0 x1 x2 x3 x4 x5 x6 x7 x8 x9 x10 x11 x12 TF
        obtain ⟨hl5, x0, x1, x2, x3, x4, x5, x6, x7, x8, x9, x10, x11, x12⟩ := C4.out
        have xe := cE.out _ C4.out
        clear C4 cE EF ET
        generalize hx : E.e q = x at *
        have UP : Hid (∀ r, q = r + 1 → E.e r ≤ x) := fun r h => by have := UP.out r h; rw [← hx, h]; exact this
        clear hx
        by_cases h0 : q = 0
        · have j0 : ¬ ((0 : Int) < (q : Int)) := by omega
          clear UP h0
          go_wp2_with (go_at_call 14; refine (AW.out _).mono ?_; rintro e w9 ⟨rfl, hb9⟩)
          go_ret
          exact ⟨rfl, bel2 B4.out hb9⟩
        · obtain ⟨r, rfl⟩ : ∃ r, q = r + 1 := ⟨q - 1, by omega⟩
          have j0 : (0 : Int) < ((r + 1 : Nat) : Int) := by omega
          have j1 : IntKind.i64.wrap (((r + 1 : Nat) : Int) - 1) = (r : Int) := by rw [show ((r + 1 : Nat) : Int) - 1 = (r : Int) by omega]; exact IntWalk.i64_in _ (by omega)
          have up : ¬ x < E.e r := by have := UP.out r rfl; omega
          have TR := Lib.hid (TG.out (r : Int) false)
          have ER : Hid (tgt E (r : Int) false = (E.e r, 0)) := by show _ = _; unfold tgt; rw [if_neg (by omega)]; rfl
          rw [ER.out] at TR
          generalize E.e r = y at *
          go_wp2_with fail
          refine (TR.out _).mono ?_
          rintro e w5 ⟨rfl, hb5⟩
          have B5 := Lib.hid (bel2 B4.out hb5)
          clear B4 hb5 x0 x1 x2 x3 x4 x5 x6 x7 x8 x9 x10 x11 x12
          go_wp2_with (go_at_call 14; refine (AW.out _).mono ?_; rintro e w9 ⟨rfl, hb9⟩)
          go_ret
          exact ⟨rfl, bel2 B5.out hb9⟩
      · have h6 : (E.e q == E.wd) = false := beq_eq_false_iff_ne.2 h5
        go_wp2_with fail
        refine (TT.out _).mono ?_
        rintro e w4 ⟨rfl, hb4⟩
        have B4 := Lib.hid (bel2 B3.out hb4)
        have C4 := Lib.hid (C3.out.below hb4)
        clear hb4 x0 x1 x2 x3 x4 x5 x6 x7 x8 x9 x10 x11 x12 B3 C3 TT
        obtain ⟨hl4, x0, x1, x2, x3, x4, x5, x6, x7, x8, x9, x10, x11, x12⟩ := C4.out
        go_wp2_with fail
        refine (TF.out _).mono ?_
        rintro e w5 ⟨rfl, hb5⟩
        have B4 := Lib.hid (bel2 B4.out hb5)
        have C4 := Lib.hid (C4.out.below hb5)
        clear hb5 x0 x1 x2 x3 x4 x5 x6 x7 x8 x9 x10 x11 x12 TF
        obtain ⟨hl5, x0, x1, x2, x3, x4, x5, x6, x7, x8, x9, x10, x11, x12⟩ := C4.out
        have xe := cE.out _ C4.out
        clear C4 cE EF ET
        generalize hx : E.e q = x at *
        have UP : Hid (∀ r, q = r + 1 → E.e r ≤ x) := fun r h => by have := UP.out r h; rw [← hx, h]; exact this
        clear hx
        by_cases h0 : q = 0
        · have j0 : ¬ ((0 : Int) < (q : Int)) := by omega
          clear UP h0
          go_wp2_with (go_at_call 14; refine (AW.out _).mono ?_; rintro e w9 ⟨rfl, hb9⟩)
          go_ret
          exact ⟨rfl, bel2 B4.out hb9⟩
        · obtain ⟨r, rfl⟩ : ∃ r, q = r + 1 := ⟨q - 1, by omega⟩
          have j0 : (0 : Int) < ((r + 1 : Nat) : Int) := by omega
          have j1 : IntKind.i64.wrap (((r + 1 : Nat) : Int) - 1) = (r : Int) := by rw [show ((r + 1 : Nat) : Int) - 1 = (r : Int) by omega]; exact IntWalk.i64_in _ (by omega)
          have up : ¬ x < E.e r := by have := UP.out r rfl; omega
          have TR := Lib.hid (TG.out (r : Int) false)
          have ER : Hid (tgt E (r : Int) false = (E.e r, 0)) := by show _ = _; unfold tgt; rw [if_neg (by omega)]; rfl
          rw [ER.out] at TR
          generalize E.e r = y at *
          go_wp2_with fail
          refine (TR.out _).mono ?_
          rintro e w5 ⟨rfl, hb5⟩
          have B5 := Lib.hid (bel2 B4.out hb5)
          clear B4 hb5 x0 x1 x2 x3 x4 x5 x6 x7 x8 x9 x10 x11 x12
          go_wp2_with (go_at_call 14; refine (AW.out _).mono ?_; rintro e w9 ⟨rfl, hb9⟩)
          go_ret
          exact ⟨rfl, bel2 B5.out hb9⟩
end Go.Proofs.Ytejfopjnokopeaa
