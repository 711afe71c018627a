/- Function 16 for one device: the walk. -/
import Derived.Test.YtejfopjnokopeaaSom
import Derived.Test.YtejfopjnokopeaaTkc
namespace Go.Proofs.Ytejfopjnokopeaa
open Go.ChangeShapes Go.WideShapes Go.ChangeAt Go.RowKit Go.Deep Go.Joins

theorem so_fin {w w' : World} {D : PD} {l : Nat → List Int} {L : Nat} {v : Value} (h : w'.ownsRow w.heap.size 33 13 v 1 D.cells.toList) (hO : DvOK D 6) (hR : RIL L w' D l) (hb : Below w.heap.size w w') : SoP w (.returned v) w' := by
  obtain ⟨g, cap, rfl⟩ := own_form h (by decide)
  have hg : g < w'.heap.size := by
    rcases h.2 with ⟨h0, _⟩ | ⟨g', cap', cur, hv, _, hg, _⟩
    · cases h0
    · injection hv with h1
      injection h1 with h1
      injection h1 with h1
      subst h1
      exact blk_lt hg
  have C : ∀ j u, D.cells.toList[j]? = some u → w'.cell? ⟨g, j, none⟩ = some u := fun j u hu => by
    have := h.cells (g := g) rfl j u hu
    rwa [add_plain, Nat.zero_add] at this
  exact ⟨g, cap, D, l, rfl, ⟨hg, C 0 _ rfl, C 1 _ rfl, C 2 _ rfl, C 3 _ rfl, C 4 _ rfl, C 5 _ rfl, C 6 _ rfl, C 7 _ rfl, C 8 _ rfl, C 9 _ rfl, C 10 _ rfl, C 11 _ rfl, C 12 _ rfl⟩, hO, hR.rl, fun k hk => (hR k hk).2.1, hb⟩
set_option maxRecDepth 20000 in
set_option maxHeartbeats 16000000 in
theorem some_one (B cp n : Nat) (d : PD) (w : World) (hc : C13 w B d) (hd : PdW w d) (hn : 1 ≤ n) (hn2 : n ≤ 1000) : Calls Try.prog 16 #[.slice (some ⟨B, 0, none⟩) 1 cp, .int .i64 n] w (SoP w) := by
  have HC := Lib.hid hc
  have HD := Lib.hid hd
  have hn0 : (0 : Int) < (n : Int) := by omega
  clear hd
  obtain ⟨hl, y0, y1, y2, y3, y4, y5, y6, y7, y8, y9, y10, y11, y12⟩ := hc
  have M1 : ∀ W : World, Calls Try.prog 15 #[.int .i64 d.p, .int .i64 1] W fun e w' => e = .returned (.int .i64 (modOf d.p 1 : Nat)) ∧ W = w' := fun W => mod_any d.p 1 (by decide) (by decide) W
  have M5 : ∀ W : World, Calls Try.prog 15 #[.int .i64 d.ws, .int .i64 5] W fun e w' => e = .returned (.int .i64 (modOf d.ws 5 : Nat)) ∧ W = w' := fun W => mod_any d.ws 5 (by decide) (by decide) W
  have M4 : ∀ W : World, Calls Try.prog 15 #[.int .i64 d.wd, .int .i64 4] W fun e w' => e = .returned (.int .i64 (modOf d.wd 4 : Nat)) ∧ W = w' := fun W => mod_any d.wd 4 (by decide) (by decide) W
  have h1 : modOf d.p 1 = 0 := by have := (modOf_spec d.p 1 (by decide) (by decide)).2; omega
  have h5 := (modOf_spec d.ws 5 (by decide) (by decide)).2
  have h4 := (modOf_spec d.wd 4 (by decide) (by decide)).2
  rw [h1] at M1
  have M1 : ∀ W : World, Calls Try.prog 15 #[.int .i64 d.p, .int .i64 1] W fun e w' => e = .returned (.int .i64 0) ∧ W = w' := M1
  generalize modOf d.ws 5 = q5 at *
  generalize modOf d.wd 4 = q4 at *
  have H5 := Lib.hid h5
  have H4 := Lib.hid h4
  clear h1 h5 h4
  have b1 : Below w.heap.size w (w.alloc (.cells (PD.cells ⟨-1, fun _ => none, fun _ => 0, fun _ => 0, fun _ => 0, q4, q5⟩) 33)) := bal (Below.refl _ _) _
  have C1 := Lib.hid (c13_new w ⟨-1, fun _ => none, fun _ => 0, fun _ => 0, fun _ => 0, q4, q5⟩)
  have KA : Hid (∀ a : Array Value, (w.alloc (.cells a 33)).cell? ⟨B, 0, none⟩ = some (.int .i64 d.p) ∧ (w.alloc (.cells a 33)).cell? ⟨B, 11, none⟩ = some (.int .i64 d.wd) ∧ (w.alloc (.cells a 33)).cell? ⟨B, 12, none⟩ = some (.int .i64 d.ws)) := fun a => by
    have b : Below w.heap.size w (w.alloc (.cells a 33)) := bal (Below.refl _ _) _
    exact ⟨(b.cell (by exact hl)).trans y0, (b.cell (by exact hl)).trans y11, (b.cell (by exact hl)).trans y12⟩
  unfold PD.cells at b1 C1
  obtain ⟨i0, hi0, hzz⟩ := Option.map_eq_some_iff.1 info33
  simp only [Prod.mk.injEq] at hzz
  obtain ⟨hz0, hs0, hb0⟩ := hzz
  obtain ⟨z0, hz0, hz1⟩ := Option.map_eq_some_iff.1 hz0
  have HI := Lib.hid (And.intro hi0 (And.intro hz0 (And.intro hs0 (And.intro hb0 hz1))))
  clear hi0 hz0 hs0 hb0 hz1
  go_enter Try.func16, Try.ntmps16
  go_wp2_with fail
  go_loopw [6, 5] (fun vi vo wr => (vi = .int .i64 0 ∧ vo = .slice none 0 0 ∧ w = wr) ∨ (vi = .int .i64 1 ∧ SoP w (.returned vo) wr)) (fun i _ _ => 1 - (intOf i).toNat)
  case atStart => exact .inl ⟨rfl, rfl, rfl⟩
  case round =>
    rcases hrel with ⟨rfl, rfl, rfl⟩ | ⟨rfl, hS⟩
    · go_upto_region 5 with fail
      refine wp_region_noPanic ?_
      refine wp_region_held_drew (S := fun W => W.cell? ⟨B, 0, none⟩ = some (.int .i64 d.p) ∧ W.cell? ⟨B, 11, none⟩ = some (.int .i64 d.wd) ∧ W.cell? ⟨B, 12, none⟩ = some (.int .i64 d.ws)) (by kernel_rfl) (⟨y0, y11, y12⟩) (fun hHeld => ?_)
      refine wpAnyH_take (i := 0) (v := ?va0) (by simp only [List.getElem?_toArray, List.getElem?_cons_zero]; rfl) (by kernel_rfl) (by kernel_rfl) (by kernel_rfl) (fun _ _ _ h => h) (Or.inl ⟨by rfl, ?ya0⟩) hHeld ?_
      case ya0 => (intro w hSw; go_simp <;> with_reducible rfl)
      simp only [Act.put, List.setIfInBounds_toArray, List.set_cons_zero, List.set_cons_succ]
      refine wpAnyH_take (i := 1) (v := ?va1) (by simp only [List.getElem?_toArray, List.getElem?_cons_succ, List.getElem?_cons_zero]; rfl) (by kernel_rfl) (by kernel_rfl) (by kernel_rfl) (fun _ _ _ h => h) (Or.inl ⟨by rfl, ?ya1⟩) hHeld ?_
      case ya1 => (intro w hSw; go_simp <;> with_reducible rfl)
      simp only [Act.put, List.setIfInBounds_toArray, List.set_cons_zero, List.set_cons_succ]
      refine wpAnyH_take (i := 2) (v := ?va2) (by simp only [List.getElem?_toArray, List.getElem?_cons_succ, List.getElem?_cons_zero]; rfl) (by kernel_rfl) (by kernel_rfl) (by kernel_rfl) (fun _ _ _ h => h) (Or.inl ⟨by rfl, ?ya2⟩) hHeld ?_
      case ya2 => (intro w hSw; go_simp <;> with_reducible rfl)
      simp only [Act.put, List.setIfInBounds_toArray, List.set_cons_zero, List.set_cons_succ]
      refine wpAnyH_take (i := 3) (v := ?va3) (by simp only [List.getElem?_toArray, List.getElem?_cons_succ, List.getElem?_cons_zero]; rfl) (by kernel_rfl) (by kernel_rfl) (by kernel_rfl) (fun _ _ _ h => h) (Or.inl ⟨by rfl, ?ya3⟩) hHeld ?_
      case ya3 => (intro w hSw; go_simp <;> with_reducible rfl)
      simp only [Act.put, List.setIfInBounds_toArray, List.set_cons_zero, List.set_cons_succ]
      refine wpAnyH_take (i := 4) (v := ?va4) (by simp only [List.getElem?_toArray, List.getElem?_cons_succ, List.getElem?_cons_zero]; rfl) (by kernel_rfl) (by kernel_rfl) (by kernel_rfl) (fun _ _ _ h => h) (Or.inl ⟨by rfl, ?ya4⟩) hHeld ?_
      case ya4 => (intro w hSw; go_simp <;> with_reducible rfl)
      simp only [Act.put, List.setIfInBounds_toArray, List.set_cons_zero, List.set_cons_succ]
      refine wpAnyH_take (i := 5) (v := ?va5) (by simp only [List.getElem?_toArray, List.getElem?_cons_succ, List.getElem?_cons_zero]; rfl) (by kernel_rfl) (by kernel_rfl) (by kernel_rfl) (fun _ _ _ h => h) (Or.inl ⟨by rfl, ?ya5⟩) hHeld ?_
      case ya5 => (intro w hSw; go_simp <;> with_reducible rfl)
      simp only [Act.put, List.setIfInBounds_toArray, List.set_cons_zero, List.set_cons_succ]
      refine wpAnyH_take (i := 6) (v := ?va6) (by simp only [List.getElem?_toArray, List.getElem?_cons_succ, List.getElem?_cons_zero]; rfl) (by kernel_rfl) (by kernel_rfl) (by kernel_rfl) (fun _ _ _ h => h) (Or.inl ⟨by rfl, ?ya6⟩) hHeld ?_
      case ya6 => (intro w hSw; go_simp <;> with_reducible rfl)
      simp only [Act.put, List.setIfInBounds_toArray, List.set_cons_zero, List.set_cons_succ]
      refine wpAnyH_call (i := 7) (v := .int .i64 0) (f := 15) (args := #[.int .i64 d.p, .int .i64 1]) (by simp only [List.getElem?_toArray, List.getElem?_cons_succ, List.getElem?_cons_zero]; rfl) (by kernel_rfl) (by kernel_rfl) (by kernel_rfl) (fun _ _ _ h => h) (by rfl) ?ya7 ?ca7 hHeld ?_
      case ya7 => (intro w hSw; go_simp <;> (first | with_reducible rfl | decide))
      case ca7 => exact fun W _ => M1 W
      simp only [Act.put, List.setIfInBounds_toArray, List.set_cons_zero, List.set_cons_succ]
      refine wpAnyH_take (i := 8) (v := ?va8) (by simp only [List.getElem?_toArray, List.getElem?_cons_succ, List.getElem?_cons_zero]; rfl) (by kernel_rfl) (by kernel_rfl) (by kernel_rfl) (fun _ _ _ h => h) (Or.inl ⟨by rfl, ?ya8⟩) hHeld ?_
      case ya8 => (intro w hSw; go_simp <;> with_reducible rfl)
      simp only [Act.put, List.setIfInBounds_toArray, List.set_cons_zero, List.set_cons_succ]
      refine wpAnyH_take (i := 9) (v := ?va9) (by simp only [List.getElem?_toArray, List.getElem?_cons_succ, List.getElem?_cons_zero]; rfl) (by kernel_rfl) (by kernel_rfl) (by kernel_rfl) (fun _ _ _ h => h) (Or.inl ⟨by rfl, ?ya9⟩) hHeld ?_
      case ya9 => (intro w hSw; go_simp <;> with_reducible rfl)
      simp only [Act.put, List.setIfInBounds_toArray, List.set_cons_zero, List.set_cons_succ]
      refine wpAnyH_take (i := 10) (v := ?va10) (by simp only [List.getElem?_toArray, List.getElem?_cons_succ, List.getElem?_cons_zero]; rfl) (by kernel_rfl) (by kernel_rfl) (by kernel_rfl) (fun _ _ _ h => h) (Or.inl ⟨by rfl, ?ya10⟩) hHeld ?_
      case ya10 => (intro w hSw; go_simp <;> with_reducible rfl)
      simp only [Act.put, List.setIfInBounds_toArray, List.set_cons_zero, List.set_cons_succ]
      refine wpAnyH_take (i := 11) (v := ?va11) (by simp only [List.getElem?_toArray, List.getElem?_cons_succ, List.getElem?_cons_zero]; rfl) (by kernel_rfl) (by kernel_rfl) (by kernel_rfl) (fun _ _ _ h => h) (Or.inl ⟨by rfl, ?ya11⟩) hHeld ?_
      case ya11 => (intro w hSw; go_simp <;> with_reducible rfl)
      simp only [Act.put, List.setIfInBounds_toArray, List.set_cons_zero, List.set_cons_succ]
      refine wpAnyH_take (i := 12) (v := ?va12) (by simp only [List.getElem?_toArray, List.getElem?_cons_succ, List.getElem?_cons_zero]; rfl) (by kernel_rfl) (by kernel_rfl) (by kernel_rfl) (fun _ _ _ h => h) (Or.inl ⟨by rfl, ?ya12⟩) hHeld ?_
      case ya12 => (intro w hSw; go_simp <;> with_reducible rfl)
      simp only [Act.put, List.setIfInBounds_toArray, List.set_cons_zero, List.set_cons_succ]
      refine wpAnyH_take (i := 13) (v := ?va13) (by simp only [List.getElem?_toArray, List.getElem?_cons_succ, List.getElem?_cons_zero]; rfl) (by kernel_rfl) (by kernel_rfl) (by kernel_rfl) (fun _ _ _ h => h) (Or.inl ⟨by rfl, ?ya13⟩) hHeld ?_
      case ya13 => (intro w hSw; go_simp <;> with_reducible rfl)
      simp only [Act.put, List.setIfInBounds_toArray, List.set_cons_zero, List.set_cons_succ]
      refine wpAnyH_call (i := 14) (v := .int .i64 q5) (f := 15) (args := #[.int .i64 d.ws, .int .i64 5]) (by simp only [List.getElem?_toArray, List.getElem?_cons_succ, List.getElem?_cons_zero]; rfl) (by kernel_rfl) (by kernel_rfl) (by kernel_rfl) (fun _ _ _ h => h) (by rfl) ?ya14 ?ca14 hHeld ?_
      case ya14 => (intro w hSw; go_simp <;> (first | with_reducible rfl | decide))
      case ca14 => exact fun W _ => M5 W
      simp only [Act.put, List.setIfInBounds_toArray, List.set_cons_zero, List.set_cons_succ]
      refine wpAnyH_take (i := 15) (v := ?va15) (by simp only [List.getElem?_toArray, List.getElem?_cons_succ, List.getElem?_cons_zero]; rfl) (by kernel_rfl) (by kernel_rfl) (by kernel_rfl) (fun _ _ _ h => h) (Or.inl ⟨by rfl, ?ya15⟩) hHeld ?_
      case ya15 => (intro w hSw; go_simp <;> with_reducible rfl)
      simp only [Act.put, List.setIfInBounds_toArray, List.set_cons_zero, List.set_cons_succ]
      refine wpAnyH_take (i := 16) (v := ?va16) (by simp only [List.getElem?_toArray, List.getElem?_cons_succ, List.getElem?_cons_zero]; rfl) (by kernel_rfl) (by kernel_rfl) (by kernel_rfl) (fun _ _ _ h => h) (Or.inl ⟨by rfl, ?ya16⟩) hHeld ?_
      case ya16 => (intro w hSw; go_simp <;> with_reducible rfl)
      simp only [Act.put, List.setIfInBounds_toArray, List.set_cons_zero, List.set_cons_succ]
      refine wpAnyH_take (i := 17) (v := ?va17) (by simp only [List.getElem?_toArray, List.getElem?_cons_succ, List.getElem?_cons_zero]; rfl) (by kernel_rfl) (by kernel_rfl) (by kernel_rfl) (fun _ _ _ h => h) (Or.inl ⟨by rfl, ?ya17⟩) hHeld ?_
      case ya17 => (intro w hSw; go_simp <;> with_reducible rfl)
      simp only [Act.put, List.setIfInBounds_toArray, List.set_cons_zero, List.set_cons_succ]
      refine wpAnyH_take (i := 18) (v := ?va18) (by simp only [List.getElem?_toArray, List.getElem?_cons_succ, List.getElem?_cons_zero]; rfl) (by kernel_rfl) (by kernel_rfl) (by kernel_rfl) (fun _ _ _ h => h) (Or.inl ⟨by rfl, ?ya18⟩) hHeld ?_
      case ya18 => (intro w hSw; go_simp <;> with_reducible rfl)
      simp only [Act.put, List.setIfInBounds_toArray, List.set_cons_zero, List.set_cons_succ]
      refine wpAnyH_take (i := 19) (v := ?va19) (by simp only [List.getElem?_toArray, List.getElem?_cons_succ, List.getElem?_cons_zero]; rfl) (by kernel_rfl) (by kernel_rfl) (by kernel_rfl) (fun _ _ _ h => h) (Or.inl ⟨by rfl, ?ya19⟩) hHeld ?_
      case ya19 => (intro w hSw; go_simp <;> with_reducible rfl)
      simp only [Act.put, List.setIfInBounds_toArray, List.set_cons_zero, List.set_cons_succ]
      refine wpAnyH_call (i := 20) (v := .int .i64 q4) (f := 15) (args := #[.int .i64 d.wd, .int .i64 4]) (by simp only [List.getElem?_toArray, List.getElem?_cons_succ, List.getElem?_cons_zero]; rfl) (by kernel_rfl) (by kernel_rfl) (by kernel_rfl) (fun _ _ _ h => h) (by rfl) ?ya20 ?ca20 hHeld ?_
      case ya20 => (intro w hSw; go_simp <;> (first | with_reducible rfl | decide))
      case ca20 => exact fun W _ => M4 W
      simp only [Act.put, List.setIfInBounds_toArray, List.set_cons_zero, List.set_cons_succ]
      refine wpAnyH_take (i := 21) (v := ?va21) (by simp only [List.getElem?_toArray, List.getElem?_cons_succ, List.getElem?_cons_zero]; rfl) (by kernel_rfl) (by kernel_rfl) (by kernel_rfl) (fun _ _ _ h => h) (Or.inl ⟨by rfl, ?ya21⟩) hHeld ?_
      case ya21 => (intro w hSw; go_simp <;> with_reducible rfl)
      simp only [Act.put, List.setIfInBounds_toArray, List.set_cons_zero, List.set_cons_succ]
      refine wpAnyH_ready (rs := [22]) (by kernel_rfl) (by simp) ?_
      refine AllReadyH.cons (by simp only [List.getElem?_toArray, List.getElem?_cons_succ, List.getElem?_cons_zero]; rfl) (fun K hK => ?_) ?_
      rotate_left
      · exact AllReadyH.nil
      go_simp
      refine hK.out _ _ ?_ (fun hHeld => ?_)
      · exact KA.out _
      clear hK K
      refine wpAnyH_ready (rs := [23]) (by kernel_rfl) (by simp) ?_
      refine AllReadyH.cons (by simp only [List.getElem?_toArray, List.getElem?_cons_succ, List.getElem?_cons_zero]; rfl) (fun K hK => ?_) ?_
      rotate_left
      · exact AllReadyH.nil
      go_simp
      refine hK.out _ _ ?_ (fun hHeld => ?_)
      · exact KA.out _
      clear hK K
      refine wpAnyH_done (by kernel_rfl) ?_ _
      refine NoPanic.normal ?_
      have b1 := b1.drew
      have C1 : Hid (C13 (w.alloc (.cells #[.int .i64 (-1), .slice none 0 0, .slice none 0 0, .slice none 0 0, .slice none 0 0, .int .i64 0, .int .i64 0, .int .i64 0, .int .i64 0, .int .i64 0, .int .i64 0, .int .i64 q4, .int .i64 q5] 33)).drew w.heap.size ⟨-1, fun _ => none, fun _ => 0, fun _ => 0, fun _ => 0, q4, q5⟩) := C1.out
      have hLw : Hid (w.heap.size ≤ w.heap.size) := Nat.le_refl _
      have hBL : B ≠ w.heap.size := by omega
      have B1 := Lib.hid b1
      clear b1 y0 y1 y2 y3 y4 y5 y6 y7 y8 y9 y10 y11 y12 M1 M5 M4 hHeld KA
      rw [show IntKind.i64.wrap (-1) = -1 by decide]
      go_upto_region 6 with fail
      have O1 : Hid (DvOK ⟨-1, fun _ => none, fun _ => 0, fun _ => 0, fun _ => 0, q4, q5⟩ 1) := ⟨rfl, ⟨by simp, by have := H4.out; simp; omega⟩, ⟨by simp, by have := H5.out; simp; omega⟩, rfl, fun k => by simp, fun k hk => by omega⟩
      have R1 : Hid (RIL (w.heap.size + 1) (w.alloc (.cells #[.int .i64 (-1), .slice none 0 0, .slice none 0 0, .slice none 0 0, .slice none 0 0, .int .i64 0, .int .i64 0, .int .i64 0, .int .i64 0, .int .i64 0, .int .i64 0, .int .i64 q4, .int .i64 q5] 33)).drew ⟨-1, fun _ => none, fun _ => 0, fun _ => 0, fun _ => 0, q4, q5⟩ (fun _ => [])) := fun j hj => ⟨rfl, by simp, .inl rfl⟩
      have F1 : Hid (∀ j, (w.alloc (.cells #[.int .i64 (-1), .slice none 0 0, .slice none 0 0, .slice none 0 0, .slice none 0 0, .int .i64 0, .int .i64 0, .int .i64 0, .int .i64 0, .int .i64 0, .int .i64 0, .int .i64 q4, .int .i64 q5] 33)).drew.frozen? ⟨w.heap.size, j, none⟩ = false) := fun j => World.frozen?_alloc_new _ _ _ j
      generalize (w.alloc (.cells #[.int .i64 (-1), .slice none 0 0, .slice none 0 0, .slice none 0 0, .slice none 0 0, .int .i64 0, .int .i64 0, .int .i64 0, .int .i64 0, .int .i64 0, .int .i64 0, .int .i64 q4, .int .i64 q5] 33)).drew = w1 at *
      generalize (⟨-1, fun _ => none, fun _ => 0, fun _ => 0, fun _ => 0, q4, q5⟩ : PD) = D1 at *
      generalize hL : w.heap.size = L at C1 hLw hBL R1 F1
      go_wp2_with fail
      go_loopw [8] (fun v8 wr => ∃ (k : Nat) (D : PD) (l : Nat → List Int), v8 = .int .i64 k ∧ k ≤ 4 ∧ C13 wr L D ∧ (∀ j, wr.frozen? ⟨L, j, none⟩ = false) ∧ DvOK D 1 ∧ RIL (L + 1) wr D l ∧ Below w.heap.size w wr) (fun i _ => 4 - (intOf i).toNat)
      case atStart => exact ⟨0, D1, fun _ => [], rfl, by omega, C1.out, F1.out, O1.out, R1.out, B1.out⟩
      case round =>
        clear C1 O1 R1 B1 F1
        obtain ⟨k, D, l, rfl, hk, hC, hF, hO, hR, hB⟩ := hrel
        by_cases hlt : k < 4
        · have cB := (hB.cell (p := ⟨B, 1 + k, none⟩) (by exact hl)).trans (c13_A HC.out hlt)
          have cL := c13_A hC hlt
          have hLr := hC.1
          obtain ⟨-, -, Z, hNs⟩ := HD.out.rails k hlt
          obtain ⟨l0, hl0, hIl⟩ := ns_il hNs
          have P := lasc_any (d.A k) (d.c k) n l0 wr (hIl.below hB) hn (by omega)
          rw [hl0] at P
          have hk4 : (k : Int) < 4 := by omega
          have hBr : B < wr.heap.size := by have := hB.size; omega
          have HC1 := Lib.hid hC
          have HF := Lib.hid hF
          have HO := Lib.hid hO
          have HR := Lib.hid hR
          have HB := Lib.hid hB
          clear hC hO hR hB hNs hIl hl0 hF
          generalize d.A k = A0 at *
          generalize d.n k = n0 at *
          generalize d.c k = c0 at *
          go_wp2_with fail
          refine P.mono ?_
          clear P
          rintro e w2 ⟨X, cc, M, rfl, hM, hOw, hb2⟩
          have cL2 := (hb2.cell (p := ⟨L, 1 + k, none⟩) (by exact hLr)).trans cL
          have hf2 : w2.frozen? ⟨L, 1 + k, none⟩ = false := (hb2.frozen (p := ⟨L, 1 + k, none⟩) (by exact hLr)).trans (HF.out _)
          have N5 : Hid (∀ j, (w2.setCell ⟨L, 1 + k, none⟩ (.slice X M.length cc)).frozen? ⟨L, j, none⟩ = false) := fun j => (World.frozen?_setCell _ _ _ _).trans ((hb2.frozen (p := ⟨L, j, none⟩) (by exact hLr)).trans (HF.out _))
          have N1 := Lib.hid (c13_setA (HC1.out.below hb2) hlt X M.length cc)
          have N2 := Lib.hid (((HR.out.below hb2).setA (k := k) cc hM ((own_IL hOw rfl).mono (by omega))).set (1 + k) (.slice X M.length cc))
          have N3 := Lib.hid (bel_only (bel2 HB.out hb2) (g_store w2 L (1 + k) (.slice X M.length cc)) (by omega))
          have N4 := Lib.hid (HO.out.setA (k := k) X M.length cc)
          clear hOw hb2 cB cL HC1 HR HB HO HF
          go_wp2_with fail
          go_roundw
          case rel => exact ⟨k + 1, _, _, by go_num, by omega, N1.out, N5.out, N4.out, N2.out, N3.out⟩
          case measure => simp [intOf]; omega
        · have hk4 : ¬ (k : Int) < 4 := by omega
          have HC1 := Lib.hid hC
          have HF := Lib.hid hF
          have HO := Lib.hid hO
          have HR := Lib.hid hR
          have HB := Lib.hid hB
          clear hC hO hR hB hF
          generalize wr = w2 at *
          go_wp2_with fail
          go_loopw [9] (fun v9 wr => ∃ (r : Nat) (D : PD), v9 = .int .i64 ((r : Int) + 1) ∧ r ≤ 5 ∧ C13 wr L D ∧ (∀ j, wr.frozen? ⟨L, j, none⟩ = false) ∧ DvOK D (r + 1) ∧ RIL (L + 1) wr D l ∧ Below w.heap.size w wr) (fun i _ => 6 - (intOf i).toNat)
          case atStart => exact ⟨0, D, rfl, by omega, HC1.out, HF.out, HO.out, HR.out, HB.out⟩
          case round =>
            clear HC1 HO HR HB HF
            obtain ⟨r, D, rfl, hr, hC, hF, hO, hR, hB⟩ := hrel
            have hLr := hC.1
            by_cases hlt : r < 5
            · have cL := c13_E hC (k := r) (by omega)
              have cL2 := c13_E hC (k := r + 1) (by omega)
              have cB := (hB.cell (p := ⟨B, 5 + (r + 1), none⟩) (by exact hl)).trans (c13_E HC.out (k := r + 1) (by omega))
              have MY := mod_any (d.e (r + 1)) 5 (by decide) (by decide)
              have hq := (modOf_spec (d.e (r + 1)) 5 (by decide) (by decide)).2
              have hlo := hO.lo r
              have hBr : B < wr.heap.size := by have := hB.size; omega
              have j1 : (r : Int) + 1 < 6 := by omega
              have j2 : (0 : Int) ≤ (r : Int) + 1 := by omega
              have j3 : ((r : Int) + 1).toNat = r + 1 := by omega
              have j4 : IntKind.i64.wrap (r : Int) = r := IntWalk.i64_in _ (by omega)
              have j5 : (r : Int) < 6 := by omega
              have hfz := hF (5 + (r + 1))
              have N5 : Hid (∀ x j, (wr.setCell ⟨L, 5 + (r + 1), none⟩ (.int .i64 x)).frozen? ⟨L, j, none⟩ = false) := fun x j => (World.frozen?_setCell _ _ _ _).trans (hF _)
              have N1 := Lib.hid (fun x => c13_setE hC (k := r + 1) (by omega) x)
              have N2 := Lib.hid (fun x => hR.set (5 + (r + 1)) (.int .i64 x))
              have N3 := Lib.hid (fun x => bel_only hB (g_store wr L (5 + (r + 1)) (.int .i64 x)) (by omega))
              have N4 := Lib.hid (fun x => hO.setE x)
              clear hC hO hR hB hF
              generalize d.e (r + 1) = y at *
              generalize D.e r = x at *
              generalize modOf y 5 = q at *
              have HQ := Lib.hid hq
              have HLO := Lib.hid hlo
              clear hq hlo
              by_cases hxq : x < (q : Int)
              · go_upto_region 13 with fail
                refine wp_region_noPanic ?_
                refine wp_region_held_drew (S := fun W => W.cell? ⟨L, 5 + r, none⟩ = some (.int .i64 x) ∧ W.cell? ⟨B, 5 + (r + 1), none⟩ = some (.int .i64 y)) (by kernel_rfl) (⟨cL, cB⟩) (fun hHeld => ?_)
                refine wpAnyH_take (i := 0) (v := ?vb0) (by simp only [List.getElem?_toArray, List.getElem?_cons_zero]; rfl) (by kernel_rfl) (by kernel_rfl) (by kernel_rfl) (fun _ _ _ h => h) (Or.inl ⟨by rfl, ?yb0⟩) hHeld ?_
                case yb0 => (intro w hSw; go_simp <;> with_reducible rfl)
                simp only [Act.put, List.setIfInBounds_toArray, List.set_cons_zero, List.set_cons_succ]
                refine wpAnyH_take (i := 1) (v := ?vb1) (by simp only [List.getElem?_toArray, List.getElem?_cons_succ, List.getElem?_cons_zero]; rfl) (by kernel_rfl) (by kernel_rfl) (by kernel_rfl) (fun _ _ _ h => h) (Or.inl ⟨by rfl, ?yb1⟩) hHeld ?_
                case yb1 => (intro w hSw; go_simp <;> with_reducible rfl)
                simp only [Act.put, List.setIfInBounds_toArray, List.set_cons_zero, List.set_cons_succ]
                refine wpAnyH_take (i := 2) (v := ?vb2) (by simp only [List.getElem?_toArray, List.getElem?_cons_succ, List.getElem?_cons_zero]; rfl) (by kernel_rfl) (by kernel_rfl) (by kernel_rfl) (fun _ _ _ h => h) (Or.inl ⟨by rfl, ?yb2⟩) hHeld ?_
                case yb2 => (intro w hSw; go_simp <;> with_reducible rfl)
                simp only [Act.put, List.setIfInBounds_toArray, List.set_cons_zero, List.set_cons_succ]
                refine wpAnyH_take (i := 3) (v := ?vb3) (by simp only [List.getElem?_toArray, List.getElem?_cons_succ, List.getElem?_cons_zero]; rfl) (by kernel_rfl) (by kernel_rfl) (by kernel_rfl) (fun _ _ _ h => h) (Or.inl ⟨by rfl, ?yb3⟩) hHeld ?_
                case yb3 => (intro w hSw; go_simp <;> with_reducible rfl)
                simp only [Act.put, List.setIfInBounds_toArray, List.set_cons_zero, List.set_cons_succ]
                refine wpAnyH_take (i := 4) (v := ?vb4) (by simp only [List.getElem?_toArray, List.getElem?_cons_succ, List.getElem?_cons_zero]; rfl) (by kernel_rfl) (by kernel_rfl) (by kernel_rfl) (fun _ _ _ h => h) (Or.inl ⟨by rfl, ?yb4⟩) hHeld ?_
                case yb4 => (intro w hSw; go_simp <;> with_reducible rfl)
                simp only [Act.put, List.setIfInBounds_toArray, List.set_cons_zero, List.set_cons_succ]
                refine wpAnyH_take (i := 5) (v := ?vb5) (by simp only [List.getElem?_toArray, List.getElem?_cons_succ, List.getElem?_cons_zero]; rfl) (by kernel_rfl) (by kernel_rfl) (by kernel_rfl) (fun _ _ _ h => h) (Or.inl ⟨by rfl, ?yb5⟩) hHeld ?_
                case yb5 => (intro w hSw; go_simp <;> with_reducible rfl)
                simp only [Act.put, List.setIfInBounds_toArray, List.set_cons_zero, List.set_cons_succ]
                refine wpAnyH_take (i := 6) (v := ?vb6) (by simp only [List.getElem?_toArray, List.getElem?_cons_succ, List.getElem?_cons_zero]; rfl) (by kernel_rfl) (by kernel_rfl) (by kernel_rfl) (fun _ _ _ h => h) (Or.inl ⟨by rfl, ?yb6⟩) hHeld ?_
                case yb6 => (intro w hSw; go_simp <;> with_reducible rfl)
                simp only [Act.put, List.setIfInBounds_toArray, List.set_cons_zero, List.set_cons_succ]
                refine wpAnyH_take (i := 7) (v := ?vb7) (by simp only [List.getElem?_toArray, List.getElem?_cons_succ, List.getElem?_cons_zero]; rfl) (by kernel_rfl) (by kernel_rfl) (by kernel_rfl) (fun _ _ _ h => h) (Or.inl ⟨by rfl, ?yb7⟩) hHeld ?_
                case yb7 => (intro w hSw; go_simp <;> with_reducible rfl)
                simp only [Act.put, List.setIfInBounds_toArray, List.set_cons_zero, List.set_cons_succ]
                refine wpAnyH_take (i := 8) (v := ?vb8) (by simp only [List.getElem?_toArray, List.getElem?_cons_succ, List.getElem?_cons_zero]; rfl) (by kernel_rfl) (by kernel_rfl) (by kernel_rfl) (fun _ _ _ h => h) (Or.inl ⟨by rfl, ?yb8⟩) hHeld ?_
                case yb8 => (intro w hSw; go_simp <;> with_reducible rfl)
                simp only [Act.put, List.setIfInBounds_toArray, List.set_cons_zero, List.set_cons_succ]
                refine wpAnyH_take (i := 9) (v := ?vb9) (by simp only [List.getElem?_toArray, List.getElem?_cons_succ, List.getElem?_cons_zero]; rfl) (by kernel_rfl) (by kernel_rfl) (by kernel_rfl) (fun _ _ _ h => h) (Or.inl ⟨by rfl, ?yb9⟩) hHeld ?_
                case yb9 => (intro w hSw; go_simp <;> with_reducible rfl)
                simp only [Act.put, List.setIfInBounds_toArray, List.set_cons_zero, List.set_cons_succ]
                refine wpAnyH_take (i := 10) (v := ?vb10) (by simp only [List.getElem?_toArray, List.getElem?_cons_succ, List.getElem?_cons_zero]; rfl) (by kernel_rfl) (by kernel_rfl) (by kernel_rfl) (fun _ _ _ h => h) (Or.inl ⟨by rfl, ?yb10⟩) hHeld ?_
                case yb10 => (intro w hSw; go_simp <;> with_reducible rfl)
                simp only [Act.put, List.setIfInBounds_toArray, List.set_cons_zero, List.set_cons_succ]
                refine wpAnyH_take (i := 11) (v := ?vb11) (by simp only [List.getElem?_toArray, List.getElem?_cons_succ, List.getElem?_cons_zero]; rfl) (by kernel_rfl) (by kernel_rfl) (by kernel_rfl) (fun _ _ _ h => h) (Or.inl ⟨by rfl, ?yb11⟩) hHeld ?_
                case yb11 => (intro w hSw; go_simp <;> with_reducible rfl)
                simp only [Act.put, List.setIfInBounds_toArray, List.set_cons_zero, List.set_cons_succ]
                refine wpAnyH_take (i := 12) (v := ?vb12) (by simp only [List.getElem?_toArray, List.getElem?_cons_succ, List.getElem?_cons_zero]; rfl) (by kernel_rfl) (by kernel_rfl) (by kernel_rfl) (fun _ _ _ h => h) (Or.inl ⟨by rfl, ?yb12⟩) hHeld ?_
                case yb12 => (intro w hSw; go_simp <;> with_reducible rfl)
                simp only [Act.put, List.setIfInBounds_toArray, List.set_cons_zero, List.set_cons_succ]
                refine wpAnyH_call (i := 13) (v := .int .i64 q) (f := 15) (args := #[.int .i64 y, .int .i64 5]) (by simp only [List.getElem?_toArray, List.getElem?_cons_succ, List.getElem?_cons_zero]; rfl) (by kernel_rfl) (by kernel_rfl) (by kernel_rfl) (fun _ _ _ h => h) (by rfl) ?yb13 ?cb13 hHeld ?_
                case yb13 => (intro w hSw; go_simp <;> (first | with_reducible rfl | decide))
                case cb13 => exact fun W _ => MY W
                simp only [Act.put, List.setIfInBounds_toArray, List.set_cons_zero, List.set_cons_succ]
                refine wpAnyH_take (i := 14) (v := ?vb14) (by simp only [List.getElem?_toArray, List.getElem?_cons_succ, List.getElem?_cons_zero]; rfl) (by kernel_rfl) (by kernel_rfl) (by kernel_rfl) (fun _ _ _ h => h) (Or.inl ⟨by rfl, ?yb14⟩) hHeld ?_
                case yb14 => (intro w hSw; go_simp <;> with_reducible rfl)
                simp only [Act.put, List.setIfInBounds_toArray, List.set_cons_zero, List.set_cons_succ]
                refine wpAnyH_take (i := 15) (v := ?vb15) (by simp only [List.getElem?_toArray, List.getElem?_cons_succ, List.getElem?_cons_zero]; rfl) (by kernel_rfl) (by kernel_rfl) (by kernel_rfl) (fun _ _ _ h => h) (Or.inl ⟨by rfl, ?yb15⟩) hHeld ?_
                case yb15 => (intro w hSw; go_simp <;> with_reducible rfl)
                simp only [Act.put, List.setIfInBounds_toArray, List.set_cons_zero, List.set_cons_succ]
                refine wpAnyH_take (i := 16) (v := ?vb16) (by simp only [List.getElem?_toArray, List.getElem?_cons_succ, List.getElem?_cons_zero]; rfl) (by kernel_rfl) (by kernel_rfl) (by kernel_rfl) (fun _ _ _ h => h) (Or.inl ⟨by rfl, ?yb16⟩) hHeld ?_
                case yb16 => (intro w hSw; go_simp <;> with_reducible rfl)
                simp only [Act.put, List.setIfInBounds_toArray, List.set_cons_zero, List.set_cons_succ]
                refine wpAnyH_ready (rs := [17]) (by kernel_rfl) (by simp) ?_
                refine AllReadyH.cons (by simp only [List.getElem?_toArray, List.getElem?_cons_succ, List.getElem?_cons_zero]; rfl) (fun K hK => ?_) ?_
                rotate_left
                · exact AllReadyH.nil
                go_simp
                refine hK.out _ _ ?_ (fun hHeld => ?_)
                · exact ⟨(World.cell?_setCell_other _ _ _ _ (fun e => by injection e with _ e2; omega)).trans cL, (World.cell?_setCell_other _ _ _ _ (fun e => by injection e with e2 _; omega)).trans cB⟩
                clear hK K
                refine wpAnyH_done (by kernel_rfl) ?_ _
                refine NoPanic.normal ?_
                go_wp2_with fail
                go_roundw
                case rel => exact ⟨r + 1, _, by go_num, by omega, N1.out q, N5.out q, N4.out q (by omega) (by have := HQ.out; omega), N2.out q, (N3.out q).drew⟩
                case measure => simp [intOf]; omega
              · go_upto_region 13 with fail
                refine wp_region_noPanic ?_
                refine wp_region_held_drew (S := fun W => W.cell? ⟨L, 5 + r, none⟩ = some (.int .i64 x) ∧ W.cell? ⟨B, 5 + (r + 1), none⟩ = some (.int .i64 y)) (by kernel_rfl) (⟨cL, cB⟩) (fun hHeld => ?_)
                refine wpAnyH_take (i := 0) (v := ?vc0) (by simp only [List.getElem?_toArray, List.getElem?_cons_zero]; rfl) (by kernel_rfl) (by kernel_rfl) (by kernel_rfl) (fun _ _ _ h => h) (Or.inl ⟨by rfl, ?yc0⟩) hHeld ?_
                case yc0 => (intro w hSw; go_simp <;> with_reducible rfl)
                simp only [Act.put, List.setIfInBounds_toArray, List.set_cons_zero, List.set_cons_succ]
                refine wpAnyH_take (i := 1) (v := ?vc1) (by simp only [List.getElem?_toArray, List.getElem?_cons_succ, List.getElem?_cons_zero]; rfl) (by kernel_rfl) (by kernel_rfl) (by kernel_rfl) (fun _ _ _ h => h) (Or.inl ⟨by rfl, ?yc1⟩) hHeld ?_
                case yc1 => (intro w hSw; go_simp <;> with_reducible rfl)
                simp only [Act.put, List.setIfInBounds_toArray, List.set_cons_zero, List.set_cons_succ]
                refine wpAnyH_take (i := 2) (v := ?vc2) (by simp only [List.getElem?_toArray, List.getElem?_cons_succ, List.getElem?_cons_zero]; rfl) (by kernel_rfl) (by kernel_rfl) (by kernel_rfl) (fun _ _ _ h => h) (Or.inl ⟨by rfl, ?yc2⟩) hHeld ?_
                case yc2 => (intro w hSw; go_simp <;> with_reducible rfl)
                simp only [Act.put, List.setIfInBounds_toArray, List.set_cons_zero, List.set_cons_succ]
                refine wpAnyH_take (i := 3) (v := ?vc3) (by simp only [List.getElem?_toArray, List.getElem?_cons_succ, List.getElem?_cons_zero]; rfl) (by kernel_rfl) (by kernel_rfl) (by kernel_rfl) (fun _ _ _ h => h) (Or.inl ⟨by rfl, ?yc3⟩) hHeld ?_
                case yc3 => (intro w hSw; go_simp <;> with_reducible rfl)
                simp only [Act.put, List.setIfInBounds_toArray, List.set_cons_zero, List.set_cons_succ]
                refine wpAnyH_take (i := 4) (v := ?vc4) (by simp only [List.getElem?_toArray, List.getElem?_cons_succ, List.getElem?_cons_zero]; rfl) (by kernel_rfl) (by kernel_rfl) (by kernel_rfl) (fun _ _ _ h => h) (Or.inl ⟨by rfl, ?yc4⟩) hHeld ?_
                case yc4 => (intro w hSw; go_simp <;> with_reducible rfl)
                simp only [Act.put, List.setIfInBounds_toArray, List.set_cons_zero, List.set_cons_succ]
                refine wpAnyH_take (i := 5) (v := ?vc5) (by simp only [List.getElem?_toArray, List.getElem?_cons_succ, List.getElem?_cons_zero]; rfl) (by kernel_rfl) (by kernel_rfl) (by kernel_rfl) (fun _ _ _ h => h) (Or.inl ⟨by rfl, ?yc5⟩) hHeld ?_
                case yc5 => (intro w hSw; go_simp <;> with_reducible rfl)
                simp only [Act.put, List.setIfInBounds_toArray, List.set_cons_zero, List.set_cons_succ]
                refine wpAnyH_take (i := 6) (v := ?vc6) (by simp only [List.getElem?_toArray, List.getElem?_cons_succ, List.getElem?_cons_zero]; rfl) (by kernel_rfl) (by kernel_rfl) (by kernel_rfl) (fun _ _ _ h => h) (Or.inl ⟨by rfl, ?yc6⟩) hHeld ?_
                case yc6 => (intro w hSw; go_simp <;> with_reducible rfl)
                simp only [Act.put, List.setIfInBounds_toArray, List.set_cons_zero, List.set_cons_succ]
                refine wpAnyH_take (i := 7) (v := ?vc7) (by simp only [List.getElem?_toArray, List.getElem?_cons_succ, List.getElem?_cons_zero]; rfl) (by kernel_rfl) (by kernel_rfl) (by kernel_rfl) (fun _ _ _ h => h) (Or.inl ⟨by rfl, ?yc7⟩) hHeld ?_
                case yc7 => (intro w hSw; go_simp <;> with_reducible rfl)
                simp only [Act.put, List.setIfInBounds_toArray, List.set_cons_zero, List.set_cons_succ]
                refine wpAnyH_take (i := 8) (v := ?vc8) (by simp only [List.getElem?_toArray, List.getElem?_cons_succ, List.getElem?_cons_zero]; rfl) (by kernel_rfl) (by kernel_rfl) (by kernel_rfl) (fun _ _ _ h => h) (Or.inl ⟨by rfl, ?yc8⟩) hHeld ?_
                case yc8 => (intro w hSw; go_simp <;> with_reducible rfl)
                simp only [Act.put, List.setIfInBounds_toArray, List.set_cons_zero, List.set_cons_succ]
                refine wpAnyH_take (i := 9) (v := ?vc9) (by simp only [List.getElem?_toArray, List.getElem?_cons_succ, List.getElem?_cons_zero]; rfl) (by kernel_rfl) (by kernel_rfl) (by kernel_rfl) (fun _ _ _ h => h) (Or.inl ⟨by rfl, ?yc9⟩) hHeld ?_
                case yc9 => (intro w hSw; go_simp <;> with_reducible rfl)
                simp only [Act.put, List.setIfInBounds_toArray, List.set_cons_zero, List.set_cons_succ]
                refine wpAnyH_take (i := 10) (v := ?vc10) (by simp only [List.getElem?_toArray, List.getElem?_cons_succ, List.getElem?_cons_zero]; rfl) (by kernel_rfl) (by kernel_rfl) (by kernel_rfl) (fun _ _ _ h => h) (Or.inl ⟨by rfl, ?yc10⟩) hHeld ?_
                case yc10 => (intro w hSw; go_simp <;> with_reducible rfl)
                simp only [Act.put, List.setIfInBounds_toArray, List.set_cons_zero, List.set_cons_succ]
                refine wpAnyH_take (i := 11) (v := ?vc11) (by simp only [List.getElem?_toArray, List.getElem?_cons_succ, List.getElem?_cons_zero]; rfl) (by kernel_rfl) (by kernel_rfl) (by kernel_rfl) (fun _ _ _ h => h) (Or.inl ⟨by rfl, ?yc11⟩) hHeld ?_
                case yc11 => (intro w hSw; go_simp <;> with_reducible rfl)
                simp only [Act.put, List.setIfInBounds_toArray, List.set_cons_zero, List.set_cons_succ]
                refine wpAnyH_take (i := 12) (v := ?vc12) (by simp only [List.getElem?_toArray, List.getElem?_cons_succ, List.getElem?_cons_zero]; rfl) (by kernel_rfl) (by kernel_rfl) (by kernel_rfl) (fun _ _ _ h => h) (Or.inl ⟨by rfl, ?yc12⟩) hHeld ?_
                case yc12 => (intro w hSw; go_simp <;> with_reducible rfl)
                simp only [Act.put, List.setIfInBounds_toArray, List.set_cons_zero, List.set_cons_succ]
                refine wpAnyH_call (i := 13) (v := .int .i64 q) (f := 15) (args := #[.int .i64 y, .int .i64 5]) (by simp only [List.getElem?_toArray, List.getElem?_cons_succ, List.getElem?_cons_zero]; rfl) (by kernel_rfl) (by kernel_rfl) (by kernel_rfl) (fun _ _ _ h => h) (by rfl) ?yc13 ?cc13 hHeld ?_
                case yc13 => (intro w hSw; go_simp <;> (first | with_reducible rfl | decide))
                case cc13 => exact fun W _ => MY W
                simp only [Act.put, List.setIfInBounds_toArray, List.set_cons_zero, List.set_cons_succ]
                refine wpAnyH_take (i := 14) (v := ?vc14) (by simp only [List.getElem?_toArray, List.getElem?_cons_succ, List.getElem?_cons_zero]; rfl) (by kernel_rfl) (by kernel_rfl) (by kernel_rfl) (fun _ _ _ h => h) (Or.inl ⟨by rfl, ?yc14⟩) hHeld ?_
                case yc14 => (intro w hSw; go_simp <;> with_reducible rfl)
                simp only [Act.put, List.setIfInBounds_toArray, List.set_cons_zero, List.set_cons_succ]
                refine wpAnyH_take (i := 15) (v := ?vc15) (by simp only [List.getElem?_toArray, List.getElem?_cons_succ, List.getElem?_cons_zero]; rfl) (by kernel_rfl) (by kernel_rfl) (by kernel_rfl) (fun _ _ _ h => h) (Or.inl ⟨by rfl, ?yc15⟩) hHeld ?_
                case yc15 => (intro w hSw; go_simp <;> with_reducible rfl)
                simp only [Act.put, List.setIfInBounds_toArray, List.set_cons_zero, List.set_cons_succ]
                refine wpAnyH_take (i := 16) (v := ?vc16) (by simp only [List.getElem?_toArray, List.getElem?_cons_succ, List.getElem?_cons_zero]; rfl) (by kernel_rfl) (by kernel_rfl) (by kernel_rfl) (fun _ _ _ h => h) (Or.inl ⟨by rfl, ?yc16⟩) hHeld ?_
                case yc16 => (intro w hSw; go_simp <;> with_reducible rfl)
                simp only [Act.put, List.setIfInBounds_toArray, List.set_cons_zero, List.set_cons_succ]
                refine wpAnyH_ready (rs := [17]) (by kernel_rfl) (by simp) ?_
                refine AllReadyH.cons (by simp only [List.getElem?_toArray, List.getElem?_cons_succ, List.getElem?_cons_zero]; rfl) (fun K hK => ?_) ?_
                rotate_left
                · exact AllReadyH.nil
                go_simp
                refine hK.out _ _ ?_ (fun hHeld => ?_)
                · exact ⟨(World.cell?_setCell_other _ _ _ _ (fun e => by injection e with _ e2; omega)).trans cL, (World.cell?_setCell_other _ _ _ _ (fun e => by injection e with e2 _; omega)).trans cB⟩
                clear hK K
                refine wpAnyH_done (by kernel_rfl) ?_ _
                refine NoPanic.normal ?_
                go_wp2_with fail
                go_roundw
                case rel => exact ⟨r + 1, _, by go_num, by omega, N1.out x, N5.out x, N4.out x (by omega) (by have := HLO.out; omega), N2.out x, (N3.out x).drew⟩
                case measure => simp [intOf]; omega
            · obtain rfl : r = 5 := by omega
              have j1 : ¬ (((5 : Nat) : Int) + 1 < 6) := by omega
              have NW : Hid (∀ (j : Nat) (u : Value), D.cells.toList[j]? = some u → (wr.alloc (.cells D.cells 33)).cell? (Addr.add ⟨wr.heap.size, 0, none⟩ j) = some u) := fun j u hu => by
                rw [add_plain, Nat.zero_add, new_c]
                simpa using hu
              obtain ⟨hl1, x0, x1, x2, x3, x4, x5, x6, x7, x8, x9, x10, x11, x12⟩ := hC
              have HO := Lib.hid hO
              have b3 : Below wr.heap.size wr (wr.alloc (.cells D.cells 33)) := bal (Below.refl _ _) _
              have HR := Lib.hid (hR.below b3)
              have HB := Lib.hid (bel2 hB b3)
              have ONE : Hid (∀ u ∈ D.cells.toList, u.oneCell' = true) := fun u hu => by
                simp [PD.cells] at hu
                rcases hu with rfl | rfl | rfl | rfl | rfl | rfl | rfl | rfl | rfl | rfl | rfl | rfl | rfl <;> rfl
              have FIN : Hid (∀ v w', w'.ownsRow L 33 13 v 1 D.cells.toList → Below (wr.alloc (.cells D.cells 33)).heap.size (wr.alloc (.cells D.cells 33)) w' → SoP w (.returned v) w') := fun v w' h hb => so_fin (hL ▸ h) HO.out (HR.out.below hb) (bel2 HB.out hb)
              have hs3 : L ≤ wr.heap.size + 1 := by have := hB.size; omega
              clear hO hR hB b3 hF
              unfold PD.cells at NW ONE FIN
              go_wp2_with (at_builtin; refine wpList_append_own _ rfl (.tmp 83) (.tmp 85) 22 rfl L 33 i0 _ 13 168 Try.underlying22 HI.out.1 HI.out.2.1 HI.out.2.2.1 HI.out.2.2.2.1 HI.out.2.2.2.2 (by decide) (.slice none 0 0) 0 [] rfl (World.ownsRow_nil _ _ _ _) ⟨wr.heap.size, 0, none⟩ 1 1 _ rfl rfl NW.out ONE.out ?c2 (by omega) ?c4 ?_)
              case c2 => unfold maxLen; omega

              intro v' w4 hown hgr hiff
              have F := Lib.hid (FIN.out v' w4 hown ⟨hgr.os, hgr.tape, hgr.output, hgr.size, fun i hi => hgr.block i hi (fun e => by cases e)⟩)
              clear hown hgr hiff NW x0 x1 x2 x3 x4 x5 x6 x7 x8 x9 x10 x11 x12 FIN
              go_wp2_with fail
              go_roundw
              case rel => exact .inr ⟨rfl, F.out⟩
              case measure => simp [intOf]
    · have F := Lib.hid hS
      clear hS
      have q : ¬ (1 : Int) < 1 := by omega
      have q2 : decide ((1 : Int) < 1) = false := by decide
      go_wp2
      go_ret
      exact F.out
end Go.Proofs.Ytejfopjnokopeaa
