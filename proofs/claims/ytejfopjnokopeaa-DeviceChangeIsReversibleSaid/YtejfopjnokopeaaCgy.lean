/- Change, whatever its arguments. -/
import Derived.Test.YtejfopjnokopeaaChg
import Derived.Test.YtejfopjnokopeaaRev
namespace Go.Proofs.Ytejfopjnokopeaa
open Go.ChangeShapes Go.WideShapes Go.ChangeAt Go.RowKit Go.Deep Go.Joins

def ChQ (w : World) (r : List Int × List Int × Int) (e : Ending) (w' : World) : Prop := ∃ A1 c1 A2 c2, e = .returned (.tuple #[.slice A1 r.1.length c1, .slice A2 r.2.1.length c2, .int .i64 r.2.2]) ∧ Il w' A1 r.1 ∧ Il w' A2 r.2.1 ∧ Below w.heap.size w w'
theorem Il.grown {w w1 w2 : World} {A : Option Addr} {l : List Int} {g : Nat} (h : Il w A l) (hb : Below w.heap.size w w1) (hg : w1.grownBy w2 (some g)) (hw : w.heap.size ≤ g) : Il w2 A l := by
  refine ⟨h.len, ?_⟩
  rcases h.row with h0 | ⟨b, off, hA, hlt, hc⟩
  · exact .inl h0
  · have h1 : b < w1.heap.size := by have := hb.size; omega
    exact .inr ⟨b, off, hA, by have := hg.size; omega, fun i hi => (g_cell hg h1 (by omega) _).trans ((hb.cell (by exact hlt)).trans (hc i hi))⟩
set_option maxRecDepth 20000 in
set_option maxHeartbeats 16000000 in
theorem chg_yes (d : PD) (f t : Nat) (Af At : Option Addr) (lf lt : List Int) (cf ct : Nat) (w : World) (hf : f ≤ 4) (ht : t ≤ 4) (nf : Ned d f Af lf cf) (nt : Ned d t At lt ct) (hlf : Il w Af lf) (hlt : Il w At lt) (af : ascL lf = true) (at' : ascL lt = true)
    (n1 : lf.length ≤ 1000) (n2 : lt.length ≤ 1000) : Calls Try.prog 21 #[.agg d.cells, .int .i64 f, .int .i64 t] w (ChQ w (misL lt lf lt.length, (misL lf lt lf.length).reverse, 0)) := by
  have b1 : Below w.heap.size w (w.alloc (.cells d.cells 33)) := bal (Below.refl _ _) _
  have C1 := Lib.hid (c13_new w d)
  have B1 := Lib.hid b1
  have HF := Lib.hid (hlf.below b1)
  have HT := Lib.hid (hlt.below b1)
  have NF := Lib.hid nf
  have NT := Lib.hid nt
  have IF : ∀ W, Calls Try.prog 42 #[.int .i64 f] W fun e w' => e = .returned (.bool true) ∧ W = w' := fun W => by
    have := iss_any f W
    rwa [show isS f = true by unfold isS; rw [decide_eq_true (by omega), decide_eq_true (by omega)]; rfl] at this
  have IT : ∀ W, Calls Try.prog 42 #[.int .i64 t] W fun e w' => e = .returned (.bool true) ∧ W = w' := fun W => by
    have := iss_any t W
    rwa [show isS t = true by unfold isS; rw [decide_eq_true (by omega), decide_eq_true (by omega)]; rfl] at this
  have AF := Lib.hid (fun W (h : Il W Af lf) => by have := asc_any Af cf lf W h; rwa [af] at this)
  have AT := Lib.hid (fun W (h : Il W At lt) => by have := asc_any At ct lt W h; rwa [at'] at this)
  have IF := Lib.hid IF
  have IT := Lib.hid IT
  clear b1 hlf hlt nf nt
  go_enter Try.func21, Try.ntmps21
  go_upto_region 1 with fail
  generalize w.alloc (.cells d.cells 33) = w1 at *
  generalize hZ : w.heap.size = Z at C1 ⊢
  have HZ := Lib.hid hZ
  clear hZ
  obtain ⟨hl1, x0, x1, x2, x3, x4, x5, x6, x7, x8, x9, x10, x11, x12⟩ := C1.out
  go_wp2_with fail
  refine (IF.out _).mono ?_
  rintro e w2 ⟨rfl, rfl⟩
  go_wp2_with fail
  refine (IT.out _).mono ?_
  rintro e w2 ⟨rfl, rfl⟩
  go_wp2_with fail
  refine (NF.out _).mono ?_
  rintro e w2 ⟨rfl, hb2⟩
  have B2 := Lib.hid hb2
  clear hl1 x0 x1 x2 x3 x4 x5 x6 x7 x8 x9 x10 x11 x12 hb2
  go_wp2_with fail
  refine (AF.out _ (HF.out.below B2.out)).mono ?_
  rintro e w3 ⟨rfl, hb3⟩
  have B3 := Lib.hid (bel2 B2.out hb3)
  clear hb3 B2
  obtain ⟨hl1, x0, x1, x2, x3, x4, x5, x6, x7, x8, x9, x10, x11, x12⟩ := C1.out.below B3.out
  go_wp2_with fail
  refine (NT.out _).mono ?_
  rintro e w4 ⟨rfl, hb4⟩
  have B4 := Lib.hid (bel2 B3.out hb4)
  clear hl1 x0 x1 x2 x3 x4 x5 x6 x7 x8 x9 x10 x11 x12 hb4 B3
  go_wp2_with fail
  refine (AT.out _ (HT.out.below B4.out)).mono ?_
  rintro e w5 ⟨rfl, hb5⟩
  have B5 := Lib.hid (bel2 B4.out hb5)
  clear hb5 B4
  have C5 := Lib.hid (C1.out.below B5.out)
  have KC := Lib.hid (fun W (hb : Below w5.heap.size w5 W) => C5.out.below hb)
  have LT5 := Lib.hid (HT.out.below B5.out)
  have LF5 := Lib.hid (HF.out.below B5.out)
  go_upto_region 3 with fail
  refine wp_region_noPanic ?_
  refine wp_region_held_drew (S := fun W => C13 W Z d) (by kernel_rfl) (KC.out _ (Below.refl _ w5).drew) (fun hHeld => ?_)
  refine wpAnyH_take (i := 0) (v := ?v0) (by simp only [List.getElem?_toArray, List.getElem?_cons_zero]; rfl) (by kernel_rfl) (by kernel_rfl) (by kernel_rfl) (fun _ _ _ h => h) (Or.inl ⟨by rfl, ?y0⟩) hHeld ?_
  case y0 => (intro w hSw; obtain ⟨hl, y0, y1, y2, y3, y4, y5, y6, y7, y8, y9, y10, y11, y12⟩ := hSw; go_simp <;> with_reducible rfl)
  simp only [Act.put, List.setIfInBounds_toArray, List.set_cons_zero, List.set_cons_succ]
  refine wpAnyH_take (i := 1) (v := ?v1) (by simp only [List.getElem?_toArray, List.getElem?_cons_succ, List.getElem?_cons_zero]; rfl) (by kernel_rfl) (by kernel_rfl) (by kernel_rfl) (fun _ _ _ h => h) (Or.inl ⟨by rfl, ?y1⟩) hHeld ?_
  case y1 => (intro w hSw; go_simp <;> with_reducible rfl)
  simp only [Act.put, List.setIfInBounds_toArray, List.set_cons_zero, List.set_cons_succ]
  refine wpAnyH_take (i := 3) (v := ?v3) (by simp only [List.getElem?_toArray, List.getElem?_cons_succ, List.getElem?_cons_zero]; rfl) (by kernel_rfl) (by kernel_rfl) (by kernel_rfl) (fun _ _ _ h => h) (Or.inl ⟨by rfl, ?y3⟩) hHeld ?_
  case y3 => (intro w hSw; obtain ⟨hl, y0, y1, y2, y3, y4, y5, y6, y7, y8, y9, y10, y11, y12⟩ := hSw; go_simp <;> with_reducible rfl)
  simp only [Act.put, List.setIfInBounds_toArray, List.set_cons_zero, List.set_cons_succ]
  refine wpAnyH_take (i := 4) (v := ?v4) (by simp only [List.getElem?_toArray, List.getElem?_cons_succ, List.getElem?_cons_zero]; rfl) (by kernel_rfl) (by kernel_rfl) (by kernel_rfl) (fun _ _ _ h => h) (Or.inl ⟨by rfl, ?y4⟩) hHeld ?_
  case y4 => (intro w hSw; go_simp <;> with_reducible rfl)
  simp only [Act.put, List.setIfInBounds_toArray, List.set_cons_zero, List.set_cons_succ]
  refine wpAnyH_ready (rs := [2]) (by kernel_rfl) (by simp) ?_
  refine AllReadyH.cons (by simp only [List.getElem?_toArray, List.getElem?_cons_succ, List.getElem?_cons_zero]; rfl) (fun K hK => ?_) ?_
  rotate_left
  · exact AllReadyH.nil
  go_simp
  go_at_call 44
  refine (NT.out _).mono ?_
  rintro e w7 ⟨rfl, hb7⟩
  go_wp2_with fail
  refine hK.out _ _ ?_ (fun hHeld => ?_)
  · exact KC.out _ ((Below.refl _ w5).drew.trans (hb7.mono (Nat.le_refl _)))
  clear hK K
  have b7 : Below w5.heap.size w5 w7 := (Below.refl _ w5).drew.trans (hb7.mono (Nat.le_refl _))
  refine wpAnyH_ready (rs := [5]) (by kernel_rfl) (by simp) ?_
  refine AllReadyH.cons (by simp only [List.getElem?_toArray, List.getElem?_cons_succ, List.getElem?_cons_zero]; rfl) (fun K hK => ?_) ?_
  rotate_left
  · exact AllReadyH.nil
  go_simp
  go_at_call 44
  refine (NF.out _).mono ?_
  rintro e w8 ⟨rfl, hb8⟩
  go_wp2_with fail
  refine hK.out _ _ ?_ (fun hHeld => ?_)
  · exact KC.out _ (bel2 b7 hb8)
  clear hK K
  have b8 := bel2 b7 hb8
  have PM := mis_any At Af ct cf lt lf w8 (LT5.out.below b8) (LF5.out.below b8) (by omega)
  refine wpAnyH_ready (rs := [6]) (by kernel_rfl) (by simp) ?_
  refine AllReadyH.cons (by simp only [List.getElem?_toArray, List.getElem?_cons_succ, List.getElem?_cons_zero]; rfl) (fun K hK => ?_) ?_
  rotate_left
  · exact AllReadyH.nil
  go_simp
  go_at_call 45
  refine PM.mono ?_
  clear PM
  rintro e w9 ⟨v9, rfl, hO9, hb9⟩
  go_wp2_with fail
  refine hK.out _ _ ?_ (fun hHeld => ?_)
  · exact KC.out _ (bel2 b8 hb9)
  clear hK K
  have BM := And.intro hO9 (bel2 b8 hb9)
  refine wpAnyH_take (i := 7) (v := ?v7) (by simp only [List.getElem?_toArray, List.getElem?_cons_succ, List.getElem?_cons_zero]; rfl) (by kernel_rfl) (by kernel_rfl) (by kernel_rfl) (fun _ _ _ h => h) (Or.inl ⟨by rfl, ?y7⟩) hHeld ?_
  case y7 => (intro w hSw; go_simp <;> with_reducible rfl)
  simp only [Act.put, List.setIfInBounds_toArray]
  refine wpAnyH_done (by kernel_rfl) ?_ _
  refine NoPanic.normal ?_
  obtain ⟨A9, c9, rfl, I9⟩ := own_il BM.1 rfl
  have I9 := Lib.hid I9
  have B9 := Lib.hid BM.2
  clear BM hHeld b7 b8 hO9 hb9 hb8 hb7
  have C9 := Lib.hid (C5.out.below B9.out)
  have KC9 := Lib.hid (fun W (hb : Below w9.heap.size w9 W) => C9.out.below hb)
  have LT9 := Lib.hid (LT5.out.below B9.out)
  have LF9 := Lib.hid (LF5.out.below B9.out)
  have B9 := Lib.hid (bel2 B5.out B9.out)
  go_upto_region 4 with fail
  refine wp_region_noPanic ?_
  refine wp_region_held_drew (S := fun W => C13 W Z d) (by kernel_rfl) (KC9.out _ (Below.refl _ w9).drew) (fun hHeld => ?_)
  refine wpAnyH_take (i := 0) (v := ?vz0) (by simp only [List.getElem?_toArray, List.getElem?_cons_zero]; rfl) (by kernel_rfl) (by kernel_rfl) (by kernel_rfl) (fun _ _ _ h => h) (Or.inl ⟨by rfl, ?yz0⟩) hHeld ?_
  case yz0 => (intro w hSw; obtain ⟨hl, y0, y1, y2, y3, y4, y5, y6, y7, y8, y9, y10, y11, y12⟩ := hSw; go_simp <;> with_reducible rfl)
  simp only [Act.put, List.setIfInBounds_toArray, List.set_cons_zero, List.set_cons_succ]
  refine wpAnyH_take (i := 1) (v := ?vz1) (by simp only [List.getElem?_toArray, List.getElem?_cons_succ, List.getElem?_cons_zero]; rfl) (by kernel_rfl) (by kernel_rfl) (by kernel_rfl) (fun _ _ _ h => h) (Or.inl ⟨by rfl, ?yz1⟩) hHeld ?_
  case yz1 => (intro w hSw; go_simp <;> with_reducible rfl)
  simp only [Act.put, List.setIfInBounds_toArray, List.set_cons_zero, List.set_cons_succ]
  refine wpAnyH_take (i := 3) (v := ?vz3) (by simp only [List.getElem?_toArray, List.getElem?_cons_succ, List.getElem?_cons_zero]; rfl) (by kernel_rfl) (by kernel_rfl) (by kernel_rfl) (fun _ _ _ h => h) (Or.inl ⟨by rfl, ?yz3⟩) hHeld ?_
  case yz3 => (intro w hSw; obtain ⟨hl, y0, y1, y2, y3, y4, y5, y6, y7, y8, y9, y10, y11, y12⟩ := hSw; go_simp <;> with_reducible rfl)
  simp only [Act.put, List.setIfInBounds_toArray, List.set_cons_zero, List.set_cons_succ]
  refine wpAnyH_take (i := 4) (v := ?vz4) (by simp only [List.getElem?_toArray, List.getElem?_cons_succ, List.getElem?_cons_zero]; rfl) (by kernel_rfl) (by kernel_rfl) (by kernel_rfl) (fun _ _ _ h => h) (Or.inl ⟨by rfl, ?yz4⟩) hHeld ?_
  case yz4 => (intro w hSw; go_simp <;> with_reducible rfl)
  simp only [Act.put, List.setIfInBounds_toArray, List.set_cons_zero, List.set_cons_succ]
  refine wpAnyH_ready (rs := [2]) (by kernel_rfl) (by simp) ?_
  refine AllReadyH.cons (by simp only [List.getElem?_toArray, List.getElem?_cons_succ, List.getElem?_cons_zero]; rfl) (fun K hK => ?_) ?_
  rotate_left
  · exact AllReadyH.nil
  go_simp
  go_at_call 44
  refine (NF.out _).mono ?_
  rintro e w7 ⟨rfl, hb7⟩
  go_wp2_with fail
  refine hK.out _ _ ?_ (fun hHeld => ?_)
  · exact KC9.out _ ((Below.refl _ w9).drew.trans (hb7.mono (Nat.le_refl _)))
  clear hK K
  have b7 : Below w9.heap.size w9 w7 := (Below.refl _ w9).drew.trans (hb7.mono (Nat.le_refl _))
  refine wpAnyH_ready (rs := [5]) (by kernel_rfl) (by simp) ?_
  refine AllReadyH.cons (by simp only [List.getElem?_toArray, List.getElem?_cons_succ, List.getElem?_cons_zero]; rfl) (fun K hK => ?_) ?_
  rotate_left
  · exact AllReadyH.nil
  go_simp
  go_at_call 44
  refine (NT.out _).mono ?_
  rintro e w8 ⟨rfl, hb8⟩
  go_wp2_with fail
  refine hK.out _ _ ?_ (fun hHeld => ?_)
  · exact KC9.out _ (bel2 b7 hb8)
  clear hK K
  have b8 := bel2 b7 hb8
  have PM := mis_any Af At cf ct lf lt w8 (LF9.out.below b8) (LT9.out.below b8) (by omega)
  refine wpAnyH_ready (rs := [6]) (by kernel_rfl) (by simp) ?_
  refine AllReadyH.cons (by simp only [List.getElem?_toArray, List.getElem?_cons_succ, List.getElem?_cons_zero]; rfl) (fun K hK => ?_) ?_
  rotate_left
  · exact AllReadyH.nil
  go_simp
  go_at_call 45
  refine PM.mono ?_
  clear PM
  rintro e wz ⟨v9, rfl, hO9, hb9⟩
  go_wp2_with fail
  refine hK.out _ _ ?_ (fun hHeld => ?_)
  · exact KC9.out _ (bel2 b8 hb9)
  clear hK K
  have BM := And.intro hO9 (bel2 b8 hb9)
  refine wpAnyH_take (i := 7) (v := ?vz7) (by simp only [List.getElem?_toArray, List.getElem?_cons_succ, List.getElem?_cons_zero]; rfl) (by kernel_rfl) (by kernel_rfl) (by kernel_rfl) (fun _ _ _ h => h) (Or.inl ⟨by rfl, ?yz7⟩) hHeld ?_
  case yz7 => (intro w hSw; go_simp <;> with_reducible rfl)
  simp only [Act.put, List.setIfInBounds_toArray]
  refine wpAnyH_done (by kernel_rfl) ?_ _
  refine NoPanic.normal ?_
  have hmis : (misL lf lt lf.length).length ≤ 1000000 := by have := misL_len lf lt lf.length; omega
  obtain ⟨AA, cA, rfl, RV⟩ := rev_any BM.1 hmis
  have RV := Lib.hid RV
  have hb98 : w9.heap.size ≤ w8.heap.size := b8.size
  have hbw : w.heap.size ≤ w9.heap.size := (bel2 B1.out B9.out).size
  have KB := Lib.hid (fun (g : Nat) (wy : World) (hg : w8.heap.size ≤ g) (hgr : wz.grownBy wy (some g)) => bel_only (bel2 B1.out (bel2 B9.out BM.2)) hgr (by omega))
  have KI := Lib.hid (fun (g : Nat) (wy : World) (hg : w8.heap.size ≤ g) (hgr : wz.grownBy wy (some g)) => I9.out.grown BM.2 hgr (by omega))
  clear BM hHeld I9
  have G : Hid (∀ wy, Il wy A9 (misL lt lf lt.length) → Il wy AA (misL lf lt lf.length).reverse → Below w.heap.size w wy → ChQ w (misL lt lf lt.length, (misL lf lt lf.length).reverse, 0) (.returned (.tuple #[.slice A9 (misL lt lf lt.length).length c9, .slice AA (misL lf lt lf.length).length cA, .int .i64 0])) wy) := fun wy i1 i2 b => ⟨_, _, _, _, by rw [List.length_reverse], i1, i2, b⟩
  generalize misL lt lf lt.length = la at *
  generalize misL lf lt lf.length = lr at *
  go_wp2_with fail
  refine RV.out.mono ?_
  rintro e wy ⟨rfl, IA, g, hg, hgr⟩
  have F := Lib.hid (G.out wy (KI.out g wy hg hgr) IA (KB.out g wy hg hgr))
  clear IA hgr G KI KB
  go_wp2_with fail
  refine bodyPost_ret (results_tmp3 rfl _ _ _) rfl ?_
  exact F.out
def lst (l : Nat → List Int) (s : Int) : List Int := if s = 4 then [] else l s.toNat
def chgR (l : Nat → List Int) (f t : Int) : List Int × List Int × Int :=
  if isS f && isS t && ascL (lst l f) && ascL (lst l t) then (misL (lst l t) (lst l f) (lst l t).length, (misL (lst l f) (lst l t) (lst l f).length).reverse, 0) else ([], [], 1)
theorem chq_no {w w' : World} (hb : Below w.heap.size w w') : ChQ w ([], [], 1) (.returned (.tuple #[.slice none 0 0, .slice none 0 0, .int .i64 1])) w' := ⟨_, _, _, _, rfl, ⟨by simp, .inl rfl⟩, ⟨by simp, .inl rfl⟩, hb⟩
set_option maxRecDepth 20000 in
set_option maxHeartbeats 16000000 in
theorem chg_no1 (d : PD) (f t : Int) (w : World) (h : isS f = false) : Calls Try.prog 21 #[.agg d.cells, .int .i64 f, .int .i64 t] w (ChQ w ([], [], 1)) := by
  have B1 := Lib.hid (chq_no (bal (Below.refl w.heap.size w) (.cells d.cells 33)))
  have IF := iss_any f
  rw [h] at IF
  have IF := Lib.hid IF
  clear h
  unfold PD.cells at B1 ⊢
  go_enter Try.func21, Try.ntmps21
  go_wp2_with (go_at_call 42; refine (IF.out _).mono ?_; rintro e w2 ⟨rfl, rfl⟩)
  refine bodyPost_ret (results_tmp3 rfl _ _ _) rfl ?_
  exact B1.out
set_option maxRecDepth 20000 in
set_option maxHeartbeats 16000000 in
theorem chg_no2 (d : PD) (f t : Int) (w : World) (h0 : isS f = true) (h : isS t = false) : Calls Try.prog 21 #[.agg d.cells, .int .i64 f, .int .i64 t] w (ChQ w ([], [], 1)) := by
  have B1 := Lib.hid (chq_no (bal (Below.refl w.heap.size w) (.cells d.cells 33)))
  have IF := iss_any f
  have IT := iss_any t
  rw [h0] at IF
  rw [h] at IT
  have IF := Lib.hid IF
  have IT := Lib.hid IT
  clear h h0
  unfold PD.cells at B1 ⊢
  go_enter Try.func21, Try.ntmps21
  go_wp2_with fail
  refine (IF.out _).mono ?_
  rintro e w2 ⟨rfl, rfl⟩
  go_wp2_with fail
  refine (IT.out _).mono ?_
  rintro e w2 ⟨rfl, rfl⟩
  go_wp2_with fail
  refine bodyPost_ret (results_tmp3 rfl _ _ _) rfl ?_
  exact B1.out
set_option maxRecDepth 20000 in
set_option maxHeartbeats 16000000 in
theorem chg_no3 (d : PD) (f t : Nat) (Af At : Option Addr) (lf lt : List Int) (cf ct : Nat) (w : World) (hf : f ≤ 4) (ht : t ≤ 4) (nf : Ned d f Af lf cf) (nt : Ned d t At lt ct) (hlf : Il w Af lf) (hlt : Il w At lt) (af : (ascL lf && ascL lt) = false) :
    Calls Try.prog 21 #[.agg d.cells, .int .i64 f, .int .i64 t] w (ChQ w ([], [], 1)) := by
  have b1 : Below w.heap.size w (w.alloc (.cells d.cells 33)) := bal (Below.refl _ _) _
  have C1 := Lib.hid (c13_new w d)
  have B1 := Lib.hid b1
  have HF := Lib.hid (hlf.below b1)
  have HT := Lib.hid (hlt.below b1)
  have NF := Lib.hid nf
  have NT := Lib.hid nt
  have IF : ∀ W, Calls Try.prog 42 #[.int .i64 f] W fun e w' => e = .returned (.bool true) ∧ W = w' := fun W => by
    have := iss_any f W
    rwa [show isS f = true by unfold isS; rw [decide_eq_true (by omega), decide_eq_true (by omega)]; rfl] at this
  have IT : ∀ W, Calls Try.prog 42 #[.int .i64 t] W fun e w' => e = .returned (.bool true) ∧ W = w' := fun W => by
    have := iss_any t W
    rwa [show isS t = true by unfold isS; rw [decide_eq_true (by omega), decide_eq_true (by omega)]; rfl] at this
  have AF := Lib.hid (fun W (h : Il W Af lf) => asc_any Af cf lf W h)
  have AT := Lib.hid (fun W (h : Il W At lt) => asc_any At ct lt W h)
  have IF := Lib.hid IF
  have IT := Lib.hid IT
  clear b1 hlf hlt nf nt
  generalize ascL lf = p at *
  generalize ascL lt = q at *
  go_enter Try.func21, Try.ntmps21
  go_upto_region 1 with fail
  generalize w.alloc (.cells d.cells 33) = w1 at *
  generalize hZ : w.heap.size = Z at C1 ⊢
  have HZ := Lib.hid hZ
  clear hZ
  obtain ⟨hl1, x0, x1, x2, x3, x4, x5, x6, x7, x8, x9, x10, x11, x12⟩ := C1.out
  go_wp2_with fail
  refine (IF.out _).mono ?_
  rintro e w2 ⟨rfl, rfl⟩
  go_wp2_with fail
  refine (IT.out _).mono ?_
  rintro e w2 ⟨rfl, rfl⟩
  go_wp2_with fail
  refine (NF.out _).mono ?_
  rintro e w2 ⟨rfl, hb2⟩
  have B2 := Lib.hid hb2
  clear hl1 x0 x1 x2 x3 x4 x5 x6 x7 x8 x9 x10 x11 x12 hb2
  go_wp2_with fail
  refine (AF.out _ (HF.out.below B2.out)).mono ?_
  rintro e w3 ⟨rfl, hb3⟩
  have B3 := Lib.hid (bel2 B2.out hb3)
  clear hb3 B2
  cases p with
  | false =>
    have F := Lib.hid (chq_no (bel2 B1.out B3.out))
    clear B1 B3
    go_wp2_with fail
    refine bodyPost_ret (results_tmp3 rfl _ _ _) rfl ?_
    exact F.out
  | true =>
    obtain rfl : q = false := af
    obtain ⟨hl1, x0, x1, x2, x3, x4, x5, x6, x7, x8, x9, x10, x11, x12⟩ := C1.out.below B3.out
    go_wp2_with fail
    refine (NT.out _).mono ?_
    rintro e w4 ⟨rfl, hb4⟩
    have B4 := Lib.hid (bel2 B3.out hb4)
    clear hl1 x0 x1 x2 x3 x4 x5 x6 x7 x8 x9 x10 x11 x12 hb4 B3
    go_wp2_with fail
    refine (AT.out _ (HT.out.below B4.out)).mono ?_
    rintro e w5 ⟨rfl, hb5⟩
    have F := Lib.hid (chq_no (bel2 B1.out (bel2 B4.out hb5)))
    clear hb5 B4 B1
    go_wp2_with fail
    refine bodyPost_ret (results_tmp3 rfl _ _ _) rfl ?_
    exact F.out
/-- What 'needed' gives, for every state. -/
theorem ned_of {w : World} {d : PD} {l : Nat → List Int} (h : Rl w d l) (s : Nat) (hs : s ≤ 4) : ∃ A c, Ned d s A (lst l s) c ∧ Il w A (lst l s) := by
  by_cases h4 : s = 4
  · subst h4
    exact ⟨none, 0, fun W => ned_4 d W, ⟨by simp [lst], .inl rfl⟩⟩
  · have e : lst l s = l s := by unfold lst; rw [if_neg (by omega)]; rfl
    rw [e]
    refine ⟨d.A s, d.c s, fun W => ?_, h.il s (by omega)⟩
    rw [← h.ln s (by omega)]
    exact ned_in d s W (by omega)
theorem chg_any (d : PD) (l : Nat → List Int) (f t : Int) (w : World) (h : Rl w d l) (hn : ∀ k, k < 4 → (l k).length ≤ 1000) : Calls Try.prog 21 #[.agg d.cells, .int .i64 f, .int .i64 t] w (ChQ w (chgR l f t)) := by
  unfold chgR
  cases hf : isS f with
  | false => exact chg_no1 d f t w hf
  | true =>
    cases ht : isS t with
    | false => exact chg_no2 d f t w hf ht
    | true =>
      have bd : ∀ s, isS s = true → ∃ k : Nat, s = k ∧ k ≤ 4 := fun s hs => by
        unfold isS at hs
        rw [Bool.and_eq_true] at hs
        have h1 := of_decide_eq_true hs.1
        have h2 := of_decide_eq_true hs.2
        exact ⟨s.toNat, by omega, by omega⟩
      obtain ⟨f, rfl, hf4⟩ := bd f hf
      obtain ⟨t, rfl, ht4⟩ := bd t ht
      obtain ⟨Af, cf, nf, hlf⟩ := ned_of h f hf4
      obtain ⟨At, ct, nt, hlt⟩ := ned_of h t ht4
      have LN : ∀ s : Nat, s ≤ 4 → (lst l s).length ≤ 1000 := fun s hs => by
        unfold lst
        split
        · simp
        · exact hn s (by omega)
      cases ha : (ascL (lst l f) && ascL (lst l t)) with
      | false =>
        have e : (true && true && ascL (lst l f) && ascL (lst l t)) = false := by simpa using ha
        rw [e]
        exact chg_no3 d f t Af At _ _ cf ct w hf4 ht4 nf nt hlf hlt ha
      | true =>
        rw [Bool.and_eq_true] at ha
        rw [ha.1, ha.2]
        exact chg_yes d f t Af At _ _ cf ct w hf4 ht4 nf nt hlf hlt ha.1 ha.2 (LN f hf4) (LN t ht4)
end Go.Proofs.Ytejfopjnokopeaa
