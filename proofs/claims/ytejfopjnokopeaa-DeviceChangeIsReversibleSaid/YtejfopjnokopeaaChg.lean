/- Change, where it succeeds and releases at most one rail. -/
import Derived.Test.YtejfopjnokopeaaChk
namespace Go.Proofs.Ytejfopjnokopeaa
open Go.ChangeShapes Go.WideShapes Go.ChangeAt Go.RowKit Go.Deep Go.Joins

def ChP (w : World) (la lr : List Int) (e : Ending) (w' : World) : Prop := ∃ A1 c1 A2 c2, e = .returned (.tuple #[.slice A1 la.length c1, .slice A2 lr.length c2, .int .i64 0]) ∧ Il w' A1 la ∧ Il w' A2 lr ∧ Below w.heap.size w w'
theorem own_il {w : World} {base n : Nat} {v : Value} {l : List Int} (h : w.ownsRow base 3 1 v n (l.map (.int .i64))) (hn : l.length = n) : ∃ A c, v = .slice A n c ∧ Il w A l := by
  rcases h.2 with ⟨rfl, h0⟩ | ⟨g, cap, cur, rfl, hbg, hg, hnc, hcm, _⟩
  · have h0 : n = 0 := by simpa using h0
    subst h0
    have : l = [] := List.eq_nil_of_length_eq_zero hn
    exact ⟨none, 0, rfl, by rw [hn]; omega, .inl this⟩
  · refine ⟨_, cap, rfl, by rw [hn]; unfold maxLen at hcm; omega, .inr ⟨g, 0, rfl, blk_lt hg, fun i hi => ?_⟩⟩
    rw [Nat.zero_add, h.cellAt i (by omega), List.getElem?_map, List.getElem?_eq_getElem hi, List.getD_eq_getElem?_getD, List.getElem?_eq_getElem hi]
    rfl
/-- What 'needed' gives at a state. -/
def Ned (d : PD) (s : Nat) (A : Option Addr) (l : List Int) (c : Nat) : Prop := ∀ W, Calls Try.prog 44 #[.agg d.cells, .int .i64 s] W fun e w' => e = .returned (.slice A l.length c) ∧ Below W.heap.size W w'
set_option maxRecDepth 20000 in
set_option maxHeartbeats 16000000 in
theorem chg_ok (d : PD) (f t : Nat) (Af At : Option Addr) (lf lt : List Int) (cf ct : Nat) (w : World) (hf : f ≤ 4) (ht : t ≤ 4) (nf : Ned d f Af lf cf) (nt : Ned d t At lt ct) (hlf : Il w Af lf) (hlt : Il w At lt) (af : ascL lf = true) (at' : ascL lt = true)
    (n1 : lf.length ≤ 1000) (n2 : lt.length ≤ 1000) (hr : (misL lf lt lf.length).length ≤ 1) : Calls Try.prog 21 #[.agg d.cells, .int .i64 f, .int .i64 t] w (ChP w (misL lt lf lt.length) (misL lf lt lf.length)) := by
  have b1 : Below w.heap.size w (w.alloc (.cells d.cells 33)) := bal (Below.refl _ _) _
  have C1 := Lib.hid (c13_new w d)
  have B1 := Lib.hid b1
  have HF := Lib.hid (hlf.below b1)
  have HT := Lib.hid (hlt.below b1)
  have NF := Lib.hid nf
  have NT := Lib.hid nt
  have IF : ∀ W, Calls Try.prog 42 #[.int .i64 f] W fun e w' => e = .returned (.bool true) ∧ W = w' := fun W => by
    have := iss_any f W
    rwa [show isS f = true by unfold isS; rw [decide_eq_true (by omega), decide_eq_true (by omega)]; rfl] at this
  have IT : ∀ W, Calls Try.prog 42 #[.int .i64 t] W fun e w' => e = .returned (.bool true) ∧ W = w' := fun W => by
    have := iss_any t W
    rwa [show isS t = true by unfold isS; rw [decide_eq_true (by omega), decide_eq_true (by omega)]; rfl] at this
  have AF := Lib.hid (fun W (h : Il W Af lf) => by have := asc_any Af cf lf W h; rwa [af] at this)
  have AT := Lib.hid (fun W (h : Il W At lt) => by have := asc_any At ct lt W h; rwa [at'] at this)
  have IF := Lib.hid IF
  have IT := Lib.hid IT
  clear b1 hlf hlt nf nt
  go_enter Try.func21, Try.ntmps21
  go_upto_region 1 with fail
  generalize w.alloc (.cells d.cells 33) = w1 at *
  generalize hZ : w.heap.size = Z at C1 ⊢
  have HZ := Lib.hid hZ
  clear hZ
  obtain ⟨hl1, x0, x1, x2, x3, x4, x5, x6, x7, x8, x9, x10, x11, x12⟩ := C1.out
  go_wp2_with fail
  refine (IF.out _).mono ?_
  rintro e w2 ⟨rfl, rfl⟩
  go_wp2_with fail
  refine (IT.out _).mono ?_
  rintro e w2 ⟨rfl, rfl⟩
  go_wp2_with fail
  refine (NF.out _).mono ?_
  rintro e w2 ⟨rfl, hb2⟩
  have B2 := Lib.hid hb2
  clear hl1 x0 x1 x2 x3 x4 x5 x6 x7 x8 x9 x10 x11 x12 hb2
  go_wp2_with fail
  refine (AF.out _ (HF.out.below B2.out)).mono ?_
  rintro e w3 ⟨rfl, hb3⟩
  have B3 := Lib.hid (bel2 B2.out hb3)
  clear hb3 B2
  obtain ⟨hl1, x0, x1, x2, x3, x4, x5, x6, x7, x8, x9, x10, x11, x12⟩ := C1.out.below B3.out
  go_wp2_with fail
  refine (NT.out _).mono ?_
  rintro e w4 ⟨rfl, hb4⟩
  have B4 := Lib.hid (bel2 B3.out hb4)
  clear hl1 x0 x1 x2 x3 x4 x5 x6 x7 x8 x9 x10 x11 x12 hb4 B3
  go_wp2_with fail
  refine (AT.out _ (HT.out.below B4.out)).mono ?_
  rintro e w5 ⟨rfl, hb5⟩
  have B5 := Lib.hid (bel2 B4.out hb5)
  clear hb5 B4
  have C5 := Lib.hid (C1.out.below B5.out)
  have KC := Lib.hid (fun W (hb : Below w5.heap.size w5 W) => C5.out.below hb)
  have LT5 := Lib.hid (HT.out.below B5.out)
  have LF5 := Lib.hid (HF.out.below B5.out)
  go_upto_region 3 with fail
  refine wp_region_noPanic ?_
  refine wp_region_held_drew (S := fun W => C13 W Z d) (by kernel_rfl) (KC.out _ (Below.refl _ w5).drew) (fun hHeld => ?_)
  refine wpAnyH_take (i := 0) (v := ?v0) (by simp only [List.getElem?_toArray, List.getElem?_cons_zero]; rfl) (by kernel_rfl) (by kernel_rfl) (by kernel_rfl) (fun _ _ _ h => h) (Or.inl ⟨by rfl, ?y0⟩) hHeld ?_
  case y0 => (intro w hSw; obtain ⟨hl, y0, y1, y2, y3, y4, y5, y6, y7, y8, y9, y10, y11, y12⟩ := hSw; go_simp <;> with_reducible rfl)
  simp only [Act.put, List.setIfInBounds_toArray, List.set_cons_zero, List.set_cons_succ]
  refine wpAnyH_take (i := 1) (v := ?v1) (by simp only [List.getElem?_toArray, List.getElem?_cons_succ, List.getElem?_cons_zero]; rfl) (by kernel_rfl) (by kernel_rfl) (by kernel_rfl) (fun _ _ _ h => h) (Or.inl ⟨by rfl, ?y1⟩) hHeld ?_
  case y1 => (intro w hSw; go_simp <;> with_reducible rfl)
  simp only [Act.put, List.setIfInBounds_toArray, List.set_cons_zero, List.set_cons_succ]
  refine wpAnyH_take (i := 3) (v := ?v3) (by simp only [List.getElem?_toArray, List.getElem?_cons_succ, List.getElem?_cons_zero]; rfl) (by kernel_rfl) (by kernel_rfl) (by kernel_rfl) (fun _ _ _ h => h) (Or.inl ⟨by rfl, ?y3⟩) hHeld ?_
  case y3 => (intro w hSw; obtain ⟨hl, y0, y1, y2, y3, y4, y5, y6, y7, y8, y9, y10, y11, y12⟩ := hSw; go_simp <;> with_reducible rfl)
  simp only [Act.put, List.setIfInBounds_toArray, List.set_cons_zero, List.set_cons_succ]
  refine wpAnyH_take (i := 4) (v := ?v4) (by simp only [List.getElem?_toArray, List.getElem?_cons_succ, List.getElem?_cons_zero]; rfl) (by kernel_rfl) (by kernel_rfl) (by kernel_rfl) (fun _ _ _ h => h) (Or.inl ⟨by rfl, ?y4⟩) hHeld ?_
  case y4 => (intro w hSw; go_simp <;> with_reducible rfl)
  simp only [Act.put, List.setIfInBounds_toArray, List.set_cons_zero, List.set_cons_succ]
  refine wpAnyH_ready (rs := [2]) (by kernel_rfl) (by simp) ?_
  refine AllReadyH.cons (by simp only [List.getElem?_toArray, List.getElem?_cons_succ, List.getElem?_cons_zero]; rfl) (fun K hK => ?_) ?_
  rotate_left
  · exact AllReadyH.nil
  go_simp
  go_at_call 44
  refine (NT.out _).mono ?_
  rintro e w7 ⟨rfl, hb7⟩
  go_wp2_with fail
  refine hK.out _ _ ?_ (fun hHeld => ?_)
  · exact KC.out _ ((Below.refl _ w5).drew.trans (hb7.mono (Nat.le_refl _)))
  clear hK K
  have b7 : Below w5.heap.size w5 w7 := (Below.refl _ w5).drew.trans (hb7.mono (Nat.le_refl _))
  refine wpAnyH_ready (rs := [5]) (by kernel_rfl) (by simp) ?_
  refine AllReadyH.cons (by simp only [List.getElem?_toArray, List.getElem?_cons_succ, List.getElem?_cons_zero]; rfl) (fun K hK => ?_) ?_
  rotate_left
  · exact AllReadyH.nil
  go_simp
  go_at_call 44
  refine (NF.out _).mono ?_
  rintro e w8 ⟨rfl, hb8⟩
  go_wp2_with fail
  refine hK.out _ _ ?_ (fun hHeld => ?_)
  · exact KC.out _ (bel2 b7 hb8)
  clear hK K
  have b8 := bel2 b7 hb8
  have PM := mis_any At Af ct cf lt lf w8 (LT5.out.below b8) (LF5.out.below b8) (by omega)
  refine wpAnyH_ready (rs := [6]) (by kernel_rfl) (by simp) ?_
  refine AllReadyH.cons (by simp only [List.getElem?_toArray, List.getElem?_cons_succ, List.getElem?_cons_zero]; rfl) (fun K hK => ?_) ?_
  rotate_left
  · exact AllReadyH.nil
  go_simp
  go_at_call 45
  refine PM.mono ?_
  clear PM
  rintro e w9 ⟨v9, rfl, hO9, hb9⟩
  go_wp2_with fail
  refine hK.out _ _ ?_ (fun hHeld => ?_)
  · exact KC.out _ (bel2 b8 hb9)
  clear hK K
  have BM := And.intro hO9 (bel2 b8 hb9)
  refine wpAnyH_take (i := 7) (v := ?v7) (by simp only [List.getElem?_toArray, List.getElem?_cons_succ, List.getElem?_cons_zero]; rfl) (by kernel_rfl) (by kernel_rfl) (by kernel_rfl) (fun _ _ _ h => h) (Or.inl ⟨by rfl, ?y7⟩) hHeld ?_
  case y7 => (intro w hSw; go_simp <;> with_reducible rfl)
  simp only [Act.put, List.setIfInBounds_toArray]
  refine wpAnyH_done (by kernel_rfl) ?_ _
  refine NoPanic.normal ?_
  obtain ⟨A9, c9, rfl, I9⟩ := own_il BM.1 rfl
  have I9 := Lib.hid I9
  have B9 := Lib.hid BM.2
  clear BM hHeld b7 b8 hO9 hb9 hb8 hb7
  have C9 := Lib.hid (C5.out.below B9.out)
  have KC9 := Lib.hid (fun W (hb : Below w9.heap.size w9 W) => C9.out.below hb)
  have LT9 := Lib.hid (LT5.out.below B9.out)
  have LF9 := Lib.hid (LF5.out.below B9.out)
  have B9 := Lib.hid (bel2 B5.out B9.out)
  go_upto_region 4 with fail
  refine wp_region_noPanic ?_
  refine wp_region_held_drew (S := fun W => C13 W Z d) (by kernel_rfl) (KC9.out _ (Below.refl _ w9).drew) (fun hHeld => ?_)
  refine wpAnyH_take (i := 0) (v := ?vz0) (by simp only [List.getElem?_toArray, List.getElem?_cons_zero]; rfl) (by kernel_rfl) (by kernel_rfl) (by kernel_rfl) (fun _ _ _ h => h) (Or.inl ⟨by rfl, ?yz0⟩) hHeld ?_
  case yz0 => (intro w hSw; obtain ⟨hl, y0, y1, y2, y3, y4, y5, y6, y7, y8, y9, y10, y11, y12⟩ := hSw; go_simp <;> with_reducible rfl)
  simp only [Act.put, List.setIfInBounds_toArray, List.set_cons_zero, List.set_cons_succ]
  refine wpAnyH_take (i := 1) (v := ?vz1) (by simp only [List.getElem?_toArray, List.getElem?_cons_succ, List.getElem?_cons_zero]; rfl) (by kernel_rfl) (by kernel_rfl) (by kernel_rfl) (fun _ _ _ h => h) (Or.inl ⟨by rfl, ?yz1⟩) hHeld ?_
  case yz1 => (intro w hSw; go_simp <;> with_reducible rfl)
  simp only [Act.put, List.setIfInBounds_toArray, List.set_cons_zero, List.set_cons_succ]
  refine wpAnyH_take (i := 3) (v := ?vz3) (by simp only [List.getElem?_toArray, List.getElem?_cons_succ, List.getElem?_cons_zero]; rfl) (by kernel_rfl) (by kernel_rfl) (by kernel_rfl) (fun _ _ _ h => h) (Or.inl ⟨by rfl, ?yz3⟩) hHeld ?_
  case yz3 => (intro w hSw; obtain ⟨hl, y0, y1, y2, y3, y4, y5, y6, y7, y8, y9, y10, y11, y12⟩ := hSw; go_simp <;> with_reducible rfl)
  simp only [Act.put, List.setIfInBounds_toArray, List.set_cons_zero, List.set_cons_succ]
  refine wpAnyH_take (i := 4) (v := ?vz4) (by simp only [List.getElem?_toArray, List.getElem?_cons_succ, List.getElem?_cons_zero]; rfl) (by kernel_rfl) (by kernel_rfl) (by kernel_rfl) (fun _ _ _ h => h) (Or.inl ⟨by rfl, ?yz4⟩) hHeld ?_
  case yz4 => (intro w hSw; go_simp <;> with_reducible rfl)
  simp only [Act.put, List.setIfInBounds_toArray, List.set_cons_zero, List.set_cons_succ]
  refine wpAnyH_ready (rs := [2]) (by kernel_rfl) (by simp) ?_
  refine AllReadyH.cons (by simp only [List.getElem?_toArray, List.getElem?_cons_succ, List.getElem?_cons_zero]; rfl) (fun K hK => ?_) ?_
  rotate_left
  · exact AllReadyH.nil
  go_simp
  go_at_call 44
  refine (NF.out _).mono ?_
  rintro e w7 ⟨rfl, hb7⟩
  go_wp2_with fail
  refine hK.out _ _ ?_ (fun hHeld => ?_)
  · exact KC9.out _ ((Below.refl _ w9).drew.trans (hb7.mono (Nat.le_refl _)))
  clear hK K
  have b7 : Below w9.heap.size w9 w7 := (Below.refl _ w9).drew.trans (hb7.mono (Nat.le_refl _))
  refine wpAnyH_ready (rs := [5]) (by kernel_rfl) (by simp) ?_
  refine AllReadyH.cons (by simp only [List.getElem?_toArray, List.getElem?_cons_succ, List.getElem?_cons_zero]; rfl) (fun K hK => ?_) ?_
  rotate_left
  · exact AllReadyH.nil
  go_simp
  go_at_call 44
  refine (NT.out _).mono ?_
  rintro e w8 ⟨rfl, hb8⟩
  go_wp2_with fail
  refine hK.out _ _ ?_ (fun hHeld => ?_)
  · exact KC9.out _ (bel2 b7 hb8)
  clear hK K
  have b8 := bel2 b7 hb8
  have PM := mis_any Af At cf ct lf lt w8 (LF9.out.below b8) (LT9.out.below b8) (by omega)
  refine wpAnyH_ready (rs := [6]) (by kernel_rfl) (by simp) ?_
  refine AllReadyH.cons (by simp only [List.getElem?_toArray, List.getElem?_cons_succ, List.getElem?_cons_zero]; rfl) (fun K hK => ?_) ?_
  rotate_left
  · exact AllReadyH.nil
  go_simp
  go_at_call 45
  refine PM.mono ?_
  clear PM
  rintro e wz ⟨v9, rfl, hO9, hb9⟩
  go_wp2_with fail
  refine hK.out _ _ ?_ (fun hHeld => ?_)
  · exact KC9.out _ (bel2 b8 hb9)
  clear hK K
  have BM := And.intro hO9 (bel2 b8 hb9)
  refine wpAnyH_take (i := 7) (v := ?vz7) (by simp only [List.getElem?_toArray, List.getElem?_cons_succ, List.getElem?_cons_zero]; rfl) (by kernel_rfl) (by kernel_rfl) (by kernel_rfl) (fun _ _ _ h => h) (Or.inl ⟨by rfl, ?yz7⟩) hHeld ?_
  case yz7 => (intro w hSw; go_simp <;> with_reducible rfl)
  simp only [Act.put, List.setIfInBounds_toArray]
  refine wpAnyH_done (by kernel_rfl) ?_ _
  refine NoPanic.normal ?_
  obtain ⟨AA, cA, rfl, IA⟩ := own_il BM.1 rfl
  have IA := Lib.hid IA
  have I9 := Lib.hid (I9.out.below BM.2)
  have BA := Lib.hid (bel2 B1.out (bel2 B9.out BM.2))
  clear BM hHeld
  have RV := Lib.hid (fun W => rev_small AA (misL lf lt lf.length).length cA W hr)
  have G : Hid (ChP w (misL lt lf lt.length) (misL lf lt lf.length) (.returned (.tuple #[.slice A9 (misL lt lf lt.length).length c9, .slice AA (misL lf lt lf.length).length cA, .int .i64 0])) wz) := ⟨_, _, _, _, rfl, I9.out, IA.out, BA.out⟩
  clear I9 IA BA
  generalize misL lt lf lt.length = la at *
  generalize misL lf lt lf.length = lr at *
  go_wp2_with (go_at_call 46; refine (RV.out _).mono ?_; rintro e wy ⟨rfl, rfl⟩)
  refine bodyPost_ret (results_tmp3 rfl _ _ _) rfl ?_
  exact G.out
end Go.Proofs.Ytejfopjnokopeaa
