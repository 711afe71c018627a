/- The reference: Activate, Pulse. -/
import Derived.Test.YtmhabdpnakbfpaaRme
namespace Go.Proofs.Ytmhabdpnakbfpaa
open Go.ChangeShapes Go.WideShapes Go.ChangeAt Go.RowKit Go.Deep Go.Joins

section
variable {w : World} {s : WS} {y : Ry}
set_option maxRecDepth 20000 in
set_option maxHeartbeats 4000000 in
theorem ract_any (h : Rk w s y) (i now : Int) : Calls Try.prog 31 #[.pointer (some ⟨y.L, 0, none⟩), .int .i64 i, .int .u64 now] w (RoP w y (actS s i now).1 (.int .i64 (actS s i now).2)) := by
  have P := Lib.hid (bad_any h i now)
  have H := Lib.hid h
  cases hv : vB s i now with
  | false =>
    have E0 : actS s i now = (s, 1) := by unfold actS; rw [hv]; rfl
    rw [hv] at P
    rw [E0]
    clear h hv E0
    go_enter Try.func31, Try.ntmps31
    go_wp2_with fail
    refine P.out.mono ?_
    clear P
    rintro e w2 ⟨rfl, rfl⟩
    go_wp2
    go_ret
    exact ⟨rfl, H.out, cy_refl⟩
  | true =>
    obtain ⟨k, rfl, hk⟩ := vB_at hv
    have E1 : actS s k now = ((adv s now).putQ k ⟨true, false, 0⟩, 0) := by unfold actS; rw [hv]; rfl
    have A := Lib.hid (radv_any h now (vtB_pos (vB_vt hv) h.ck0))
    have S := sm_adv s now
    rw [hv] at P
    rw [E1]
    generalize adv s now = t at *
    clear h hv E1
    have hkt : k < t.n := by rw [S.n]; exact hk
    go_enter Try.func31, Try.ntmps31
    go_wp2_with fail
    refine P.out.mono ?_
    clear P
    rintro e w2 ⟨rfl, rfl⟩
    go_wp2_with fail
    refine A.out.mono ?_
    clear A
    rintro e w2 ⟨rfl, hW, hC⟩
    have c0 := hW.c0
    have c1 := hW.c1
    have xo := hW.on k hkt
    obtain ⟨hv, xh, hvr⟩ := hW.hd k hkt
    have fx := hW.f y.X (.inr (.inl rfl)) k
    have fy := hW.f y.Y (.inr (.inr rfl)) k
    have lL := hW.lL
    have lX := hW.lX
    have lY := hW.lY
    have LX : y.L ≠ y.X := fun e => hW.XL e.symm
    have LY : y.L ≠ y.Y := fun e => hW.YL e.symm
    have XY := hW.XY
    have YX : y.Y ≠ y.X := fun e => hW.XY e.symm
    have hkl : (k : Int) < (t.n : Int) := by omega
    have PUT := Lib.hid (fun (z : Src) (hz : z.on = true) (hb : z.hd = true → 0 ≤ z.t ∧ z.t ≤ 2305843009213693952) (hh : Int) (hhe : (if z.hd then z.t + 1 else 0) = hh) => And.intro
      (hW.put (W := ((w2.setCell ⟨y.X, k, none⟩ (.bool true)).setCell ⟨y.Y, k, none⟩ (.int .u64 hh)).drew) k z hz hb ⟨(((Df.refl w2 _).set y.X k (.bool true) (.inl ⟨rfl, rfl⟩)).set y.Y k (.int .u64 hh) (.inr ⟨rfl, rfl⟩)).c, (((Df.refl w2 (fun b j => (b = y.X ∧ j = k) ∨ (b = y.Y ∧ j = k))).set y.X k (.bool true) (.inl ⟨rfl, rfl⟩)).set y.Y k (.int .u64 hh) (.inr ⟨rfl, rfl⟩)).f, (((Df.refl w2 (fun b j => (b = y.X ∧ j = k) ∨ (b = y.Y ∧ j = k))).set y.X k (.bool true) (.inl ⟨rfl, rfl⟩)).set y.Y k (.int .u64 hh) (.inr ⟨rfl, rfl⟩)).s⟩
        (set_far _ _ _ _ _ _ _ XY (set_same _ _ _ _ _ xo)) (by rw [hhe]; exact set_same _ _ _ _ _ (set_far _ _ _ _ _ _ _ YX xh)))
      (show CY y w ((w2.setCell ⟨y.X, k, none⟩ (.bool true)).setCell ⟨y.Y, k, none⟩ (.int .u64 hh)).drew from (cy_set (cy_set hC y.X k (.bool true) (.inr (.inl rfl))) y.Y k (.int .u64 hh) (.inr (.inr rfl))).drew))
    have F := Lib.hid (PUT.out ⟨true, false, 0⟩ rfl (fun e => by cases e) 0 rfl)
    clear PUT hW hC hvr
    go_upto_region 4 with fail
    refine wp_region_noPanic ?_
    refine wp_region_held_drew (S := fun W => W.cell? ⟨y.L, 0, none⟩ = some (.slice (some ⟨y.X, 0, none⟩) t.n y.c) ∧ W.cell? ⟨y.L, 1, none⟩ = some (.slice (some ⟨y.Y, 0, none⟩) t.n y.d)) (by kernel_rfl) (⟨c0, c1⟩) (fun hHeld => ?_)
    refine wpAnyH_take (i := 0) (v := ?va0) (by simp only [List.getElem?_toArray, List.getElem?_cons_zero]; rfl) (by kernel_rfl) (by kernel_rfl) (by kernel_rfl) (fun _ _ _ h => h) (Or.inl ⟨by rfl, ?ya0⟩) hHeld ?_
    case ya0 => (intro w hSw; go_simp <;> with_reducible rfl)
    simp only [Act.put, List.setIfInBounds_toArray, List.set_cons_zero, List.set_cons_succ]
    refine wpAnyH_take (i := 1) (v := ?va1) (by simp only [List.getElem?_toArray, List.getElem?_cons_succ, List.getElem?_cons_zero]; rfl) (by kernel_rfl) (by kernel_rfl) (by kernel_rfl) (fun _ _ _ h => h) (Or.inl ⟨by rfl, ?ya1⟩) hHeld ?_
    case ya1 => (intro w hSw; go_simp <;> with_reducible rfl)
    simp only [Act.put, List.setIfInBounds_toArray, List.set_cons_zero, List.set_cons_succ]
    refine wpAnyH_take (i := 2) (v := ?va2) (by simp only [List.getElem?_toArray, List.getElem?_cons_succ, List.getElem?_cons_zero]; rfl) (by kernel_rfl) (by kernel_rfl) (by kernel_rfl) (fun _ _ _ h => h) (Or.inl ⟨by rfl, ?ya2⟩) hHeld ?_
    case ya2 => (intro w hSw; go_simp <;> with_reducible rfl)
    simp only [Act.put, List.setIfInBounds_toArray, List.set_cons_zero, List.set_cons_succ]
    refine wpAnyH_take (i := 3) (v := ?va3) (by simp only [List.getElem?_toArray, List.getElem?_cons_succ, List.getElem?_cons_zero]; rfl) (by kernel_rfl) (by kernel_rfl) (by kernel_rfl) (fun _ _ _ h => h) (Or.inl ⟨by rfl, ?ya3⟩) hHeld ?_
    case ya3 => (intro w hSw; go_simp <;> with_reducible rfl)
    simp only [Act.put, List.setIfInBounds_toArray, List.set_cons_zero, List.set_cons_succ]
    refine wpAnyH_take (i := 4) (v := ?va4) (by simp only [List.getElem?_toArray, List.getElem?_cons_succ, List.getElem?_cons_zero]; rfl) (by kernel_rfl) (by kernel_rfl) (by kernel_rfl) (fun _ _ _ h => h) (Or.inl ⟨by rfl, ?ya4⟩) hHeld ?_
    case ya4 => (intro w hSw; go_simp <;> with_reducible rfl)
    simp only [Act.put, List.setIfInBounds_toArray, List.set_cons_zero, List.set_cons_succ]
    refine wpAnyH_take (i := 5) (v := ?va5) (by simp only [List.getElem?_toArray, List.getElem?_cons_succ, List.getElem?_cons_zero]; rfl) (by kernel_rfl) (by kernel_rfl) (by kernel_rfl) (fun _ _ _ h => h) (Or.inl ⟨by rfl, ?ya5⟩) hHeld ?_
    case ya5 => (intro w hSw; go_simp <;> with_reducible rfl)
    simp only [Act.put, List.setIfInBounds_toArray, List.set_cons_zero, List.set_cons_succ]
    refine wpAnyH_take (i := 6) (v := ?va6) (by simp only [List.getElem?_toArray, List.getElem?_cons_succ, List.getElem?_cons_zero]; rfl) (by kernel_rfl) (by kernel_rfl) (by kernel_rfl) (fun _ _ _ h => h) (Or.inl ⟨by rfl, ?ya6⟩) hHeld ?_
    case ya6 => (intro w hSw; go_simp <;> with_reducible rfl)
    simp only [Act.put, List.setIfInBounds_toArray, List.set_cons_zero, List.set_cons_succ]
    refine wpAnyH_take (i := 7) (v := ?va7) (by simp only [List.getElem?_toArray, List.getElem?_cons_succ, List.getElem?_cons_zero]; rfl) (by kernel_rfl) (by kernel_rfl) (by kernel_rfl) (fun _ _ _ h => h) (Or.inl ⟨by rfl, ?ya7⟩) hHeld ?_
    case ya7 => (intro w hSw; go_simp <;> with_reducible rfl)
    simp only [Act.put, List.setIfInBounds_toArray, List.set_cons_zero, List.set_cons_succ]
    refine wpAnyH_take (i := 8) (v := ?va8) (by simp only [List.getElem?_toArray, List.getElem?_cons_succ, List.getElem?_cons_zero]; rfl) (by kernel_rfl) (by kernel_rfl) (by kernel_rfl) (fun _ _ _ h => h) (Or.inl ⟨by rfl, ?ya8⟩) hHeld ?_
    case ya8 => (intro w hSw; go_simp <;> with_reducible rfl)
    simp only [Act.put, List.setIfInBounds_toArray, List.set_cons_zero, List.set_cons_succ]
    refine wpAnyH_take (i := 9) (v := ?va9) (by simp only [List.getElem?_toArray, List.getElem?_cons_succ, List.getElem?_cons_zero]; rfl) (by kernel_rfl) (by kernel_rfl) (by kernel_rfl) (fun _ _ _ h => h) (Or.inl ⟨by rfl, ?ya9⟩) hHeld ?_
    case ya9 => (intro w hSw; go_simp <;> with_reducible rfl)
    simp only [Act.put, List.setIfInBounds_toArray, List.set_cons_zero, List.set_cons_succ]
    refine wpAnyH_take (i := 10) (v := ?va10) (by simp only [List.getElem?_toArray, List.getElem?_cons_succ, List.getElem?_cons_zero]; rfl) (by kernel_rfl) (by kernel_rfl) (by kernel_rfl) (fun _ _ _ h => h) (Or.inl ⟨by rfl, ?ya10⟩) hHeld ?_
    case ya10 => (intro w hSw; go_simp <;> with_reducible rfl)
    simp only [Act.put, List.setIfInBounds_toArray, List.set_cons_zero, List.set_cons_succ]
    refine wpAnyH_ready (rs := [11]) (by kernel_rfl) (by simp) ?_
    refine AllReadyH.cons (by simp only [List.getElem?_toArray, List.getElem?_cons_succ, List.getElem?_cons_zero]; rfl) (fun K hK => ?_) ?_
    rotate_left
    · exact AllReadyH.nil
    go_simp
    refine hK.out _ _ ?_ (fun hHeld => ?_)
    · exact ⟨set_far _ _ _ _ _ _ _ LX c0, set_far _ _ _ _ _ _ _ LX c1⟩
    clear hK K
    refine wpAnyH_take (i := 12) (v := ?va12) (by simp only [List.getElem?_toArray, List.getElem?_cons_succ, List.getElem?_cons_zero]; rfl) (by kernel_rfl) (by kernel_rfl) (by kernel_rfl) (fun _ _ _ h => h) (Or.inl ⟨by rfl, ?ya12⟩) hHeld ?_
    case ya12 => (intro w hSw; go_simp <;> with_reducible rfl)
    simp only [Act.put, List.setIfInBounds_toArray, List.set_cons_zero, List.set_cons_succ]
    refine wpAnyH_ready (rs := [13]) (by kernel_rfl) (by simp) ?_
    refine AllReadyH.cons (by simp only [List.getElem?_toArray, List.getElem?_cons_succ, List.getElem?_cons_zero]; rfl) (fun K hK => ?_) ?_
    rotate_left
    · exact AllReadyH.nil
    go_simp
    refine hK.out _ _ ?_ (fun hHeld => ?_)
    · exact ⟨set_far _ _ _ _ _ _ _ LY (set_far _ _ _ _ _ _ _ LX c0), set_far _ _ _ _ _ _ _ LY (set_far _ _ _ _ _ _ _ LX c1)⟩
    clear hK K
    refine wpAnyH_done (by kernel_rfl) ?_ _
    refine NoPanic.normal ?_
    clear c0 c1 xo xh fx fy
    go_wp2
    go_ret
    exact ⟨rfl, F.out.1, F.out.2⟩
theorem putQ_same (t : WS) (k : Nat) : t.putQ k (t.q k) = t := by
  unfold WS.putQ
  have : (fun j => if j = k then t.q k else t.q j) = t.q := funext fun j => by
    by_cases e : j = k
    · rw [if_pos e, e]
    · rw [if_neg e]
  rw [this]
theorem src_eta {z : Src} {a b : Bool} (h1 : z.on = a) (h2 : z.hd = b) : z = ⟨a, b, z.t⟩ := by
  obtain ⟨x, y, t⟩ := z
  cases h1
  cases h2
  rfl
set_option maxRecDepth 20000 in
set_option maxHeartbeats 8000000 in
theorem rpul_yes (h : Rk w s y) (k : Nat) (hk : k < s.n) (now hold : Int) (hv : vB s k now = true) (hh : hold ≤ 1152921504606846976) (hh0 : 0 ≤ hold) :
    Calls Try.prog 32 #[.pointer (some ⟨y.L, 0, none⟩), .int .i64 k, .int .u64 now, .int .u64 hold] w (RoP w y (adv (pulQ (adv s now) k (wU (now + hold))) now) (.int .i64 0)) := by
  have hp := vtB_pos (vB_vt hv) h.ck0
  have hp2 : now ≤ 1152921504606846976 := by
    have := vB_vt hv
    unfold vtB at this
    rw [Bool.and_eq_true] at this
    exact of_decide_eq_true this.2
  have P := Lib.hid (bad_any h k now)
  have A := Lib.hid (radv_any h now hp)
  have S := sm_adv s now
  have h1 : ¬ 1152921504606846976 < hold := by omega
  rw [hv] at P
  have ex : wU (now + hold) = now + hold := by unfold wU; rw [IntKind.wrap_u64]; omega
  have e1 : IntKind.u64.wrap (now + hold) = now + hold := ex
  have e2 : IntKind.u64.wrap (now + hold + 1) = now + hold + 1 := by rw [IntKind.wrap_u64]; omega
  rw [ex]
  clear ex
  generalize adv s now = t at *
  have hkt : k < t.n := by rw [S.n]; exact hk
  have QN : Hid ((t.q k).on = false → pulQ t k (now + hold) = t.putQ k ⟨true, true, now + hold⟩) := fun e => by unfold pulQ; rw [if_neg (by rw [e]; exact Bool.false_ne_true)]
  have QH : Hid ((t.q k).on = true → (t.q k).hd = false → pulQ t k (now + hold) = t) := fun e1 e2 => by unfold pulQ; rw [if_pos e1, if_neg (by rw [e2]; exact Bool.false_ne_true)]
  have QY : Hid ((t.q k).on = true → (t.q k).hd = true → (t.q k).t < now + hold → pulQ t k (now + hold) = t.putQ k ⟨true, true, now + hold⟩) := fun e1 e2 e3 => by unfold pulQ; rw [if_pos e1, if_pos e2, if_pos e3]
  have QZ : Hid ((t.q k).on = true → (t.q k).hd = true → ¬ (t.q k).t < now + hold → pulQ t k (now + hold) = t) := fun e1 e2 e3 => by
    unfold pulQ
    rw [if_pos e1, if_pos e2, if_neg e3, ← src_eta e1 e2, putQ_same]
  generalize pulQ t k (now + hold) = u at *
  clear h hv
  go_enter Try.func32, Try.ntmps32
  go_wp2_with fail
  refine P.out.mono ?_
  clear P
  rintro e w2 ⟨rfl, rfl⟩
  go_wp2_with fail
  refine A.out.mono ?_
  clear A
  rintro e w2 ⟨rfl, hW, hC⟩
  have c0 := hW.c0
  have c1 := hW.c1
  have xo := hW.on k hkt
  obtain ⟨hv, xh, hvr⟩ := hW.hd k hkt
  have fx := hW.f y.X (.inr (.inl rfl)) k
  have fy := hW.f y.Y (.inr (.inr rfl)) k
  have lL := hW.lL
  have lX := hW.lX
  have lY := hW.lY
  have LX : y.L ≠ y.X := fun e => hW.XL e.symm
  have LY : y.L ≠ y.Y := fun e => hW.YL e.symm
  have XY := hW.XY
  have YX : y.Y ≠ y.X := fun e => hW.XY e.symm
  have hkl : (k : Int) < (t.n : Int) := by omega
  have PUT := Lib.hid (fun (z : Src) (hz : z.on = true) (hb : z.hd = true → 0 ≤ z.t ∧ z.t ≤ 2305843009213693952) (hh : Int) (hhe : (if z.hd then z.t + 1 else 0) = hh) => And.intro
    (hW.put (W := ((w2.setCell ⟨y.X, k, none⟩ (.bool true)).setCell ⟨y.Y, k, none⟩ (.int .u64 hh)).drew) k z hz hb ⟨(((Df.refl w2 _).set y.X k (.bool true) (.inl ⟨rfl, rfl⟩)).set y.Y k (.int .u64 hh) (.inr ⟨rfl, rfl⟩)).c, (((Df.refl w2 (fun b j => (b = y.X ∧ j = k) ∨ (b = y.Y ∧ j = k))).set y.X k (.bool true) (.inl ⟨rfl, rfl⟩)).set y.Y k (.int .u64 hh) (.inr ⟨rfl, rfl⟩)).f, (((Df.refl w2 (fun b j => (b = y.X ∧ j = k) ∨ (b = y.Y ∧ j = k))).set y.X k (.bool true) (.inl ⟨rfl, rfl⟩)).set y.Y k (.int .u64 hh) (.inr ⟨rfl, rfl⟩)).s⟩
      (set_far _ _ _ _ _ _ _ XY (set_same _ _ _ _ _ xo)) (by rw [hhe]; exact set_same _ _ _ _ _ (set_far _ _ _ _ _ _ _ YX xh)))
    (show CY y w ((w2.setCell ⟨y.X, k, none⟩ (.bool true)).setCell ⟨y.Y, k, none⟩ (.int .u64 hh)).drew from (cy_set (cy_set hC y.X k (.bool true) (.inr (.inl rfl))) y.Y k (.int .u64 hh) (.inr (.inr rfl))).drew))
  have PU1 := Lib.hid (fun (z : Src) (hz : z.on = true) (hb : z.hd = true → 0 ≤ z.t ∧ z.t ≤ 2305843009213693952) (hon : (t.q k).on = true) (hh : Int) (hhe : (if z.hd then z.t + 1 else 0) = hh) => And.intro
    (hW.put (W := w2.setCell ⟨y.Y, k, none⟩ (.int .u64 hh)) k z hz hb ((Df.refl w2 _).set y.Y k (.int .u64 hh) (.inr ⟨rfl, rfl⟩)) (set_far _ _ _ _ _ _ _ XY (by rw [← hon]; exact xo)) (by rw [hhe]; exact set_same _ _ _ _ _ xh))
    (show CY y w (w2.setCell ⟨y.Y, k, none⟩ (.int .u64 hh)) from cy_set hC y.Y k (.int .u64 hh) (.inr (.inr rfl))))
  have PA : Hid (∀ W, Rk W u y → CY y w W → Calls Try.prog 41 #[.pointer (some ⟨y.L, 0, none⟩), .int .u64 now] W (RoP w y (adv u now) (.tuple #[]))) := fun W hu hc => (radv_any hu now hp).mono fun e w' ⟨a, b, c⟩ => ⟨a, b, hc.trans' c⟩
  generalize adv u now = v at *
  have F0 := Lib.hid (And.intro hW hC)
  have tb := hW.tb k hkt
  clear hW hC
  generalize (t.q k).on = on at *
  generalize (t.q k).hd = hd at *
  generalize (t.q k).t = tt at *
  cases on with
  | false =>
    have F := Lib.hid (PUT.out ⟨true, true, now + hold⟩ rfl (fun _ => by simp only; omega) (now + hold + 1) rfl)
    have E := QN.out rfl
    rw [← E] at F
    clear PUT PU1 QN QH QY QZ hvr F0 tb E
    go_upto_region 5 with fail
    refine wp_region_noPanic ?_
    refine wp_region_held_drew (S := fun W => W.cell? ⟨y.L, 0, none⟩ = some (.slice (some ⟨y.X, 0, none⟩) t.n y.c) ∧ W.cell? ⟨y.L, 1, none⟩ = some (.slice (some ⟨y.Y, 0, none⟩) t.n y.d)) (by kernel_rfl) (⟨c0, c1⟩) (fun hHeld => ?_)
    refine wpAnyH_take (i := 0) (v := ?vb0) (by simp only [List.getElem?_toArray, List.getElem?_cons_zero]; rfl) (by kernel_rfl) (by kernel_rfl) (by kernel_rfl) (fun _ _ _ h => h) (Or.inl ⟨by rfl, ?yb0⟩) hHeld ?_
    case yb0 => (intro w hSw; go_simp <;> with_reducible rfl)
    simp only [Act.put, List.setIfInBounds_toArray, List.set_cons_zero, List.set_cons_succ]
    refine wpAnyH_take (i := 1) (v := ?vb1) (by simp only [List.getElem?_toArray, List.getElem?_cons_succ, List.getElem?_cons_zero]; rfl) (by kernel_rfl) (by kernel_rfl) (by kernel_rfl) (fun _ _ _ h => h) (Or.inl ⟨by rfl, ?yb1⟩) hHeld ?_
    case yb1 => (intro w hSw; go_simp <;> with_reducible rfl)
    simp only [Act.put, List.setIfInBounds_toArray, List.set_cons_zero, List.set_cons_succ]
    refine wpAnyH_take (i := 2) (v := ?vb2) (by simp only [List.getElem?_toArray, List.getElem?_cons_succ, List.getElem?_cons_zero]; rfl) (by kernel_rfl) (by kernel_rfl) (by kernel_rfl) (fun _ _ _ h => h) (Or.inl ⟨by rfl, ?yb2⟩) hHeld ?_
    case yb2 => (intro w hSw; go_simp <;> with_reducible rfl)
    simp only [Act.put, List.setIfInBounds_toArray, List.set_cons_zero, List.set_cons_succ]
    refine wpAnyH_take (i := 3) (v := ?vb3) (by simp only [List.getElem?_toArray, List.getElem?_cons_succ, List.getElem?_cons_zero]; rfl) (by kernel_rfl) (by kernel_rfl) (by kernel_rfl) (fun _ _ _ h => h) (Or.inl ⟨by rfl, ?yb3⟩) hHeld ?_
    case yb3 => (intro w hSw; go_simp <;> with_reducible rfl)
    simp only [Act.put, List.setIfInBounds_toArray, List.set_cons_zero, List.set_cons_succ]
    refine wpAnyH_take (i := 4) (v := ?vb4) (by simp only [List.getElem?_toArray, List.getElem?_cons_succ, List.getElem?_cons_zero]; rfl) (by kernel_rfl) (by kernel_rfl) (by kernel_rfl) (fun _ _ _ h => h) (Or.inl ⟨by rfl, ?yb4⟩) hHeld ?_
    case yb4 => (intro w hSw; go_simp <;> with_reducible rfl)
    simp only [Act.put, List.setIfInBounds_toArray, List.set_cons_zero, List.set_cons_succ]
    refine wpAnyH_take (i := 5) (v := ?vb5) (by simp only [List.getElem?_toArray, List.getElem?_cons_succ, List.getElem?_cons_zero]; rfl) (by kernel_rfl) (by kernel_rfl) (by kernel_rfl) (fun _ _ _ h => h) (Or.inl ⟨by rfl, ?yb5⟩) hHeld ?_
    case yb5 => (intro w hSw; go_simp <;> with_reducible rfl)
    simp only [Act.put, List.setIfInBounds_toArray, List.set_cons_zero, List.set_cons_succ]
    refine wpAnyH_take (i := 6) (v := ?vb6) (by simp only [List.getElem?_toArray, List.getElem?_cons_succ, List.getElem?_cons_zero]; rfl) (by kernel_rfl) (by kernel_rfl) (by kernel_rfl) (fun _ _ _ h => h) (Or.inl ⟨by rfl, ?yb6⟩) hHeld ?_
    case yb6 => (intro w hSw; go_simp <;> with_reducible rfl)
    simp only [Act.put, List.setIfInBounds_toArray, List.set_cons_zero, List.set_cons_succ]
    refine wpAnyH_take (i := 7) (v := ?vb7) (by simp only [List.getElem?_toArray, List.getElem?_cons_succ, List.getElem?_cons_zero]; rfl) (by kernel_rfl) (by kernel_rfl) (by kernel_rfl) (fun _ _ _ h => h) (Or.inl ⟨by rfl, ?yb7⟩) hHeld ?_
    case yb7 => (intro w hSw; go_simp <;> with_reducible rfl)
    simp only [Act.put, List.setIfInBounds_toArray, List.set_cons_zero, List.set_cons_succ]
    refine wpAnyH_take (i := 8) (v := ?vb8) (by simp only [List.getElem?_toArray, List.getElem?_cons_succ, List.getElem?_cons_zero]; rfl) (by kernel_rfl) (by kernel_rfl) (by kernel_rfl) (fun _ _ _ h => h) (Or.inl ⟨by rfl, ?yb8⟩) hHeld ?_
    case yb8 => (intro w hSw; go_simp <;> with_reducible rfl)
    simp only [Act.put, List.setIfInBounds_toArray, List.set_cons_zero, List.set_cons_succ]
    refine wpAnyH_take (i := 9) (v := ?vb9) (by simp only [List.getElem?_toArray, List.getElem?_cons_succ, List.getElem?_cons_zero]; rfl) (by kernel_rfl) (by kernel_rfl) (by kernel_rfl) (fun _ _ _ h => h) (Or.inl ⟨by rfl, ?yb9⟩) hHeld ?_
    case yb9 => (intro w hSw; go_simp <;> with_reducible rfl)
    simp only [Act.put, List.setIfInBounds_toArray, List.set_cons_zero, List.set_cons_succ]
    refine wpAnyH_take (i := 10) (v := ?vb10) (by simp only [List.getElem?_toArray, List.getElem?_cons_succ, List.getElem?_cons_zero]; rfl) (by kernel_rfl) (by kernel_rfl) (by kernel_rfl) (fun _ _ _ h => h) (Or.inl ⟨by rfl, ?yb10⟩) hHeld ?_
    case yb10 => (intro w hSw; go_simp <;> with_reducible rfl)
    simp only [Act.put, List.setIfInBounds_toArray, List.set_cons_zero, List.set_cons_succ]
    refine wpAnyH_take (i := 11) (v := ?vb11) (by simp only [List.getElem?_toArray, List.getElem?_cons_succ, List.getElem?_cons_zero]; rfl) (by kernel_rfl) (by kernel_rfl) (by kernel_rfl) (fun _ _ _ h => h) (Or.inl ⟨by rfl, ?yb11⟩) hHeld ?_
    case yb11 => (intro w hSw; go_simp <;> with_reducible rfl)
    simp only [Act.put, List.setIfInBounds_toArray, List.set_cons_zero, List.set_cons_succ]
    refine wpAnyH_take (i := 12) (v := ?vb12) (by simp only [List.getElem?_toArray, List.getElem?_cons_succ, List.getElem?_cons_zero]; rfl) (by kernel_rfl) (by kernel_rfl) (by kernel_rfl) (fun _ _ _ h => h) (Or.inl ⟨by rfl, ?yb12⟩) hHeld ?_
    case yb12 => (intro w hSw; go_simp <;> with_reducible rfl)
    simp only [Act.put, List.setIfInBounds_toArray, List.set_cons_zero, List.set_cons_succ]
    refine wpAnyH_take (i := 13) (v := ?vb13) (by simp only [List.getElem?_toArray, List.getElem?_cons_succ, List.getElem?_cons_zero]; rfl) (by kernel_rfl) (by kernel_rfl) (by kernel_rfl) (fun _ _ _ h => h) (Or.inl ⟨by rfl, ?yb13⟩) hHeld ?_
    case yb13 => (intro w hSw; go_simp <;> with_reducible rfl)
    simp only [Act.put, List.setIfInBounds_toArray, List.set_cons_zero, List.set_cons_succ]
    refine wpAnyH_take (i := 14) (v := ?vb14) (by simp only [List.getElem?_toArray, List.getElem?_cons_succ, List.getElem?_cons_zero]; rfl) (by kernel_rfl) (by kernel_rfl) (by kernel_rfl) (fun _ _ _ h => h) (Or.inl ⟨by rfl, ?yb14⟩) hHeld ?_
    case yb14 => (intro w hSw; go_simp <;> with_reducible rfl)
    simp only [Act.put, List.setIfInBounds_toArray, List.set_cons_zero, List.set_cons_succ]
    refine wpAnyH_ready (rs := [15]) (by kernel_rfl) (by simp) ?_
    refine AllReadyH.cons (by simp only [List.getElem?_toArray, List.getElem?_cons_succ, List.getElem?_cons_zero]; rfl) (fun K hK => ?_) ?_
    rotate_left
    · exact AllReadyH.nil
    go_simp
    refine hK.out _ _ ?_ (fun hHeld => ?_)
    · exact ⟨set_far _ _ _ _ _ _ _ LX c0, set_far _ _ _ _ _ _ _ LX c1⟩
    clear hK K
    refine wpAnyH_take (i := 16) (v := ?vb16) (by simp only [List.getElem?_toArray, List.getElem?_cons_succ, List.getElem?_cons_zero]; rfl) (by kernel_rfl) (by kernel_rfl) (by kernel_rfl) (fun _ _ _ h => h) (Or.inl ⟨by rfl, ?yb16⟩) hHeld ?_
    case yb16 => (intro w hSw; go_simp <;> with_reducible rfl)
    simp only [Act.put, List.setIfInBounds_toArray, List.set_cons_zero, List.set_cons_succ]
    refine wpAnyH_ready (rs := [17]) (by kernel_rfl) (by simp) ?_
    refine AllReadyH.cons (by simp only [List.getElem?_toArray, List.getElem?_cons_succ, List.getElem?_cons_zero]; rfl) (fun K hK => ?_) ?_
    rotate_left
    · exact AllReadyH.nil
    go_simp
    refine hK.out _ _ ?_ (fun hHeld => ?_)
    · exact ⟨set_far _ _ _ _ _ _ _ LY (set_far _ _ _ _ _ _ _ LX c0), set_far _ _ _ _ _ _ _ LY (set_far _ _ _ _ _ _ _ LX c1)⟩
    clear hK K
    refine wpAnyH_done (by kernel_rfl) ?_ _
    refine NoPanic.normal ?_
    go_upto_region 8 with fail
    generalize ((w2.setCell ⟨y.X, k, none⟩ (.bool true)).setCell ⟨y.Y, k, none⟩ (.int .u64 (now + hold + 1))).drew = w3 at *
    have PB := PA.out w3 F.out.1 F.out.2
    clear c0 c1 xo xh fx fy hHeld
    go_wp2_with fail
    refine PB.mono ?_
    rintro e w4 ⟨rfl, hW4, hC4⟩
    have F := Lib.hid (And.intro hW4 hC4)
    clear PB hW4 hC4 PA
    go_wp2
    go_ret
    exact ⟨rfl, F.out.1, F.out.2⟩
  | true =>
    obtain rfl := hvr rfl
    cases hd with
    | false =>
      obtain rfl := QH.out rfl rfl
      have xh : w2.cell? ⟨y.Y, k, none⟩ = some (.int .u64 0) := xh
      have PB := PA.out w2 F0.out.1 F0.out.2
      clear PUT PU1 QN QY QZ hvr tb PA
      go_wp2_with fail
      refine PB.mono ?_
      rintro e w4 ⟨rfl, hW4, hC4⟩
      have F := Lib.hid (And.intro hW4 hC4)
      clear PB hW4 hC4
      go_wp2
      go_ret
      exact ⟨rfl, F.out.1, F.out.2⟩
    | true =>
      obtain ⟨t0, t1⟩ := tb rfl rfl
      have xh : w2.cell? ⟨y.Y, k, none⟩ = some (.int .u64 (tt + 1)) := xh
      have q1 : 0 < tt + 1 := by omega
      by_cases hm : tt < now + hold
      · have F := Lib.hid (PU1.out ⟨true, true, now + hold⟩ rfl (fun _ => by simp only; omega) rfl (now + hold + 1) rfl)
        have E := QY.out rfl rfl hm
        rw [← E] at F
        have q2 : tt + 1 < now + hold + 1 := by omega
        clear PUT PU1 QN QH QY QZ hvr F0 E
        go_upto_region 8 with fail
        generalize w2.setCell ⟨y.Y, k, none⟩ (.int .u64 (now + hold + 1)) = w3 at *
        have PB := PA.out w3 F.out.1 F.out.2
        clear c0 c1 xo xh fx fy
        go_wp2_with fail
        refine PB.mono ?_
        rintro e w4 ⟨rfl, hW4, hC4⟩
        have F := Lib.hid (And.intro hW4 hC4)
        clear PB hW4 hC4 PA
        go_wp2
        go_ret
        exact ⟨rfl, F.out.1, F.out.2⟩
      · obtain rfl := QZ.out rfl rfl (by omega)
        have q2 : ¬ tt + 1 < now + hold + 1 := by omega
        have PB := PA.out w2 F0.out.1 F0.out.2
        clear PUT PU1 QN QH QY hvr PA
        go_wp2_with fail
        refine PB.mono ?_
        rintro e w4 ⟨rfl, hW4, hC4⟩
        have F := Lib.hid (And.intro hW4 hC4)
        clear PB hW4 hC4
        go_wp2
        go_ret
        exact ⟨rfl, F.out.1, F.out.2⟩
set_option maxRecDepth 20000 in
set_option maxHeartbeats 4000000 in
theorem rpul_any (h : Rk w s y) (i now hold : Int) (hh0 : 0 ≤ hold) : Calls Try.prog 32 #[.pointer (some ⟨y.L, 0, none⟩), .int .i64 i, .int .u64 now, .int .u64 hold] w (RoP w y (pulS s i now hold).1 (.int .i64 (pulS s i now hold).2)) := by
  cases hv : (vB s i now && decide (hold ≤ 1152921504606846976)) with
  | true =>
    have E1 : pulS s i now hold = (adv (pulQ (adv s now) i.toNat (wU (now + hold))) now, 0) := by unfold pulS; rw [hv]; rfl
    rw [Bool.and_eq_true] at hv
    obtain ⟨k, rfl, hk⟩ := vB_at hv.1
    rw [E1]
    exact rpul_yes h k hk now hold hv.1 (of_decide_eq_true hv.2) hh0
  | false =>
    have E0 : pulS s i now hold = (s, 1) := by unfold pulS; rw [hv]; rfl
    rw [E0]
    have P := Lib.hid (bad_any h i now)
    have H := Lib.hid h
    clear h E0
    cases hb : vB s i now with
    | false =>
      rw [hb] at P
      clear hv hb
      go_enter Try.func32, Try.ntmps32
      go_wp2_with fail
      refine P.out.mono ?_
      clear P
      rintro e w2 ⟨rfl, rfl⟩
      go_wp2
      go_ret
      exact ⟨rfl, H.out, cy_refl⟩
    | true =>
      rw [hb, Bool.true_and] at hv
      have ha : ¬ hold ≤ 1152921504606846976 := of_decide_eq_false hv
      have ha2 : 1152921504606846976 < hold := by omega
      rw [hb] at P
      clear hv hb
      go_enter Try.func32, Try.ntmps32
      go_wp2_with fail
      refine P.out.mono ?_
      clear P
      rintro e w2 ⟨rfl, rfl⟩
      go_wp2
      go_ret
      exact ⟨rfl, H.out, cy_refl⟩
end
end Go.Proofs.Ytmhabdpnakbfpaa
