/- A call of a sequence, of the reference. -/
import Derived.Test.YtoafoikphpdimaaDoa
namespace Go.Proofs.Ytoafoikphpdimaa
open Go.ChangeShapes Go.WideShapes Go.ChangeAt Go.RowKit Go.Deep Go.Joins
section
variable {F : Nat → Prop} {w : World} {s : DkS} {x : RX}
set_option maxRecDepth 20000 in
set_option maxHeartbeats 16000000 in
theorem want_any (h : Rk F w s x) (hlt : ∀ b, F b → b < w.heap.size) (c : Cl) (N : Nat) (hN : 1 ≤ N ∧ N ≤ 1000000) (hB : Bs w c.A c.n c.c c.q) (hA : ∀ a, c.A = some a → 0 < c.n → ¬ F a.block) (hn : c.n ≤ 140737488355328) (hC : s.C.length ≤ 1000) :
    Calls Try.prog 15 #[.pointer (some ⟨s.L, 0, none⟩), .agg #[.int .i64 c.k, .int .i64 c.s, .int .i64 c.d, .slice c.A c.n c.c, .bool c.raw], .int .i64 N] w (RpO w F (doS s c N).1 (.tuple #[.string (doS s c N).2.1, .int .i64 (doS s c N).2.2])) := by
  have b0 : Below w.heap.size w (w.alloc (.cells #[.int .i64 c.k, .int .i64 c.s, .int .i64 c.d, .slice c.A c.n c.c, .bool c.raw] 36)) := bal (Below.refl _ _) _
  have h1 := Lib.hid (h.alloc (.cells #[.int .i64 c.k, .int .i64 c.s, .int .i64 c.d, .slice c.A c.n c.c, .bool c.raw] 36))
  have hB1 := Lib.hid (hB.below b0)
  have hZF : ¬ F w.heap.size := fun e => by have := hlt _ e; omega
  have UP : Hid (∀ e w' s' r, RpO (w.alloc (.cells #[.int .i64 c.k, .int .i64 c.s, .int .i64 c.d, .slice c.A c.n c.c, .bool c.raw] 36)) F s' r e w' → RpO w F s' r e w') := fun e w' s' r hp => RpO.comp (fun _ h => .inl h) (Chg.of_below b0 F) hp
  have z0 : (w.alloc (.cells #[.int .i64 c.k, .int .i64 c.s, .int .i64 c.d, .slice c.A c.n c.c, .bool c.raw] 36)).cell? ⟨w.heap.size, 0, none⟩ = some (.int .i64 c.k) := (new_c w _ 36 0).trans rfl
  have z1 : (w.alloc (.cells #[.int .i64 c.k, .int .i64 c.s, .int .i64 c.d, .slice c.A c.n c.c, .bool c.raw] 36)).cell? ⟨w.heap.size, 1, none⟩ = some (.int .i64 c.s) := (new_c w _ 36 1).trans rfl
  have b2 : (w.alloc (.cells #[.int .i64 c.k, .int .i64 c.s, .int .i64 c.d, .slice c.A c.n c.c, .bool c.raw] 36)).cell? ⟨w.heap.size, 2, none⟩ = some (.int .i64 c.d) := (new_c w _ 36 2).trans rfl
  have b3 : (w.alloc (.cells #[.int .i64 c.k, .int .i64 c.s, .int .i64 c.d, .slice c.A c.n c.c, .bool c.raw] 36)).cell? ⟨w.heap.size, 3, none⟩ = some (.slice c.A c.n c.c) := (new_c w _ 36 3).trans rfl
  have z4 : (w.alloc (.cells #[.int .i64 c.k, .int .i64 c.s, .int .i64 c.d, .slice c.A c.n c.c, .bool c.raw] 36)).cell? ⟨w.heap.size, 4, none⟩ = some (.bool c.raw) := (new_c w _ 36 4).trans rfl
  have hZ : w.heap.size < (w.alloc (.cells #[.int .i64 c.k, .int .i64 c.s, .int .i64 c.d, .slice c.A c.n c.c, .bool c.raw] 36)).heap.size := by simp
  have E := Lib.hid (doS_cases s c N)
  generalize doS s c N = R at *
  have AT : Hid (atI c N = if c.raw then c.s else (modOf c.s N : Nat)) := rfl
  generalize c.raw = raw at *
  go_enter Try.func15, Try.ntmps15
  go_upto_region 1 with fail
  clear b0
  generalize w.alloc (.cells #[.int .i64 c.k, .int .i64 c.s, .int .i64 c.d, .slice c.A c.n c.c, .bool raw] 36) = w1 at *
  generalize w.heap.size = Z at *
  have M1 := mod_any c.s N (by omega) (by omega) w1
  have M2 := mod_any c.k 10 (by omega) (by omega) w1
  have M2l := (modOf_spec c.k 10 (by omega) (by omega)).2
  have M6 := mod_any c.d 6 (by omega) (by omega)
  have M6l := (modOf_spec c.d 6 (by omega) (by omega)).2
  go_upto_if 14 with (go_at_call 11; refine M1.mono ?_; rintro e w5 ⟨rfl, rfl⟩)
  go_cut [8] (fun v wx => v = .int .i64 (atI c N) ∧ w1 = wx)
  case first =>
    cases raw with
    | true =>
      have e : atI c N = c.s := by rw [AT.out, if_pos rfl]
      have e := Lib.hid e
      clear E AT h1 hB1 UP M6 M2 M1
      go_wp2
      go_meet
      exact ⟨by rw [e.out], rfl⟩
    | false =>
      have e : atI c N = (modOf c.s N : Nat) := by rw [AT.out, if_neg (by simp)]
      have e := Lib.hid e
      clear E AT h1 hB1 UP M6 M2 M1
      go_wp2
      go_meet
      exact ⟨by rw [e.out], rfl⟩
  case rest =>
  obtain ⟨rfl, rfl⟩ := hcut
  generalize atI c N = at_ at *
  clear AT M1
  generalize modOf c.k 10 = k at *
  generalize modOf c.d 6 = m6 at *
  have PW := Lib.hid (fun d => rwrite_any h1.out at_ d hC)
  have PR := Lib.hid (rread_any h1.out at_)
  have PF := Lib.hid (rflush_any h1.out)
  have P6 := Lib.hid (rcut_any h1.out hB1.out hn ((m6 : Int) - 1) (by omega))
  have PO := Lib.hid (roff_any h1.out hB1.out (fun a e h0 => ⟨fun e2 => hA a e h0 (by have e2 : a.block = s.L := e2; rw [e2]; exact h1.out.FL), fun e2 => hA a e h0 (by have e2 : a.block = s.X := e2; rw [e2]; exact h1.out.FX)⟩))
  have PN := Lib.hid (ron_any h1.out)
  have KEEP : Hid (RpO w1 F s (.tuple #[]) (.returned (.tuple #[])) w1) := ⟨rfl, _, Rw.refl h1.out⟩
  have SEC := Lib.hid (fun W => sec_any c.d W)
  have DN := Lib.hid (fun W (hb : Below w1.heap.size w1 W) => h1.out.below hb)
  clear hB hA
  rcases (show k = 0 ∨ k = 1 ∨ k = 2 ∨ k = 3 ∨ k = 4 ∨ k = 5 ∨ k = 6 ∨ k = 7 ∨ k = 8 ∨ k = 9 by omega) with rfl | rfl | rfl | rfl | rfl | rfl | rfl | rfl | rfl | rfl
  · have ER := Lib.hid (E.out.1 (by decide))
    clear E PR PF P6 PO PN KEEP M6 PW h1
    go_wp2_with (first
      | (go_at_call 11; refine M2.mono ?_; rintro e w5 ⟨rfl, rfl⟩)
      | (go_at_call 25; refine (SEC.out _).mono ?_; rintro e w5 ⟨rfl, hb5⟩; have P := (rwrite_any (DN.out _ hb5) at_ (secS c.d) hC); have HB5 := Lib.hid hb5; clear hb5)
      | (go_at_call 31; refine P.mono ?_; intro e w6 hp; have hp := RpO.comp (fun _ h => Or.inl h) (Chg.of_below HB5.out F) hp; have hp := UP.out _ _ _ _ hp; obtain ⟨rfl, HX⟩ := hp; have HX := Lib.hid HX; clear P))
    go_ret2
    rw [ER.out]
    exact ⟨rfl, HX.out⟩
  · have ER := Lib.hid (E.out.1 (by decide))
    clear E PR PF P6 PO PN KEEP M6 PW h1
    go_wp2_with (first
      | (go_at_call 11; refine M2.mono ?_; rintro e w5 ⟨rfl, rfl⟩)
      | (go_at_call 25; refine (SEC.out _).mono ?_; rintro e w5 ⟨rfl, hb5⟩; have P := (rwrite_any (DN.out _ hb5) at_ (secS c.d) hC); have HB5 := Lib.hid hb5; clear hb5)
      | (go_at_call 31; refine P.mono ?_; intro e w6 hp; have hp := RpO.comp (fun _ h => Or.inl h) (Chg.of_below HB5.out F) hp; have hp := UP.out _ _ _ _ hp; obtain ⟨rfl, HX⟩ := hp; have HX := Lib.hid HX; clear P))
    go_ret2
    rw [ER.out]
    exact ⟨rfl, HX.out⟩
  · have ER := Lib.hid (E.out.1 (by decide))
    clear E PR PF P6 PO PN KEEP M6 PW h1
    go_wp2_with (first
      | (go_at_call 11; refine M2.mono ?_; rintro e w5 ⟨rfl, rfl⟩)
      | (go_at_call 25; refine (SEC.out _).mono ?_; rintro e w5 ⟨rfl, hb5⟩; have P := (rwrite_any (DN.out _ hb5) at_ (secS c.d) hC); have HB5 := Lib.hid hb5; clear hb5)
      | (go_at_call 31; refine P.mono ?_; intro e w6 hp; have hp := RpO.comp (fun _ h => Or.inl h) (Chg.of_below HB5.out F) hp; have hp := UP.out _ _ _ _ hp; obtain ⟨rfl, HX⟩ := hp; have HX := Lib.hid HX; clear P))
    go_ret2
    rw [ER.out]
    exact ⟨rfl, HX.out⟩
  · have ER := Lib.hid (E.out.1 (by decide))
    clear E PR PF P6 PO PN KEEP M6 PW h1
    go_wp2_with (first
      | (go_at_call 11; refine M2.mono ?_; rintro e w5 ⟨rfl, rfl⟩)
      | (go_at_call 25; refine (SEC.out _).mono ?_; rintro e w5 ⟨rfl, hb5⟩; have P := (rwrite_any (DN.out _ hb5) at_ (secS c.d) hC); have HB5 := Lib.hid hb5; clear hb5)
      | (go_at_call 31; refine P.mono ?_; intro e w6 hp; have hp := RpO.comp (fun _ h => Or.inl h) (Chg.of_below HB5.out F) hp; have hp := UP.out _ _ _ _ hp; obtain ⟨rfl, HX⟩ := hp; have HX := Lib.hid HX; clear P))
    go_ret2
    rw [ER.out]
    exact ⟨rfl, HX.out⟩
  · have ER := Lib.hid (E.out.2.1 rfl)
    have KX := UP.out _ _ _ _ KEEP.out
    obtain ⟨-, KX⟩ := KX
    have KX := Lib.hid KX
    clear E PW PF P6 PO PN KEEP M6 SEC DN h1 hB1
    go_wp2_with (first
      | (go_at_call 11; refine M2.mono ?_; rintro e w5 ⟨rfl, rfl⟩)
      | (go_at_call 32; refine PR.out.mono ?_; rintro e w6 ⟨rfl, rfl⟩))
    go_ret2
    rw [ER.out]
    exact ⟨rfl, KX.out⟩
  · have ER := Lib.hid (E.out.2.2.1 rfl)
    clear E PW PR P6 PO PN KEEP M6 SEC DN h1 hB1
    go_wp2_with (first
      | (go_at_call 11; refine M2.mono ?_; rintro e w5 ⟨rfl, rfl⟩)
      | (go_at_call 33; refine PF.out.mono ?_; intro e w6 hp; have hp := UP.out _ _ _ _ hp; obtain ⟨rfl, HX⟩ := hp; have HX := Lib.hid HX))
    go_ret2
    rw [ER.out]
    exact ⟨rfl, HX.out⟩
  · have ER := Lib.hid (E.out.2.2.2.1 rfl)
    have P6 := P6.out
    have M6 := M6 w1.drew
    have hp6 : Hid (∀ e w', RpO w1.drew F (cutS s ((m6 : Int) - 1) c.q c.n) (.tuple #[]) e w' → RpO w F (cutS s ((m6 : Int) - 1) c.q c.n) (.tuple #[]) e w') := fun e w' hp => UP.out _ _ _ _ (RpO.comp (fun _ h => .inl h) (Chg.of_below (Below.refl _ w1).drew F) hp)
    have P6 := rcut_any (DN.out _ (Below.refl _ w1).drew) (hB1.out.below (Below.refl _ w1).drew) hn ((m6 : Int) - 1) (by omega)
    clear E PW PR PF PO PN KEEP SEC DN h1 hB1
    go_upto_region 16 with (go_at_call 11; refine M2.mono ?_; rintro e w5 ⟨rfl, rfl⟩)
    refine wp_region_noPanic ?_
    refine wp_region_held_drew (S := fun W => W.cell? ⟨Z, 2, none⟩ = some (.int .i64 c.d) ∧ W.cell? ⟨Z, 3, none⟩ = some (.slice c.A c.n c.c)) (by kernel_rfl) ((⟨b2, b3⟩)) (fun hHeld => ?_)
    refine wpAnyH_take (i := 0) (v := ?v0) (by simp only [List.getElem?_toArray, List.getElem?_cons_zero]; rfl) (by kernel_rfl) (by kernel_rfl) (by kernel_rfl) (fun _ _ _ h => h) (Or.inl ⟨by rfl, ?y0⟩) hHeld ?_
    case y0 => (intro w hSw; go_simp <;> with_reducible rfl)
    simp only [Act.put, List.setIfInBounds_toArray, List.set_cons_zero, List.set_cons_succ]
    refine wpAnyH_take (i := 1) (v := ?v1) (by simp only [List.getElem?_toArray, List.getElem?_cons_succ, List.getElem?_cons_zero]; rfl) (by kernel_rfl) (by kernel_rfl) (by kernel_rfl) (fun _ _ _ h => h) (Or.inl ⟨by rfl, ?y1⟩) hHeld ?_
    case y1 => (intro w hSw; go_simp <;> with_reducible rfl)
    simp only [Act.put, List.setIfInBounds_toArray, List.set_cons_zero, List.set_cons_succ]
    refine wpAnyH_take (i := 2) (v := ?v2) (by simp only [List.getElem?_toArray, List.getElem?_cons_succ, List.getElem?_cons_zero]; rfl) (by kernel_rfl) (by kernel_rfl) (by kernel_rfl) (fun _ _ _ h => h) (Or.inl ⟨by rfl, ?y2⟩) hHeld ?_
    case y2 => (intro w hSw; go_simp <;> with_reducible rfl)
    simp only [Act.put, List.setIfInBounds_toArray, List.set_cons_zero, List.set_cons_succ]
    refine wpAnyH_take (i := 5) (v := ?v5) (by simp only [List.getElem?_toArray, List.getElem?_cons_succ, List.getElem?_cons_zero]; rfl) (by kernel_rfl) (by kernel_rfl) (by kernel_rfl) (fun _ _ _ h => h) (Or.inl ⟨by rfl, ?y5⟩) hHeld ?_
    case y5 => (intro w hSw; go_simp <;> with_reducible rfl)
    simp only [Act.put, List.setIfInBounds_toArray, List.set_cons_zero, List.set_cons_succ]
    refine wpAnyH_take (i := 6) (v := ?v6) (by simp only [List.getElem?_toArray, List.getElem?_cons_succ, List.getElem?_cons_zero]; rfl) (by kernel_rfl) (by kernel_rfl) (by kernel_rfl) (fun _ _ _ h => h) (Or.inl ⟨by rfl, ?y6⟩) hHeld ?_
    case y6 => (intro w hSw; go_simp <;> with_reducible rfl)
    simp only [Act.put, List.setIfInBounds_toArray, List.set_cons_zero, List.set_cons_succ]
    refine wpAnyH_ready (rs := [3]) (by kernel_rfl) (by simp) ?_
    refine AllReadyH.cons (by simp only [List.getElem?_toArray, List.getElem?_cons_succ, List.getElem?_cons_zero]; rfl) (fun K hK => ?_) ?_
    rotate_left
    · exact AllReadyH.nil
    go_simp
    go_at_call 11
    refine M6.mono ?_
    rintro e w9 ⟨rfl, rfl⟩
    go_wp2_with fail
    refine hK.out _ _ ?_ (fun hHeld => ?_)
    · exact ⟨b2, b3⟩
    clear hK K
    refine wpAnyH_take (i := 4) (v := ?v4) (by simp only [List.getElem?_toArray, List.getElem?_cons_succ, List.getElem?_cons_zero]; rfl) (by kernel_rfl) (by kernel_rfl) (by kernel_rfl) (fun _ _ _ h => h) (Or.inl ⟨by rfl, ?y4⟩) hHeld ?_
    case y4 => (intro w hSw; go_simp <;> with_reducible rfl)
    simp only [Act.put, List.setIfInBounds_toArray, List.set_cons_zero, List.set_cons_succ]
    refine wpAnyH_ready (rs := [7]) (by kernel_rfl) (by simp) ?_
    refine AllReadyH.cons (by simp only [List.getElem?_toArray, List.getElem?_cons_succ, List.getElem?_cons_zero]; rfl) (fun K hK => ?_) ?_
    rotate_left
    · exact AllReadyH.nil
    go_simp
    rw [show IntKind.i64.wrap ((m6 : Int) - 1) = (m6 : Int) - 1 from IntWalk.i64_in _ (by omega)]
    go_at_call 34
    refine P6.mono ?_
    clear P6
    intro e w10 hp
    have KC := Lib.hid hp.chg
    obtain ⟨rfl, H9⟩ := hp
    have H9 := Lib.hid H9
    go_wp2_with fail
    refine hK.out _ _ ?_ (fun hHeld => ?_)
    · exact ⟨(World.cell?_of_block (KC.out.block Z hZ hZF)).trans b2, (World.cell?_of_block (KC.out.block Z hZ hZF)).trans b3⟩
    clear hK K
    refine wpAnyH_done (by kernel_rfl) ?_ _
    refine NoPanic.normal ?_
    have HX := Lib.hid (hp6.out _ _ ⟨rfl, H9.out⟩).2
    clear H9 KC hHeld hp6
    go_wp2
    go_ret2
    rw [ER.out]
    exact ⟨rfl, HX.out⟩
  · have ER := Lib.hid (E.out.2.2.2.2.1 rfl)
    clear E PW PR PF P6 PN KEEP M6 SEC DN h1 hB1
    go_wp2_with (first
      | (go_at_call 11; refine M2.mono ?_; rintro e w5 ⟨rfl, rfl⟩)
      | (go_at_call 35; refine PO.out.mono ?_; intro e w6 hp; have hp := UP.out _ _ _ _ hp; obtain ⟨rfl, HX⟩ := hp; have HX := Lib.hid HX))
    go_ret2
    rw [ER.out]
    exact ⟨rfl, HX.out⟩
  · have ER := Lib.hid (E.out.2.2.2.2.2 (by decide))
    clear E PW PR PF P6 PO KEEP M6 SEC DN h1 hB1
    go_wp2_with (first
      | (go_at_call 11; refine M2.mono ?_; rintro e w5 ⟨rfl, rfl⟩)
      | (go_at_call 36; refine PN.out.mono ?_; intro e w6 hp; have hp := UP.out _ _ _ _ hp; obtain ⟨rfl, HX⟩ := hp; have HX := Lib.hid HX))
    go_ret2
    rw [ER.out]
    exact ⟨rfl, HX.out⟩
  · have ER := Lib.hid (E.out.2.2.2.2.2 (by decide))
    clear E PW PR PF P6 PO KEEP M6 SEC DN h1 hB1
    go_wp2_with (first
      | (go_at_call 11; refine M2.mono ?_; rintro e w5 ⟨rfl, rfl⟩)
      | (go_at_call 36; refine PN.out.mono ?_; intro e w6 hp; have hp := UP.out _ _ _ _ hp; obtain ⟨rfl, HX⟩ := hp; have HX := Lib.hid HX))
    go_ret2
    rw [ER.out]
    exact ⟨rfl, HX.out⟩
end
end Go.Proofs.Ytoafoikphpdimaa
