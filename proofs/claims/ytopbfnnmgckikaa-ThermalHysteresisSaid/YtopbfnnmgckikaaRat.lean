/- The reference's at. -/
import Derived.Test.YtopbfnnmgckikaaAtl
namespace Go.Proofs.Ytopbfnnmgckikaa
open Go.RowKit

theorem own_below {w w' : World} {base n t size : Nat} {v : Value} {xs : List Value} (h : w.ownsRow base t size v n xs) (hb : Below w.heap.size w w') : w'.ownsRow base t size v n xs := own_chg h (Chg.of_below hb (fun _ => False)) (fun _ _ x => x)
set_option maxRecDepth 100000 in
set_option maxHeartbeats 4000000 in
theorem rat_any (A : Option Addr) (n c : Nat) (f : Nat → St) (lv : Int) (w : World) (h : SlS .u64 w A n f) (hv : GA n f) : Calls Try.prog 46 #[.slice A n c, .int .u64 lv] w (AtP w n f lv) := by
  have hl := hv.len
  have H := Lib.hid h
  have HV := Lib.hid hv
  obtain ⟨i0, hi0, hz0, hs0, hb0⟩ := info_parts info23
  have HI := Lib.hid (And.intro hi0 (And.intro hz0 (And.intro hs0 hb0)))
  clear h hv hi0 hz0 hs0 hb0
  go_enter Try.func46, Try.ntmps46
  go_wp2_with fail
  go_loopw [8, 7, 6] (fun i s o wr => ∃ k : Nat, k ≤ n ∧ i = .int .i64 k ∧ s = .int .u64 (atS lv f k) ∧ wr.ownsRow w.heap.size 23 1 o k ((atL lv f k).map (Value.int .u64)) ∧ Below w.heap.size w wr) (fun i _ _ _ => n - (intOf i).toNat)
  case atStart => exact ⟨0, Nat.zero_le _, rfl, rfl, World.ownsRow_nil _ _ _ _, Below.refl _ _⟩
  case round =>
    obtain ⟨k, hk, rfl, rfl, OW, HB⟩ := hrel
    by_cases hlt : k < n
    · rcases H.out.row with h0 | ⟨b, off, rfl, hb, hc⟩
      · omega
      obtain ⟨c0, c1, c2⟩ := hc k hlt
      rw [← HB.cell hb] at c0 c1 c2
      have bd := atG_bd (lv := lv) (HV.out.ok k hlt)
      have sb := atS_bd HV.out lv k hk
      have okk := HV.out.ok k hlt
      have NX : Hid (atS lv f (k + 1) = atS lv f k + atG lv (f k)) := rfl
      have GE : Hid (atG lv (f k) = min (max lv (f k).b) (wantI (f k).a (f k).b (f k).c)) := rfl
      have RN : Hid (∀ (w9 w4 W0 : World) (o : Obj) (v' : Value), w9.alloc o = W0 → Below w.heap.size w w9 → w9.ownsRow w.heap.size 23 1 u6 k ((atL lv f k).map (Value.int .u64)) → W0.grownBy w4 u6.ownBlock → w4.ownsRow w.heap.size 23 1 v' (k + 1) ((atL lv f k).map (Value.int .u64) ++ [.int .u64 (atG lv (f k))]) → w4.ownsRow w.heap.size 23 1 v' (k + 1) ((atL lv f (k + 1)).map (Value.int .u64)) ∧ Below w.heap.size w w4) := fun w9 w4 W0 o v' e hb ho hg h4 => by
        refine ⟨by rw [atL_succ]; simpa using h4, ?_⟩
        have b0 : Below w.heap.size w W0 := by rw [← e]; exact bal hb o
        exact b0.grown hg b0.size (fun j hj => (ho.lt j hj).1)
      clear hc
      have hbw : b < wr.heap.size := by have := HB.size; omega
      have HSZ : Hid (w.heap.size ≤ wr.heap.size) := HB.size
      generalize atG lv (f k) = x at *
      generalize f k = s at *
      generalize atS lv f k = sm at *
      obtain ⟨q, y, z⟩ := s
      simp only at c0 c1 c2 bd okk GE
      have HB := Lib.hid HB
      have OW := Lib.hid OW
      have KP : Hid (∀ w' : World, Below wr.drew.heap.size wr.drew w' → (w'.cell? ⟨b, off + k * 3, none⟩ = some (.int .u64 q) ∧ w'.cell? ⟨b, off + k * 3 + 1, none⟩ = some (.int .u64 y) ∧ w'.cell? ⟨b, off + k * 3 + 2, none⟩ = some (.int .u64 z))) := fun w' hb' => by
        have hb' : Below wr.heap.size wr w' := (Below.refl _ wr).drew.trans hb'
        exact ⟨(hb'.cell hbw).trans c0, (hb'.cell hbw).trans c1, (hb'.cell hbw).trans c2⟩
      go_upto_region 6 with fail
      by_cases m1 : lv < y
      · by_cases m2 : wantI q y z < y
        · exfalso; omega
        · have HX : Hid (x = y) := by show _ = _; rw [GE.out]; omega
          go_region_held3 (fun w' => w'.cell? ⟨b, off + k * 3, none⟩ = some (.int .u64 q) ∧ w'.cell? ⟨b, off + k * 3 + 1, none⟩ = some (.int .u64 y) ∧ w'.cell? ⟨b, off + k * 3 + 2, none⟩ = some (.int .u64 z)) (first | exact KP.out _ hb9 | exact KP.out _ (Below.refl _ _) | go_keep) ((go_at_call 47; refine (rwant_any q y z _).mono ?_; rintro e w9 ⟨rfl, hb9⟩))
          all_goals
            have mm : (if lv < y then y else lv) = y := if_pos m1
            have mv : (if wantI q y z < y then wantI q y z else y) = y := if_neg (by omega)
            (try simp only [mm])
            (try simp only [mv])
            clear mm mv
            have HB9 := HB.out.trans (((Below.refl _ wr).drew.trans hb9).mono HSZ.out)
            have OW9 := own_below OW.out ((Below.refl _ wr).drew.trans hb9)
            have hz9 := HB9.size
            have RN2 := RN.out
            rw [HX.out] at RN2
            have RN2 := Lib.hid RN2
            have HB9 := Lib.hid HB9
            have OW9 := Lib.hid OW9
            clear c0 c1 c2 hb9
            go_wp2_with (at_builtin; refine wpList_append_own _ rfl (.tmp 29) (.tmp 31) 56 rfl w.heap.size 23 i0 _ 1 8 Try.underlying56 HI.out.1 HI.out.2.1 HI.out.2.2.1 HI.out.2.2.2 rfl (by decide) _ k ((atL lv f k).map (Value.int .u64)) rfl (OW9.out.alloc _) ⟨w9.heap.size, 0, none⟩ 1 1 [.int .u64 (y)] rfl rfl ?c1 ?c2 (by unfold maxLen; omega) (by omega) (by simp; omega) ?_)
            case c1 => intro j u hu; match j, hu with | 0, hu => simp at hu; subst hu; simp [Addr.add, go_sem]
            case c2 => intro u hu; simp at hu; subst hu; rfl
            intro v' w4 hown hgr _
            have FIN := Lib.hid (RN2.out w9 w4 _ _ v' rfl HB9.out OW9.out hgr hown)
            clear hown hgr HB9 OW9 RN2
            go_wp2
            go_roundw
            case rel => exact ⟨k + 1, by omega, by go_num, by rw [NX.out, HX.out], FIN.out.1, FIN.out.2⟩
            case measure => simp [intOf]; omega
      · by_cases m2 : wantI q y z < lv
        · have HX : Hid (x = wantI q y z) := by show _ = _; rw [GE.out]; omega
          go_region_held3 (fun w' => w'.cell? ⟨b, off + k * 3, none⟩ = some (.int .u64 q) ∧ w'.cell? ⟨b, off + k * 3 + 1, none⟩ = some (.int .u64 y) ∧ w'.cell? ⟨b, off + k * 3 + 2, none⟩ = some (.int .u64 z)) (first | exact KP.out _ hb9 | exact KP.out _ (Below.refl _ _) | go_keep) ((go_at_call 47; refine (rwant_any q y z _).mono ?_; rintro e w9 ⟨rfl, hb9⟩))
          all_goals
            have mm : (if lv < y then y else lv) = lv := if_neg (by omega)
            have mv : (if wantI q y z < lv then wantI q y z else lv) = wantI q y z := if_pos m2
            (try simp only [mm])
            (try simp only [mv])
            clear mm mv
            have HB9 := HB.out.trans (((Below.refl _ wr).drew.trans hb9).mono HSZ.out)
            have OW9 := own_below OW.out ((Below.refl _ wr).drew.trans hb9)
            have hz9 := HB9.size
            have RN2 := RN.out
            rw [HX.out] at RN2
            have RN2 := Lib.hid RN2
            have HB9 := Lib.hid HB9
            have OW9 := Lib.hid OW9
            clear c0 c1 c2 hb9
            go_wp2_with (at_builtin; refine wpList_append_own _ rfl (.tmp 29) (.tmp 31) 56 rfl w.heap.size 23 i0 _ 1 8 Try.underlying56 HI.out.1 HI.out.2.1 HI.out.2.2.1 HI.out.2.2.2 rfl (by decide) _ k ((atL lv f k).map (Value.int .u64)) rfl (OW9.out.alloc _) ⟨w9.heap.size, 0, none⟩ 1 1 [.int .u64 (wantI q y z)] rfl rfl ?c1 ?c2 (by unfold maxLen; omega) (by omega) (by simp; omega) ?_)
            case c1 => intro j u hu; match j, hu with | 0, hu => simp at hu; subst hu; simp [Addr.add, go_sem]
            case c2 => intro u hu; simp at hu; subst hu; rfl
            intro v' w4 hown hgr _
            have FIN := Lib.hid (RN2.out w9 w4 _ _ v' rfl HB9.out OW9.out hgr hown)
            clear hown hgr HB9 OW9 RN2
            go_wp2
            go_roundw
            case rel => exact ⟨k + 1, by omega, by go_num, by rw [NX.out, HX.out], FIN.out.1, FIN.out.2⟩
            case measure => simp [intOf]; omega
        · have HX : Hid (x = lv) := by show _ = _; rw [GE.out]; omega
          go_region_held3 (fun w' => w'.cell? ⟨b, off + k * 3, none⟩ = some (.int .u64 q) ∧ w'.cell? ⟨b, off + k * 3 + 1, none⟩ = some (.int .u64 y) ∧ w'.cell? ⟨b, off + k * 3 + 2, none⟩ = some (.int .u64 z)) (first | exact KP.out _ hb9 | exact KP.out _ (Below.refl _ _) | go_keep) ((go_at_call 47; refine (rwant_any q y z _).mono ?_; rintro e w9 ⟨rfl, hb9⟩))
          all_goals
            have mm : (if lv < y then y else lv) = lv := if_neg (by omega)
            have mv : (if wantI q y z < lv then wantI q y z else lv) = lv := if_neg (by omega)
            (try simp only [mm])
            (try simp only [mv])
            clear mm mv
            have HB9 := HB.out.trans (((Below.refl _ wr).drew.trans hb9).mono HSZ.out)
            have OW9 := own_below OW.out ((Below.refl _ wr).drew.trans hb9)
            have hz9 := HB9.size
            have RN2 := RN.out
            rw [HX.out] at RN2
            have RN2 := Lib.hid RN2
            have HB9 := Lib.hid HB9
            have OW9 := Lib.hid OW9
            clear c0 c1 c2 hb9
            go_wp2_with (at_builtin; refine wpList_append_own _ rfl (.tmp 29) (.tmp 31) 56 rfl w.heap.size 23 i0 _ 1 8 Try.underlying56 HI.out.1 HI.out.2.1 HI.out.2.2.1 HI.out.2.2.2 rfl (by decide) _ k ((atL lv f k).map (Value.int .u64)) rfl (OW9.out.alloc _) ⟨w9.heap.size, 0, none⟩ 1 1 [.int .u64 (lv)] rfl rfl ?c1 ?c2 (by unfold maxLen; omega) (by omega) (by simp; omega) ?_)
            case c1 => intro j u hu; match j, hu with | 0, hu => simp at hu; subst hu; simp [Addr.add, go_sem]
            case c2 => intro u hu; simp at hu; subst hu; rfl
            intro v' w4 hown hgr _
            have FIN := Lib.hid (RN2.out w9 w4 _ _ v' rfl HB9.out OW9.out hgr hown)
            clear hown hgr HB9 OW9 RN2
            go_wp2
            go_roundw
            case rel => exact ⟨k + 1, by omega, by go_num, by rw [NX.out, HX.out], FIN.out.1, FIN.out.2⟩
            case measure => simp [intOf]; omega
    · have hkn : k = n := by omega
      have FIN0 : Hid (∃ A c, u6 = .slice A n c ∧ AtP w n f lv (.returned (.tuple #[.slice A n c, .int .u64 (atS lv f k)])) wr) := by
        rw [hkn] at OW ⊢
        obtain ⟨A, c, e, hN, hc⟩ := nl_of_own OW (Nat.le_refl _)
        exact ⟨A, c, e, A, c, rfl, hN, HB, hc⟩
      clear OW HB hkn
      obtain ⟨A, c, rfl, FIN⟩ := FIN0.out
      have FIN := Lib.hid FIN
      clear FIN0
      go_wp2
      go_ret2
      exact FIN.out
end Go.Proofs.Ytopbfnnmgckikaa
