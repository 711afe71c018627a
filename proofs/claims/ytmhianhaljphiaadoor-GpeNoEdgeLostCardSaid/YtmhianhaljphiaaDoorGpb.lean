/- Begin and Complete. -/
import Derived.Test.YtmhianhaljphiaaDoorGpn
namespace Go.Proofs.YtmhianhaljphiaaDoor
open Go.RowKit

theorem cmp_no (w : World) (L : Nat) (s : GpS) (x : Int) (h : GpR w L s) (he : x < 0 ∨ (s.ct : Int) ≤ x) : Calls Tryd.prog 22 #[.pointer (some ⟨L, 0, none⟩), .int .i64 x] w (GP w L s (.int .i64 6)) := by
  have P := bit_no w L s x h he
  have F := Lib.hid (GP.mk0 (v := .int .i64 6) h)
  clear h he
  go_enter Tryd.func22, Tryd.ntmps22
  go_wp2_with fail
  refine P.mono ?_
  clear P
  rintro e w' ⟨rfl, rfl⟩
  go_wp2
  go_ret
  exact F.out
theorem cmp_st (w : World) (L : Nat) (s : GpS) (k : Nat) (h : GpR w L s) (hk : k < s.ct) (hc : s.ct ≤ 64) (hd : s.hd.getLsbD k = false) : Calls Tryd.prog 22 #[.pointer (some ⟨L, 0, none⟩), .int .i64 k] w (GP w L s (.int .i64 9)) := by
  have c6 := gr_hd h
  have hL := h.lt
  have hb := bitB_t k (by omega)
  have a1 := and_u s.hd (bitB k)
  have b1 : (u (s.hd &&& bitB k) == 0) = true := by rw [u_eq0, and_bit _ _ (by omega), hd]; rfl
  have P := bit_any w L s k h hk hc
  have F := Lib.hid (GP.mk0 (v := .int .i64 9) h)
  clear h hk hd
  go_enter Tryd.func22, Tryd.ntmps22
  go_wp2_with fail
  refine P.mono ?_
  clear P
  rintro e w' ⟨rfl, rfl⟩
  go_wp2
  go_ret
  exact F.out
set_option maxHeartbeats 2000000 in
theorem cmp_any (w : World) (L : Nat) (s : GpS) (k : Nat) (h : GpR w L s) (hk : k < s.ct) (hc : s.ct ≤ 64) (hd : s.hd.getLsbD k = true) : Calls Tryd.prog 22 #[.pointer (some ⟨L, 0, none⟩), .int .i64 k] w (GP w L (cmpS s k) (.int .i64 0)) := by
  have c1 := gr_lv h
  have c2 := gr_li h
  have c3 := gr_st h
  have c6 := gr_hd h
  have hL := h.lt
  have hz3 := h.frozen 3
  have hz6 := h.frozen 6
  have hb := bitB_t k (by omega)
  have a1 := and_u s.hd (bitB k)
  have b1 : (u (s.hd &&& bitB k) == 0) = false := by rw [u_eq0, and_bit _ _ (by omega), hd]; rfl
  have a2 := not_u s.hd (bitB k)
  have a3 := and_u s.lv (bitB k)
  have a4 := and_u s.li (bitB k)
  have b4 : (u (s.li &&& bitB k) != 0) = s.li.getLsbD k := by rw [u_ne0, and_bit' _ _ (by omega)]
  have b3 : (u (s.lv &&& bitB k) != 0) = s.lv.getLsbD k := by rw [u_ne0, and_bit' _ _ (by omega)]
  have P := bit_any w L s k h hk hc
  have H := Lib.hid h
  have F : Hid (s.lv.getLsbD k = false → GP w L (cmpS s k) (.int .i64 0) (.returned (.int .i64 0)) (w.setCell ⟨L, 6, none⟩ (.int .u64 (u (s.hd &&& ~~~bitB k))))) := fun hl => by
    have e : cmpS s k = { s with hd := s.hd &&& ~~~bitB k } := by unfold cmpS; rw [if_neg (by rw [hl]; simp)]
    rw [e]
    exact ⟨rfl, gw_hd H.out _, Chg.set _ _ _ _⟩
  have G : Hid (∀ W : World, s.lv.getLsbD k = true → W.heap[L]? = (w.setCell ⟨L, 6, none⟩ (.int .u64 (u (s.hd &&& ~~~bitB k)))).heap[L]? → Chg (fun k => k = L) w W → GP w L (cmpS s k) (.int .i64 0) (.returned (.int .i64 0)) (W.setCell ⟨L, 3, none⟩ (.int .u64 (u (withB s.st (bitB k) (s.li.getLsbD k)))))) := fun W hl h1 h2 => by
    have e : cmpS s k = { s with hd := s.hd &&& ~~~bitB k, st := withB s.st (bitB k) (s.li.getLsbD k) } := by unfold cmpS; rw [if_pos hl]
    rw [e]
    have g1 : GpR W L _ := (gw_hd H.out (s.hd &&& ~~~bitB k)).of_block h1
    exact ⟨rfl, gw_st g1 _, h2.trans (Chg.set _ L 3 _)⟩
  clear h hk hd
  cases hl : s.lv.getLsbD k
  · rw [hl] at b3
    have F := Lib.hid (F.out hl)
    clear hl G
    go_enter Tryd.func22, Tryd.ntmps22
    go_wp2_with fail
    refine P.mono ?_
    clear P
    rintro e w' ⟨rfl, rfl⟩
    go_wp2
    go_ret
    exact F.out
  · rw [hl] at b3
    have G := Lib.hid (fun W => G.out W hl)
    clear hl F
    go_enter Tryd.func22, Tryd.ntmps22
    go_wp2_with fail
    refine P.mono ?_
    clear P
    rintro e w' ⟨rfl, rfl⟩
    go_upto_region 8 with fail
    have q2 := gr_li (gw_hd H.out (s.hd &&& ~~~bitB k))
    have q3 := gr_st (gw_hd H.out (s.hd &&& ~~~bitB k))
    have qz := (gw_hd H.out (s.hd &&& ~~~bitB k)).frozen 3
    have qL := (gw_hd H.out (s.hd &&& ~~~bitB k)).lt
    have G := Lib.hid (fun n => G.out ((w.setCell ⟨L, 6, none⟩ (.int .u64 (u (s.hd &&& ~~~bitB k)))).drewN n) rfl ((Chg.set _ _ _ _).drewN n))
    clear c1 c2 c3 c6 hz3 hz6 hL
    simp only at q2 q3
    generalize s.li.getLsbD k = on at *
    generalize w.setCell ⟨L, 6, none⟩ (.int .u64 (u (s.hd &&& ~~~bitB k))) = w1 at *
    go_still_tail 16, (by kernel_rfl)
    still_call ((with_any _ _ _ _).mono fun e w' h => ⟨h.1, h.2.symm⟩)
    repeat still_step
    refine wpStill_nil ?_
    go_wp2
    go_ret
    exact G.out 1
end Go.Proofs.YtmhianhaljphiaaDoor
