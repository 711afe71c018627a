/- The block's calls: Status, ready, Next, WakePending, Set. -/
import Derived.Test.YtmhianhaljphiaaDoorGpm
import Derived.Shelf.Spec.TrailingZeros
namespace Go.Proofs.YtmhianhaljphiaaDoor
open Go.RowKit

def RdP (w : World) (v : Value) (e : Ending) (w' : World) : Prop := e = .returned v ∧ ∃ n, w' = w.drewN n
theorem RdP.below {w w' : World} {v : Value} {e : Ending} (h : RdP w v e w') : Below w.heap.size w w' := by
  obtain ⟨_, n, rfl⟩ := h
  exact ⟨rfl, rfl, rfl, Nat.le_refl _, fun _ _ => rfl⟩
theorem status_any (w : World) (L : Nat) (s : GpS) (k : Nat) (h : GpR w L s) (hk : k < s.ct) (hc : s.ct ≤ 64) : Calls Tryd.prog 17 #[.pointer (some ⟨L, 0, none⟩), .int .i64 k] w (RdP w (.bool (s.st.getLsbD k))) := by
  have c3 := gr_st h
  have hL := h.lt
  have e1 := and_u s.st (bitB k)
  have e2 : (u (s.st &&& bitB k) != 0) = s.st.getLsbD k := by rw [u_ne0, and_bit' _ _ (by omega)]
  have P := fun nq => bit_any (w.drewN nq) L s k (h.of_block rfl) hk hc
  clear h hk
  go_enter Tryd.func17, Tryd.ntmps17
  go_wp2
  go_quiet ((go_at_call 32; exact Calls.quiet_of_same ((P _).mono fun e w' h => ⟨h.1, h.2.symm⟩)))
  go_wp2
  go_ret
  exact ⟨rfl, _, rfl⟩
theorem status_no (w : World) (L : Nat) (s : GpS) (x : Int) (h : GpR w L s) (he : x < 0 ∨ (s.ct : Int) ≤ x) : Calls Tryd.prog 17 #[.pointer (some ⟨L, 0, none⟩), .int .i64 x] w (RdP w (.bool false)) := by
  have c3 := gr_st h
  have hL := h.lt
  have e1 : bits BinOp.and IntKind.u64 (u s.st) 0 = 0 := by have := and_u s.st 0; rw [u_zero] at this; rw [this]; simp [u]
  have P := fun nq => bit_no (w.drewN nq) L s x (h.of_block rfl) he
  clear h he
  go_enter Tryd.func17, Tryd.ntmps17
  go_wp2
  go_quiet ((go_at_call 32; exact Calls.quiet_of_same ((P _).mono fun e w' h => ⟨h.1, h.2.symm⟩)))
  go_wp2
  go_ret
  exact ⟨rfl, _, rfl⟩
theorem ready_any (w : World) (L : Nat) (s : GpS) (h : GpR w L s) : Calls Tryd.prog 30 #[.pointer (some ⟨L, 0, none⟩)] w (RdP w (.int .u64 (u (rdy s)))) := by
  have c3 := gr_st h
  have c4 := gr_en h
  have c6 := gr_hd h
  have hL := h.lt
  have e1 := and_u s.st s.en
  have e2 := not_u (s.st &&& s.en) s.hd
  have F : Hid (rdy s = (s.st &&& s.en) &&& ~~~s.hd) := rfl
  clear h
  go_enter Tryd.func30, Tryd.ntmps30
  go_wp2
  go_quiet (fail)
  go_wp2
  go_ret
  exact ⟨by rw [F.out]; rfl, _, rfl⟩
theorem wakep_any (w : World) (L : Nat) (s : GpS) (h : GpR w L s) : Calls Tryd.prog 15 #[.pointer (some ⟨L, 0, none⟩)] w (RdP w (.bool (s.st &&& s.wk != 0#64))) := by
  have c3 := gr_st h
  have c4 := gr_wk h
  have hL := h.lt
  have e1 := and_u s.st s.wk
  have e2 := u_ne0 (s.st &&& s.wk)
  clear h
  go_enter Tryd.func15, Tryd.ntmps15
  go_wp2
  go_quiet (fail)
  go_wp2
  go_ret
  exact ⟨rfl, _, rfl⟩
/-- The table of math/bits, in its variable. -/
def Tb (w : World) : Prop := TabAt 0 Lib.deBruijn64tab w ∧ 0 < w.heap.size
theorem Tb.below {w w' : World} {B : Nat} (h : Tb w) (hb : Below B w w') (hB : w.heap.size ≤ B) : Tb w' := by
  have hs := hb.size
  have h2 := h.2
  exact ⟨fun j hj => by rw [hb.cell (p := ⟨0, j, none⟩) (show 0 < B by omega)]; exact h.1 j hj, by omega⟩
def nxV (s : GpS) : Value := if rdy s = 0#64 then .tuple #[.int .i64 0, .bool false] else .tuple #[.int .i64 (Lib.ctz 64 (rdy s).toNat), .bool true]
set_option maxHeartbeats 1000000 in
theorem tz_core (x k idx : Nat) (w : World) (hx0 : ((x : Int) == 0) = false)
    (key : IntKind.u64.wrap (bits BinOp.and IntKind.u64 (x : Int) (IntKind.u64.wrap (-(x : Int))) * 285870213051353865) / 288230376151711744 = (idx : Int))
    (hi : idx < 64) (hk : k < 64) (hcell : w.cell? ⟨0, idx, none⟩ = some (.int .u8 k)) :
    Calls Tryd.prog 31 #[.int .u64 x] w fun e w' => e = .returned (.int .i64 k) ∧ w = w' := by
  go_enter Tryd.func31, Tryd.ntmps31
  go_wp2_with (simp only [key])
  go_ret
  exact ⟨rfl, rfl⟩
theorem tz_any (x : BitVec 64) (hx : x ≠ 0#64) (w : World) (hT : Tb w) : Calls Tryd.prog 31 #[.int .u64 (u x)] w (fun e w' => e = .returned (.int .i64 (Lib.ctz 64 x.toNat)) ∧ w = w') := by
  have hx0 : x.toNat ≠ 0 := fun e => hx (BitVec.eq_of_toNat_eq (by simpa using e))
  obtain ⟨hlow, hk⟩ := Lib.lowest_bit 64 x.toNat hx0 x.isLt
  obtain ⟨hi, htab⟩ := Lib.deBruijn64_at _ hk
  have hcell := hT.1 _ hi
  rw [htab] at hcell
  exact tz_core x.toNat _ _ w (by simp; omega) (tz64_key x.toNat _ x.isLt hx0 hlow) hi hk hcell
theorem next_any (w : World) (L : Nat) (s : GpS) (h : GpR w L s) (hT : Tb w) : Calls Tryd.prog 13 #[.pointer (some ⟨L, 0, none⟩)] w (RdP w (nxV s)) := by
  have P := ready_any w L s h
  by_cases hz : rdy s = 0#64
  · have F : Hid (nxV s = .tuple #[.int .i64 0, .bool false]) := by show _ = _; unfold nxV; rw [if_pos hz]
    have e0 : (u (rdy s) == 0) = true := by rw [u_eq0, hz]; rfl
    clear h hz hT
    go_enter Tryd.func13, Tryd.ntmps13
    go_wp2_with fail
    refine P.mono ?_
    clear P
    rintro e w' ⟨rfl, n, rfl⟩
    go_wp2
    go_ret2
    exact ⟨by rw [F.out]; rfl, _, rfl⟩
  · have F : Hid (nxV s = .tuple #[.int .i64 (Lib.ctz 64 (rdy s).toNat), .bool true]) := by show _ = _; unfold nxV; rw [if_neg hz]
    have e0 : (u (rdy s) == 0) = false := by rw [u_eq0]; exact beq_eq_false_iff_ne.2 hz
    have Q := fun n => tz_any (rdy s) hz (w.drewN n) ⟨fun j hj => hT.1 j hj, hT.2⟩
    clear h hz hT
    go_enter Tryd.func13, Tryd.ntmps13
    go_wp2_with fail
    refine P.mono ?_
    clear P
    rintro e w' ⟨rfl, n, rfl⟩
    go_wp2_with fail
    refine (Q n).mono ?_
    clear Q
    rintro e w' ⟨rfl, rfl⟩
    go_wp2
    go_ret2
    exact ⟨by rw [F.out]; rfl, _, rfl⟩
theorem set_no (w : World) (L : Nat) (s : GpS) (x : Int) (on : Bool) (h : GpR w L s) (he : x < 0 ∨ (s.ct : Int) ≤ x) : Calls Tryd.prog 20 #[.pointer (some ⟨L, 0, none⟩), .int .i64 x, .bool on] w (GP w L s (.int .i64 6)) := by
  have P := bit_no w L s x h he
  have F := Lib.hid (GP.mk0 (v := .int .i64 6) h)
  clear h he
  go_enter Tryd.func20, Tryd.ntmps20
  go_wp2_with fail
  refine P.mono ?_
  clear P
  rintro e w' ⟨rfl, rfl⟩
  go_wp2
  go_ret
  exact F.out
set_option maxHeartbeats 4000000 in
theorem set_any (w : World) (L : Nat) (s : GpS) (k : Nat) (on : Bool) (h : GpR w L s) (hk : k < s.ct) (hc : s.ct ≤ 64) : Calls Tryd.prog 20 #[.pointer (some ⟨L, 0, none⟩), .int .i64 k, .bool on] w (GP w L (setS s k on) (.int .i64 0)) := by
  have c1 := gr_lv h
  have c2 := gr_li h
  have c3 := gr_st h
  have c6 := gr_hd h
  have hL := h.lt
  have hz2 := h.frozen 2
  have hz3 := h.frozen 3
  have hb := bitB_t k (by omega)
  have H := Lib.hid h
  have F : Hid (∀ n, riseS s k on = true → GP w L (setS s k on) (.int .i64 0) (.returned (.int .i64 0)) (((w.setCell ⟨L, 2, none⟩ (.int .u64 (u (withB s.li (bitB k) on)))).drewN n).setCell ⟨L, 3, none⟩ (.int .u64 (u (s.st ||| bitB k))))) := fun n hr => by
    have g1 : GpR ((w.setCell ⟨L, 2, none⟩ (.int .u64 (u (withB s.li (bitB k) on)))).drewN n) L _ := (gw_li H.out (withB s.li (bitB k) on)).of_block rfl
    have g2 := gw_st g1 (s.st ||| bitB k)
    have e : setS s k on = { s with li := withB s.li (bitB k) on, st := s.st ||| bitB k } := by unfold setS; rw [if_pos hr]
    rw [e]
    exact ⟨rfl, g2, ((Chg.set w L 2 _).drewN n).trans (Chg.set _ L 3 _)⟩
  have G : Hid (∀ n, riseS s k on = false → GP w L (setS s k on) (.int .i64 0) (.returned (.int .i64 0)) ((w.setCell ⟨L, 2, none⟩ (.int .u64 (u (withB s.li (bitB k) on)))).drewN n)) := fun n hr => by
    have g1 : GpR ((w.setCell ⟨L, 2, none⟩ (.int .u64 (u (withB s.li (bitB k) on)))).drewN n) L _ := (gw_li H.out (withB s.li (bitB k) on)).of_block rfl
    have e : setS s k on = { s with li := withB s.li (bitB k) on } := by unfold setS; rw [if_neg (by rw [hr]; simp)]
    rw [e]
    exact ⟨rfl, g1, (Chg.set w L 2 _).drewN n⟩
  have a1 := and_u s.li (bitB k)
  have a2 := and_u s.lv (withB s.li (bitB k) on)
  have a3 := not_u (s.lv &&& withB s.li (bitB k) on) s.hd
  have a4 := and_u ((s.lv &&& withB s.li (bitB k) on) &&& ~~~s.hd) (bitB k)
  have a5 := or_u s.st (bitB k)
  have P := bit_any w L s k h hk hc
  have b1 := u_eq0 (s.li &&& bitB k)
  have b2 := u_ne0 (((s.lv &&& withB s.li (bitB k) on) &&& ~~~s.hd) &&& bitB k)
  have R : Hid (riseS s k on = ((on && (s.li &&& bitB k == 0#64)) || ((s.lv &&& withB s.li (bitB k) on) &&& ~~~s.hd) &&& bitB k != 0#64)) := rfl
  clear h H hk
  generalize (s.li &&& bitB k == 0#64) = r1 at *
  generalize (((s.lv &&& withB s.li (bitB k) on) &&& ~~~s.hd) &&& bitB k != 0#64) = r2 at *
  cases on <;> cases r1 <;> cases r2
  all_goals
    go_enter Tryd.func20, Tryd.ntmps20
    go_wp2_with fail
    refine P.mono ?_
    clear P
    rintro e w' ⟨rfl, rfl⟩
    go_wp2_with fail
    refine (with_any _ _ _ _).mono ?_
    rintro e w' ⟨rfl, rfl⟩
    go_wp2
    go_quiet (fail)
    go_wp2
    go_ret
    first | exact F.out _ (R.out.trans rfl) | exact G.out _ (R.out.trans rfl)
end Go.Proofs.YtmhianhaljphiaaDoor
