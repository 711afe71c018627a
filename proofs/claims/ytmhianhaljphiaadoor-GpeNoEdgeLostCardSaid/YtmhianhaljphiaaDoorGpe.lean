/- Begin. -/
import Derived.Test.YtmhianhaljphiaaDoorGpb
namespace Go.Proofs.YtmhianhaljphiaaDoor
open Go.RowKit

def DIG : ByteArray := { data := #[48, 49, 50, 51, 52, 53, 54, 55, 56, 57, 65, 66, 67, 68, 69, 70] }
def nm (k : Nat) : ByteArray := DIG.extract (k / 16) (k / 16 + 1) ++ DIG.extract (k % 16) (k % 16 + 1)
def pre (l : Bool) : ByteArray := if l then { data := #[95, 76] } else { data := #[95, 69] }
theorem beg_no (w : World) (L : Nat) (s : GpS) (x : Int) (h : GpR w L s) (he : x < 0 ∨ (s.ct : Int) ≤ x) : Calls Tryd.prog 21 #[.pointer (some ⟨L, 0, none⟩), .int .i64 x] w (GP w L s (.tuple #[.string { data := #[] }, .int .i64 6])) := by
  have P := bit_no w L s x h he
  have F := Lib.hid (GP.mk0 (v := .tuple #[.string { data := #[] }, .int .i64 6]) h)
  clear h he
  go_enter Tryd.func21, Tryd.ntmps21
  go_wp2_with fail
  refine P.mono ?_
  clear P
  rintro e w' ⟨rfl, rfl⟩
  go_wp2
  go_ret2
  exact F.out
theorem GP.of_rd {w : World} {L : Nat} {s : GpS} {v : Value} (h : GpR w L s) (n : Nat) : GP w L s v (.returned v) (w.drewN n) := ⟨rfl, h.of_block rfl, (Chg.refl _ _).drewN n⟩
theorem beg_st (w : World) (L : Nat) (s : GpS) (k : Nat) (h : GpR w L s) (hk : k < s.ct) (hc : s.ct ≤ 64) (hd : (rdy s).getLsbD k = false) : Calls Tryd.prog 21 #[.pointer (some ⟨L, 0, none⟩), .int .i64 k] w (GP w L s (.tuple #[.string { data := #[] }, .int .i64 9])) := by
  have hb := bitB_t k (by omega)
  have a1 := and_u (rdy s) (bitB k)
  have b1 : (u (rdy s &&& bitB k) == 0) = true := by rw [u_eq0, and_bit _ _ (by omega), hd]; rfl
  have P := bit_any w L s k h hk hc
  have Q := ready_any w L s h
  have F := Lib.hid (fun n => GP.of_rd (v := .tuple #[.string { data := #[] }, .int .i64 9]) h n)
  clear h hk hd
  go_enter Tryd.func21, Tryd.ntmps21
  go_wp2_with fail
  refine P.mono ?_
  clear P
  rintro e w' ⟨rfl, rfl⟩
  go_wp2_with fail
  refine Q.mono ?_
  clear Q
  rintro e w' ⟨rfl, n, rfl⟩
  go_wp2
  go_ret2
  exact F.out n
set_option maxHeartbeats 2000000 in
theorem beg_any (w : World) (L : Nat) (s : GpS) (k : Nat) (h : GpR w L s) (hk : k < s.ct) (hc : s.ct ≤ 64) (hd : (rdy s).getLsbD k = true) : Calls Tryd.prog 21 #[.pointer (some ⟨L, 0, none⟩), .int .i64 k] w (GP w L (begS s k) (.tuple #[.string (pre (s.lv.getLsbD k) ++ nm k), .int .i64 0])) := by
  have hb := bitB_t k (by omega)
  have a1 := and_u (rdy s) (bitB k)
  have b1 : (u (rdy s &&& bitB k) == 0) = false := by rw [u_eq0, and_bit _ _ (by omega), hd]; rfl
  have a2 := or_u s.hd (bitB k)
  have a3 := and_u s.lv (bitB k)
  have a4 := not_u s.st (bitB k)
  have b3 : (u (s.lv &&& bitB k) != 0) = s.lv.getLsbD k := by rw [u_ne0, and_bit' _ _ (by omega)]
  have P := bit_any w L s k h hk hc
  have Q := ready_any w L s h
  have c6 := gr_hd h
  have hL := h.lt
  have hz6 := h.frozen 6
  have H := Lib.hid h
  have hk64 : k < 64 := by omega
  clear h hk hd
  go_enter Tryd.func21, Tryd.ntmps21
  go_wp2_with fail
  refine P.mono ?_
  clear P
  rintro e w' ⟨rfl, rfl⟩
  go_wp2_with fail
  refine Q.mono ?_
  clear Q
  rintro e w' ⟨rfl, n, rfl⟩
  go_upto_region 7 with fail
  have HR : GpR ((w.drewN n).setCell ⟨L, 6, none⟩ (.int .u64 (u (s.hd ||| bitB k)))) L { s with hd := s.hd ||| bitB k } := gw_hd (H.out.of_block rfl : GpR (w.drewN n) L s) _
  have HC : Hid (Chg (fun k => k = L) w ((w.drewN n).setCell ⟨L, 6, none⟩ (.int .u64 (u (s.hd ||| bitB k))))) := ((Chg.refl _ w).drewN n).trans (Chg.set _ L 6 _)
  clear c6 hz6 hL
  generalize (w.drewN n).setCell ⟨L, 6, none⟩ (.int .u64 (u (s.hd ||| bitB k))) = w1 at *
  have c1 : w1.cell? ⟨L, 1, none⟩ = some (.int .u64 (u s.lv)) := (gr_lv HR :)
  have c3 : w1.cell? ⟨L, 3, none⟩ = some (.int .u64 (u s.st)) := (gr_st HR :)
  have hz3 := HR.frozen 3
  have hL := HR.lt
  have HR := Lib.hid HR
  have D : Hid (nm k = DIG.extract (k / 16) (k / 16 + 1) ++ DIG.extract (k % 16) (k % 16 + 1)) := rfl
  have F : Hid (∀ (n : Nat) (x : ByteArray), s.lv.getLsbD k = true → x = nm k → GP w L (begS s k) (.tuple #[.string (pre (s.lv.getLsbD k) ++ nm k), .int .i64 0]) (.returned (.tuple #[.string ({ data := #[95, 76] } ++ x), .int .i64 0])) (w1.drewN n)) := fun n x hl hx => by
    subst hx
    have e : begS s k = { s with hd := s.hd ||| bitB k } := by unfold begS; rw [if_pos hl]
    rw [e, hl]
    exact ⟨rfl, HR.out.of_block rfl, HC.out.drewN n⟩
  have G : Hid (∀ (n : Nat) (x : ByteArray), s.lv.getLsbD k = false → x = nm k → GP w L (begS s k) (.tuple #[.string (pre (s.lv.getLsbD k) ++ nm k), .int .i64 0]) (.returned (.tuple #[.string ({ data := #[95, 69] } ++ x), .int .i64 0])) ((w1.drewN n).setCell ⟨L, 3, none⟩ (.int .u64 (u (s.st &&& ~~~bitB k))))) := fun n x hl hx => by
    subst hx
    have e : begS s k = { s with hd := s.hd ||| bitB k, st := s.st &&& ~~~bitB k } := by unfold begS; rw [if_neg (by rw [hl]; simp)]
    rw [e, hl]
    exact ⟨rfl, gw_st (HR.out.of_block rfl) _, (HC.out.drewN n).trans (Chg.set _ _ _ _)⟩
  have q1 : k / 16 < 4 := by omega
  have q2 : k % 16 < 16 := by omega
  have e1 : (k : Int).tdiv 16 = ((k / 16 : Nat) : Int) := rfl
  have e2 : (k : Int).tmod 16 = ((k % 16 : Nat) : Int) := rfl
  generalize k / 16 = q at *
  generalize k % 16 = r at *
  have e3 : IntKind.i64.wrap (q : Int) = q := IntWalk.i64_in _ (by omega)
  have e4 : IntKind.i64.wrap ((q : Int) + 1) = (q : Int) + 1 := IntWalk.i64_in _ (by omega)
  have e5 : IntKind.i64.wrap ((r : Int) + 1) = (r : Int) + 1 := IntWalk.i64_in _ (by omega)
  have e6 : ((q : Int) + 1).toNat = q + 1 := by omega
  have e7 : ((r : Int) + 1).toNat = r + 1 := by omega
  have e8 : 0 ≤ (q : Int) + 1 := by omega
  have e9 : 0 ≤ (r : Int) + 1 := by omega
  go_quiet (fail)
  clear e1 e2 e3 e4 e5 e6 e7 e8 e9
  cases hl : s.lv.getLsbD k
  · rw [hl] at b3
    have G := Lib.hid (fun n x => G.out n x hl)
    clear hl F
    go_wp2
    go_ret2
    exact G.out _ _ D.out.symm
  · rw [hl] at b3
    have F := Lib.hid (fun n x => F.out n x hl)
    clear hl G
    go_wp2
    go_ret2
    exact F.out _ _ D.out.symm
end Go.Proofs.YtmhianhaljphiaaDoor
