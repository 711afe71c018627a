/- The reader's word, where it is read. -/
import Derived.Test.YtpfaicdoaldioaaRdr
namespace Go.Proofs.Ytpfaicdoaldioaa
open Go.ChangeShapes Go.WideShapes Go.ChangeAt Go.RowKit Go.Deep Go.Joins

theorem tail_chg {w w1 : World} {R k : Nat} {n : Nat} {x : ByteArray} {y : Int} (hw : Chg (fun k => k = R) w w1) : Chg (fun k => k = R) w (((w1.setCell ⟨R, 0, none⟩ (.string x)).setCell ⟨R, 1 + k, none⟩ (.int .u32 y)).drewN n) :=
  ((hw.trans (Chg.set _ _ _ _)).trans (Chg.set _ _ _ _)).drewN n
theorem or_comm32 (x y : Int) : bits BinOp.or IntKind.u32 x y = bits BinOp.or IntKind.u32 y x := by
  show IntKind.u32.wrap (((BitVec.ofInt 32 x) ||| (BitVec.ofInt 32 y)).toNat : Int) = IntKind.u32.wrap (((BitVec.ofInt 32 y) ||| (BitVec.ofInt 32 x)).toNat : Int)
  rw [BitVec.or_comm]
theorem or_mid (h x y : Int) (h0 : 0 ≤ h ∧ h < 65536) (h1 : 0 ≤ x ∧ x < 256) (h2 : 0 ≤ y ∧ y < 256) : bits BinOp.or IntKind.u32 (h * 65536 + x) (y * 256) = h * 65536 + x + y * 256 := by
  obtain ⟨H, rfl⟩ := Int.eq_ofNat_of_zero_le h0.1
  obtain ⟨X, rfl⟩ := Int.eq_ofNat_of_zero_le h1.1
  obtain ⟨Y, rfl⟩ := Int.eq_ofNat_of_zero_le h2.1
  have e1 : (BitVec.ofInt 32 ((H : Int) * 65536 + X)).toNat = H * 65536 + X := by rw [BitVec.toNat_ofInt]; omega
  have e2 : (BitVec.ofInt 32 ((Y : Int) * 256)).toNat = Y * 256 := by rw [BitVec.toNat_ofInt]; omega
  have e3 : (H * 65536 + X) ||| (Y * 256) = H * 65536 + X + Y * 256 := by
    have a := Nat.two_pow_add_eq_or_of_lt (i := 16) (b := X) (by omega) H
    have b := Nat.two_pow_add_eq_or_of_lt (i := 8) (b := X) (by omega) Y
    have c := Nat.two_pow_add_eq_or_of_lt (i := 16) (b := 2 ^ 8 * Y + X) (by omega) H
    rw [Nat.mul_comm H, Nat.mul_comm Y, show (65536 : Nat) = 2 ^ 16 from rfl, show (256 : Nat) = 2 ^ 8 from rfl, a, Nat.or_assoc, Nat.or_comm X, ← b, ← c]
    omega
  show IntKind.u32.wrap (((BitVec.ofInt 32 ((H : Int) * 65536 + X)) ||| (BitVec.ofInt 32 ((Y : Int) * 256))).toNat : Int) = _
  rw [BitVec.toNat_or, e1, e2, e3, show ∀ n : Int, IntKind.u32.wrap n = n % 4294967296 from fun n => by simp [IntKind.wrap, IntKind.signed, IntKind.bits]]
  omega
set_option maxHeartbeats 4000000 in
theorem rw_1 (r : ByteArray) (D : Nat → Int) (R : Nat) (w : World) (h : RdR w R r D) (hd : D32 D) (c : ¬ r.size < 1) (hg : ¬ 16 ≤ bt r 0) (hz : r.size ≤ 281474976710656) : Calls Try.prog 21 #[.pointer (some ⟨R, 0, none⟩), .int .u8 1] w (RwP w R (rdw r D 1)) := by
  have F : Hid (rdw r D 1 = some ⟨rdW r D 1, r.extract 1 r.size, fun j => if j = slotN (rdW r D 1) then rdW r D 1 else D j⟩) := by
    show _ = _
    unfold rdw
    rw [if_neg (by omega), if_neg (show ¬ r.size < rsz 1 from c), if_neg (by omega)]
    rfl
  have hx := rdW_bd r D 1 hd
  have hsl := slotN_lt (rdW r D 1)
  have P := fun w' => slot_any (rdW r D 1) w' hx
  have hr := h.rest
  have hL := h.lt
  have fr := h.frozen
  have W : Hid (rdW r D 1 = D (bt r 0).toNat) := by show _ = _; unfold rdW; rw [if_pos rfl]
  have hb := bt_bd r 0
  have ha := bt_at r 0 (by omega)
  obtain ⟨k, hk⟩ : ∃ k : Nat, bt r 0 = k := ⟨(bt r 0).toNat, by omega⟩
  rw [hk] at W ha hg hb
  have hk16 : k < 16 := by omega
  have W : Hid (rdW r D 1 = D k) := by show _ = _; rw [W.out]; rfl
  have cd := h.cell k hk16
  rw [← W.out] at cd
  clear hg hb hk
  have H := Lib.hid h
  clear h
  generalize rdW r D 1 = x at *
  go_enter Try.func21, Try.ntmps21
  go_wp2_with fail
  go_quiet (fail)
  go_upto_region 19 with fail
  have C1 : Hid (Chg (fun k => k = R) w ((w.drewN nq).setCell ⟨R, 0, none⟩ (.string (r.extract 1 r.size)))) := ((Chg.refl _ _).drewN nq).trans (Chg.set _ _ _ _)
  have H1 := Lib.hid ((H.out.drewN nq).setr (r.extract 1 r.size))
  generalize hW : (w.drewN nq).setCell ⟨R, 0, none⟩ (.string (r.extract 1 r.size)) = W1 at *
  have H2 := Lib.hid (H1.out.setd (slotN x) x).drew
  have C2 : Hid (Chg (fun k => k = R) w (W1.setCell ⟨R, 1 + slotN x, none⟩ (.int .u32 x)).drew) := (C1.out.trans (Chg.set _ _ _ _)).drew
  have cc := H1.out.cell (slotN x) hsl
  have ff := H1.out.frozen (1 + slotN x)
  have hL1 := H1.out.lt
  clear H C1 H1 hW fr
  generalize slotN x = m at *
  have hsi : (m : Int) < 16 := by omega
  have hs0 : (0 : Int) ≤ (m : Int) := by omega
  go_still_tail 7, (by kernel_rfl)
  still_call ((P _).mono fun e w' h => ⟨h.1, h.2.symm⟩)
  still_step
  still_step
  still_step
  still_step
  refine wpStill_nil ?_
  clear P
  go_wp2
  go_ret2
  exact RwP.some' F.out rfl C2.out H2.out
set_option maxHeartbeats 4000000 in
theorem rw_2 (r : ByteArray) (D : Nat → Int) (R : Nat) (w : World) (h : RdR w R r D) (hd : D32 D) (c : ¬ r.size < 3) (hg : ¬ 16 ≤ bt r 0) (hz : r.size ≤ 281474976710656) : Calls Try.prog 21 #[.pointer (some ⟨R, 0, none⟩), .int .u8 2] w (RwP w R (rdw r D 2)) := by
  have F : Hid (rdw r D 2 = some ⟨rdW r D 2, r.extract 3 r.size, fun j => if j = slotN (rdW r D 2) then rdW r D 2 else D j⟩) := by
    show _ = _
    unfold rdw
    rw [if_neg (by omega), if_neg (show ¬ r.size < rsz 2 from c), if_neg (by omega)]
    rfl
  have hx := rdW_bd r D 2 hd
  have hsl := slotN_lt (rdW r D 2)
  have P := fun w' => slot_any (rdW r D 2) w' hx
  have hr := h.rest
  have hL := h.lt
  have fr := h.frozen
  have W : Hid (rdW r D 2 = D (bt r 0).toNat / 65536 * 65536 + bt r 1 + bt r 2 * 256) := by show _ = _; unfold rdW; rw [if_neg (by omega), if_pos rfl]
  have hb := bt_bd r 0
  have hb1 := bt_bd r 1
  have hb2 := bt_bd r 2
  have ha := bt_at r 0 (by omega)
  have ha1 := bt_at r 1 (by omega)
  have ha2 := bt_at r 2 (by omega)
  obtain ⟨k, hk⟩ : ∃ k : Nat, bt r 0 = k := ⟨(bt r 0).toNat, by omega⟩
  rw [hk] at W ha hg hb
  have hk16 : k < 16 := by omega
  have W : Hid (rdW r D 2 = D k / 65536 * 65536 + bt r 1 + bt r 2 * 256) := by show _ = _; rw [W.out]; rfl
  have cd := h.cell k hk16
  have hdk := hd k
  have o1 : bits BinOp.or IntKind.u32 (D k / 65536 * 65536) (bt r 1) = D k / 65536 * 65536 + bt r 1 := by
    have : bits BinOp.or IntKind.u32 (bt r 1) (D k / 65536 * 65536) = bt r 1 + D k / 65536 * 65536 := or32 (bt r 1) (D k / 65536) 16 65536 rfl hb1.1 (by omega) (by omega) (by omega)
    rw [or_comm32, this]
    omega
  have o2 : bits BinOp.or IntKind.u32 (D k / 65536 * 65536 + bt r 1) (bt r 2 * 256) = rdW r D 2 := by
    have e : D k / 65536 * 65536 + bt r 1 = bt r 1 + D k / 65536 * 65536 := by omega
    rw [W.out, or_mid (D k / 65536) (bt r 1) (bt r 2) (by omega) hb1 hb2]
  clear hg hb hk W
  have hsz : 3 ≤ r.size := by omega
  generalize D k = y at *
  generalize bt r 1 = y1 at *
  generalize bt r 2 = y2 at *
  have H := Lib.hid h
  clear h
  generalize rdW r D 2 = x at *
  go_enter Try.func21, Try.ntmps21
  go_wp2_with fail
  go_quiet (fail)
  go_upto_region 19 with fail
  have C1 : Hid (Chg (fun k => k = R) w ((w.drewN nq).setCell ⟨R, 0, none⟩ (.string (r.extract 3 r.size)))) := ((Chg.refl _ _).drewN nq).trans (Chg.set _ _ _ _)
  have H1 := Lib.hid ((H.out.drewN nq).setr (r.extract 3 r.size))
  generalize hW : (w.drewN nq).setCell ⟨R, 0, none⟩ (.string (r.extract 3 r.size)) = W1 at *
  have H2 := Lib.hid (H1.out.setd (slotN x) x).drew
  have C2 : Hid (Chg (fun k => k = R) w (W1.setCell ⟨R, 1 + slotN x, none⟩ (.int .u32 x)).drew) := (C1.out.trans (Chg.set _ _ _ _)).drew
  have cc := H1.out.cell (slotN x) hsl
  have ff := H1.out.frozen (1 + slotN x)
  have hL1 := H1.out.lt
  clear H C1 H1 hW fr
  generalize slotN x = m at *
  have hsi : (m : Int) < 16 := by omega
  have hs0 : (0 : Int) ≤ (m : Int) := by omega
  go_still_tail 7, (by kernel_rfl)
  still_call ((P _).mono fun e w' h => ⟨h.1, h.2.symm⟩)
  still_step
  still_step
  still_step
  still_step
  refine wpStill_nil ?_
  clear P
  go_wp2
  go_ret2
  exact RwP.some' F.out rfl C2.out H2.out
set_option maxHeartbeats 4000000 in
theorem rw_3 (r : ByteArray) (D : Nat → Int) (R : Nat) (w : World) (h : RdR w R r D) (hd : D32 D) (c : ¬ r.size < 4) (hz : r.size ≤ 281474976710656) : Calls Try.prog 21 #[.pointer (some ⟨R, 0, none⟩), .int .u8 3] w (RwP w R (rdw r D 3)) := by
  have F : Hid (rdw r D 3 = some ⟨rdW r D 3, r.extract 4 r.size, fun j => if j = slotN (rdW r D 3) then rdW r D 3 else D j⟩) := by
    show _ = _
    unfold rdw
    rw [if_neg (by omega), if_neg (show ¬ r.size < rsz 3 from c), if_neg (by omega)]
    rfl
  have hx := rdW_bd r D 3 hd
  have hsl := slotN_lt (rdW r D 3)
  have P := fun w' => slot_any (rdW r D 3) w' hx
  have hr := h.rest
  have hL := h.lt
  have fr := h.frozen
  have W : Hid (rdW r D 3 = numAt r 0 4) := by show _ = _; unfold rdW; rw [if_neg (by omega), if_neg (by omega)]
  have Q := word_any r w (by omega)
  rw [← W.out] at Q
  have H := Lib.hid h
  clear h
  generalize rdW r D 3 = x at *
  go_enter Try.func21, Try.ntmps21
  go_wp2_with fail
  refine Q.mono ?_
  rintro e w0 ⟨rfl, nq, rfl⟩
  go_upto_region 19 with fail
  have C1 : Hid (Chg (fun k => k = R) w ((w.drewN nq).setCell ⟨R, 0, none⟩ (.string (r.extract 4 r.size)))) := ((Chg.refl _ _).drewN nq).trans (Chg.set _ _ _ _)
  have H1 := Lib.hid ((H.out.drewN nq).setr (r.extract 4 r.size))
  generalize hW : (w.drewN nq).setCell ⟨R, 0, none⟩ (.string (r.extract 4 r.size)) = W1 at *
  have H2 := Lib.hid (H1.out.setd (slotN x) x).drew
  have C2 : Hid (Chg (fun k => k = R) w (W1.setCell ⟨R, 1 + slotN x, none⟩ (.int .u32 x)).drew) := (C1.out.trans (Chg.set _ _ _ _)).drew
  have cc := H1.out.cell (slotN x) hsl
  have ff := H1.out.frozen (1 + slotN x)
  have hL1 := H1.out.lt
  clear H C1 H1 hW fr
  generalize slotN x = m at *
  have hsi : (m : Int) < 16 := by omega
  have hs0 : (0 : Int) ≤ (m : Int) := by omega
  go_still_tail 7, (by kernel_rfl)
  still_call ((P _).mono fun e w' h => ⟨h.1, h.2.symm⟩)
  still_step
  still_step
  still_step
  still_step
  refine wpStill_nil ?_
  clear P
  go_wp2
  go_ret2
  exact RwP.some' F.out rfl C2.out H2.out
end Go.Proofs.Ytpfaicdoaldioaa
