/- The reference's Compress. -/
import Derived.Test.YtpfaicdoaldioaaRcp
namespace Go.Proofs.Ytpfaicdoaldioaa
open Go.ChangeShapes Go.WideShapes Go.ChangeAt Go.RowKit Go.Deep Go.Joins

theorem numAt4 (s : ByteArray) (i : Nat) : numAt s i 4 = bt s i + bt s (i + 1) * 256 + bt s (i + 2) * 65536 + bt s (i + 3) * 16777216 := by
  show bt s i + 256 * (bt s (i + 1) + 256 * (bt s (i + 2) + 256 * (bt s (i + 3) + 256 * 0))) = _
  omega
set_option maxRecDepth 20000 in
set_option maxHeartbeats 4000000 in
theorem rcmp_ok (s : ByteArray) (w : World) (h : s.size = 256) : Calls Try.prog 12 #[.string s] w (CmP w (cmpR s)) := by
  obtain ⟨i0, hi, hz0, hz1, hz2⟩ := info_parts info5
  have HI := Lib.hid (And.intro hi (And.intro hz0 (And.intro hz1 hz2)))
  clear hi hz0 hz1 hz2
  have m1 := make16
  go_enter Try.func12, Try.ntmps12
  go_wp2_with fail
  have C0 := Lib.hid (cr_0 (wd s) w)
  clear m1
  generalize hw0 : (w.alloc (Obj.cells _ 41)).alloc _ = w0 at *
  clear hw0
  go_loopg [7, 6] 64 (fun g vi vo wr => ∃ i : Nat, i + g = 64 ∧ vi = .int .i64 i ∧ Cr w.heap.size w wr w.heap.size (w.heap.size + 1) (tagL (wd s) i) (bsl (wd s) i) (dct (wd s) i) vo)
  case atStart => exact ⟨0, rfl, rfl, C0.out⟩
  case round =>
    clear C0
    obtain ⟨i, hi, rfl, hC⟩ := hrel
    by_cases hlt : i < 64
    · obtain ⟨g, rfl⟩ : ∃ g, gk = g + 1 := ⟨gk - 1, by omega⟩
      have HG := Lib.hid hi
      have C := Lib.hid hC
      have hLR : (bsl (wd s) i).length ≤ 256 := by have := bsl_len (wd s) i; omega
      clear hi hC
      have hx := wd_bd s i
      have a0 := bt_at s (4 * i) (by omega)
      have a1 := bt_at s (4 * i + 1) (by omega)
      have a2 := bt_at s (4 * i + 2) (by omega)
      have a3 := bt_at s (4 * i + 3) (by omega)
      have b0 := bt_bd s (4 * i)
      have b1 := bt_bd s (4 * i + 1)
      have b2 := bt_bd s (4 * i + 2)
      have b3 := bt_bd s (4 * i + 3)
      have EW : Hid (wd s i = bt s (4 * i) + bt s (4 * i + 1) * 256 + bt s (4 * i + 2) * 65536 + bt s (4 * i + 3) * 16777216) := numAt4 s (4 * i)
      have i4 : 4 * i + 3 < 256 := by omega
      go_upto_region 9 with fail
      have n0 : (0 : Int) ≤ 4 * (i : Int) := by omega
      have n1 : (0 : Int) ≤ 4 * (i : Int) + 1 := by omega
      have n2 : (0 : Int) ≤ 4 * (i : Int) + 2 := by omega
      have n3 : (0 : Int) ≤ 4 * (i : Int) + 3 := by omega
      have m0 : (4 * (i : Int)).toNat = 4 * i := by omega
      have m1 : (4 * (i : Int) + 1).toNat = 4 * i + 1 := by omega
      have m2 : (4 * (i : Int) + 2).toNat = 4 * i + 2 := by omega
      have m3 : (4 * (i : Int) + 3).toNat = 4 * i + 3 := by omega
      have l0 : 4 * (i : Int) < (s.size : Int) := by omega
      have l1 : 4 * (i : Int) + 1 < (s.size : Int) := by omega
      have l2 : 4 * (i : Int) + 2 < (s.size : Int) := by omega
      have l3 : 4 * (i : Int) + 3 < (s.size : Int) := by omega
      go_quiet (fail)
      rw [← EW.out]
      clear n0 n1 n2 n3 m0 m1 m2 m3 l0 l1 l2 l3 a0 a1 a2 a3 b0 b1 b2 b3 EW i4
      have C := Lib.hid (C.out.drewN nq)
      have D : Hid (∀ c : wd s i ≠ 0, dct (wd s) (i + 1) = fun j => if j = slotN (wd s i) then wd s i else dct (wd s) i j) := fun c => by show dstep (dct (wd s) i) (wd s i) = _; unfold dstep; rw [if_neg c]
      by_cases hx0 : wd s i = 0
      · have x0 : (wd s i == 0) = true := beq_iff_eq.2 hx0
        have Z1 : Hid (tagL (wd s) (i + 1) = tagL (wd s) i) := tagL_zero (wd s) i hx0
        have Z2 : Hid (bsl (wd s) (i + 1) = bsl (wd s) i) := by show bsl (wd s) i ++ bsOf (dct (wd s) i) (wd s i) = _; unfold bsOf; rw [if_pos hx0, List.append_nil]
        have Z3 : Hid (dct (wd s) (i + 1) = dct (wd s) i) := by show dstep (dct (wd s) i) (wd s i) = _; unfold dstep; rw [if_pos hx0]
        clear hx0
        go_wp2_with fail
        go_roundg g
        case measure => omega
        case rel => exact ⟨i + 1, by have := HG.out; omega, by go_num, by rw [Z1.out, Z2.out, Z3.out]; exact C.out⟩
      · have x0 : (wd s i == 0) = false := beq_eq_false_iff_ne.2 hx0
        have D := Lib.hid (D.out hx0)
        have BS : Hid (bsOf (dct (wd s) i) (wd s i) = if wd s i = dct (wd s) i (slotN (wd s i)) then [(slotN (wd s i) : Int)] else if wd s i / 65536 = dct (wd s) i (slotN (wd s i)) / 65536 then [(slotN (wd s i) : Int), wd s i % 256, wd s i / 256 % 256] else leI (wd s i) 4) := by show _ = _; unfold bsOf; rw [if_neg hx0]
        have TG : Hid (tg (wd s) i = if wd s i = dct (wd s) i (slotN (wd s i)) then 1 else if wd s i / 65536 = dct (wd s) i (slotN (wd s i)) / 65536 then 2 else 3) := by show _ = _; unfold tg tgOf; rw [if_neg hx0]
        have HO := tbv_add (wd s) i
        have t1b := tbv_bd (wd s) (i + 1) (i / 4)
        have hO : Hid ((tagL (wd s) i)[i / 4]? = some (tbv (wd s) i (i / 4))) := by show _ = _; unfold tagL; rw [List.getElem?_map, List.getElem?_range (by omega)]; rfl
        have TS : Hid (tagL (wd s) (i + 1) = (tagL (wd s) i).set (i / 4) (tbv (wd s) (i + 1) (i / 4))) := tagL_set (wd s) i
        have hq : ((i : Int)).tdiv 4 = ((i / 4 : Nat) : Int) := by rw [Int.tdiv_eq_ediv_of_nonneg (by omega)]; omega
        have hr : ((i : Int)).tmod 4 = ((i % 4 : Nat) : Int) := by rw [Int.tmod_eq_emod_of_nonneg (by omega)]; omega
        have hk := slotN_lt (wd s i)
        have hsl : (wd s i / 65536).tmod 16 = (slotN (wd s i) : Int) := by rw [Int.tmod_eq_emod_of_nonneg (by omega)]; exact (slotN_eq _).symm
        clear hx0
        by_cases cA : wd s i = dct (wd s) i (slotN (wd s i))
        · have ZS : Hid (bsl (wd s) (i + 1) = bsl (wd s) i ++ [(slotN (wd s i) : Int)]) := by show bsl (wd s) i ++ bsOf (dct (wd s) i) (wd s i) = _; rw [BS.out, if_pos cA]
          rw [TG.out, if_pos cA] at HO
          have eA : (dct (wd s) i (slotN (wd s i)) == wd s i) = true := beq_iff_eq.2 cA.symm
          clear BS TG cA
          generalize hbs : bsl (wd s) i = LR at *
          generalize htg : tagL (wd s) i = LT at *
          generalize tbv (wd s) i (i / 4) = t0 at *
          generalize tbv (wd s) (i + 1) (i / 4) = t1 at *
          generalize hdd : dct (wd s) i = d at *
          generalize slotN (wd s i) = k at *
          generalize wd s i = x at *
          have k0 : IntKind.u8.wrap (k : Int) = k := by rw [wrap_u8]; omega
          have k1 : IntKind.u8.wrap x = x % 256 := wrap_u8 _
          have k2 : IntKind.u8.wrap (x / 256) = x / 256 % 256 := wrap_u8 _
          have k3 : IntKind.u8.wrap (x / 65536) = x / 65536 % 256 := wrap_u8 _
          have k4 : IntKind.u8.wrap (x / 16777216) = x / 16777216 % 256 := wrap_u8 _
          have HD := Lib.hid hdd
          have HT := Lib.hid htg
          have HB := Lib.hid hbs
          clear hdd htg hbs
          have cd := C.out.dic.cell k hk
          generalize wr.drewN nq = w1 at *
          go_wp2_with (at_builtin; refine wpList_append_own _ rfl (.tmp 73) (.tmp 76) 31 rfl (w.heap.size + 1 + 1) 5 i0 _ 1 1 Try.underlying31 HI.out.1 HI.out.2.1 HI.out.2.2.1 HI.out.2.2.2 rfl (by decide) _ LR.length (LR.map (Value.int .u8)) rfl (C.out.alloc (.cells #[.int .u8 (k : Int)] 5)).rs ⟨w1.heap.size, 0, none⟩ 1 1 [.int .u8 (k : Int)] rfl rfl ?c1 ?c2 ?c3 ?c4 ?c5 ?_)
          case c1 => intro j u hu; match j, hu with | 0, hu => (simp at hu; subst hu; simp [Addr.add, go_sem])
          case c2 => intro u hu; simp at hu; subst hu; rfl
          case c3 => unfold maxLen; omega
          case c4 => omega
          case c5 => have := C.out.low; simp; omega
          intro v' w4 hown hgr _
          have C5 := Lib.hid (Cr.grow (news := [(k : Int)]) (C.out.alloc (.cells #[.int .u8 (k : Int)] 5)) rfl hown hgr)
          clear hown hgr C cd k0 k1 k2 k3 k4
          have hl16 : LT.length = 16 := by rw [← HT.out, tagL_len]
          have cb : w4.cell? ⟨w.heap.size + 1, i / 4, none⟩ = some (.int .u8 t0) := by
            rw [C5.out.tg.cellAt (i / 4) (by omega), List.getElem?_map, hO.out]; rfl
          have hq16 : i / 4 < 16 := by omega
          have hr4 : i % 4 < 4 := by omega
          generalize i / 4 = q at *
          generalize i % 4 = r at *
          go_upto_region 20 with fail
          have j3 : IntKind.i64.wrap (q : Int) = (q : Int) := IntWalk.i64_in _ (by omega)
          have j4 : IntKind.i64.wrap (2 * (r : Int)) = 2 * (r : Int) := IntWalk.i64_in _ (by omega)
          have j9 : IntKind.i64.wrap (r : Int) = (r : Int) := IntWalk.i64_in _ (by omega)
          have j5 : ((2 : Int) * (r : Int)).toNat = 2 * r := by omega
          have j2 : IntKind.u64.wrap (2 * (r : Int)) = 2 * (r : Int) := by rw [IntKind.wrap_u64]; omega
          have j6 : IntKind.u8.wrap ((1 : Int) * 2 ^ (2 * r)) = 1 * 2 ^ (2 * r) := by rcases (show r = 0 ∨ r = 1 ∨ r = 2 ∨ r = 3 by omega) with e | e | e | e <;> (subst e; rfl)
          have j8 : IntKind.u8.wrap (t0 + 1 * 2 ^ (2 * r)) = t1 := by rw [HO, wrap_u8]; omega
          simp only [Int.one_mul] at j6 j8
          have fb := C5.out.tg.frozenAt q
          go_upto_region 21 with fail
          clear j2 j3 j4 j5 j6 j8 j9
          have C7 := Lib.hid ((C5.out.tset q t1).dset k x)
          have cd := (C5.out.tset q t1).dic.cell k hk
          have fd := (C5.out.tset q t1).dic.frozen k
          clear cb fb C5
          generalize (w4.setCell ⟨w.heap.size + 1, q, none⟩ (.int .u8 t1)) = w5 at *
          go_wp2_with fail
          go_roundg g
          case measure => omega
          case rel => exact ⟨i + 1, by have := HG.out; omega, by go_num, by rw [TS.out, ZS.out, D.out]; exact C7.out⟩
        · by_cases cB : wd s i / 65536 = dct (wd s) i (slotN (wd s i)) / 65536
          · have ZS : Hid (bsl (wd s) (i + 1) = bsl (wd s) i ++ [(slotN (wd s i) : Int), wd s i % 256, wd s i / 256 % 256]) := by show bsl (wd s) i ++ bsOf (dct (wd s) i) (wd s i) = _; rw [BS.out, if_neg cA, if_pos cB]
            rw [TG.out, if_neg cA, if_pos cB] at HO
            have eA : (dct (wd s) i (slotN (wd s i)) == wd s i) = false := beq_eq_false_iff_ne.2 (fun e => cA e.symm)
            have eB : (dct (wd s) i (slotN (wd s i)) / 65536 == wd s i / 65536) = true := beq_iff_eq.2 cB.symm
            clear BS TG cA cB
            generalize hbs : bsl (wd s) i = LR at *
            generalize htg : tagL (wd s) i = LT at *
            generalize tbv (wd s) i (i / 4) = t0 at *
            generalize tbv (wd s) (i + 1) (i / 4) = t1 at *
            generalize hdd : dct (wd s) i = d at *
            generalize slotN (wd s i) = k at *
            generalize wd s i = x at *
            have k0 : IntKind.u8.wrap (k : Int) = k := by rw [wrap_u8]; omega
            have k1 : IntKind.u8.wrap x = x % 256 := wrap_u8 _
            have k2 : IntKind.u8.wrap (x / 256) = x / 256 % 256 := wrap_u8 _
            have k3 : IntKind.u8.wrap (x / 65536) = x / 65536 % 256 := wrap_u8 _
            have k4 : IntKind.u8.wrap (x / 16777216) = x / 16777216 % 256 := wrap_u8 _
            have HD := Lib.hid hdd
            have HT := Lib.hid htg
            have HB := Lib.hid hbs
            clear hdd htg hbs
            have cd := C.out.dic.cell k hk
            generalize wr.drewN nq = w1 at *
            go_wp2_with (at_builtin; refine wpList_append_own _ rfl (.tmp 86) (.tmp 94) 31 rfl (w.heap.size + 1 + 1) 5 i0 _ 1 1 Try.underlying31 HI.out.1 HI.out.2.1 HI.out.2.2.1 HI.out.2.2.2 rfl (by decide) _ LR.length (LR.map (Value.int .u8)) rfl (C.out.alloc (.cells #[.int .u8 (k : Int), .int .u8 (x % 256), .int .u8 (x / 256 % 256)] 5)).rs ⟨w1.heap.size, 0, none⟩ 3 3 [.int .u8 (k : Int), .int .u8 (x % 256), .int .u8 (x / 256 % 256)] rfl rfl ?c1 ?c2 ?c3 ?c4 ?c5 ?_)
            case c1 => intro j u hu; match j, hu with | 0, hu => (simp at hu; subst hu; simp [Addr.add, go_sem]) | 1, hu => (simp at hu; subst hu; simp [Addr.add, go_sem]) | 2, hu => (simp at hu; subst hu; simp [Addr.add, go_sem])
            case c2 => intro u hu; simp at hu; rcases hu with rfl | rfl | rfl <;> rfl
            case c3 => unfold maxLen; omega
            case c4 => omega
            case c5 => have := C.out.low; simp; omega
            intro v' w4 hown hgr _
            have C5 := Lib.hid (Cr.grow (news := [(k : Int), x % 256, x / 256 % 256]) (C.out.alloc (.cells #[.int .u8 (k : Int), .int .u8 (x % 256), .int .u8 (x / 256 % 256)] 5)) rfl hown hgr)
            clear hown hgr C cd k0 k1 k2 k3 k4
            have hl16 : LT.length = 16 := by rw [← HT.out, tagL_len]
            have cb : w4.cell? ⟨w.heap.size + 1, i / 4, none⟩ = some (.int .u8 t0) := by
              rw [C5.out.tg.cellAt (i / 4) (by omega), List.getElem?_map, hO.out]; rfl
            have hq16 : i / 4 < 16 := by omega
            have hr4 : i % 4 < 4 := by omega
            generalize i / 4 = q at *
            generalize i % 4 = r at *
            go_upto_region 20 with fail
            have j3 : IntKind.i64.wrap (q : Int) = (q : Int) := IntWalk.i64_in _ (by omega)
            have j4 : IntKind.i64.wrap (2 * (r : Int)) = 2 * (r : Int) := IntWalk.i64_in _ (by omega)
            have j9 : IntKind.i64.wrap (r : Int) = (r : Int) := IntWalk.i64_in _ (by omega)
            have j5 : ((2 : Int) * (r : Int)).toNat = 2 * r := by omega
            have j2 : IntKind.u64.wrap (2 * (r : Int)) = 2 * (r : Int) := by rw [IntKind.wrap_u64]; omega
            have j6 : IntKind.u8.wrap ((2 : Int) * 2 ^ (2 * r)) = 2 * 2 ^ (2 * r) := by rcases (show r = 0 ∨ r = 1 ∨ r = 2 ∨ r = 3 by omega) with e | e | e | e <;> (subst e; rfl)
            have j8 : IntKind.u8.wrap (t0 + 2 * 2 ^ (2 * r)) = t1 := by rw [HO, wrap_u8]; omega
            clear HO
            have fb := C5.out.tg.frozenAt q
            go_upto_region 21 with fail
            clear j2 j3 j4 j5 j6 j8 j9
            have C7 := Lib.hid ((C5.out.tset q t1).dset k x)
            have cd := (C5.out.tset q t1).dic.cell k hk
            have fd := (C5.out.tset q t1).dic.frozen k
            clear cb fb C5
            generalize (w4.setCell ⟨w.heap.size + 1, q, none⟩ (.int .u8 t1)) = w5 at *
            go_wp2_with fail
            go_roundg g
            case measure => omega
            case rel => exact ⟨i + 1, by have := HG.out; omega, by go_num, by rw [TS.out, ZS.out, D.out]; exact C7.out⟩
          · have L4 : leI (wd s i) 4 = [wd s i % 256, wd s i / 256 % 256, wd s i / 65536 % 256, wd s i / 16777216 % 256] := by
              show [wd s i % 256, wd s i / 256 % 256, wd s i / 256 / 256 % 256, wd s i / 256 / 256 / 256 % 256] = _
              rw [show wd s i / 256 / 256 / 256 = wd s i / 16777216 by omega, show wd s i / 256 / 256 = wd s i / 65536 by omega]
            have ZS : Hid (bsl (wd s) (i + 1) = bsl (wd s) i ++ [wd s i % 256, wd s i / 256 % 256, wd s i / 65536 % 256, wd s i / 16777216 % 256]) := by show bsl (wd s) i ++ bsOf (dct (wd s) i) (wd s i) = _; rw [BS.out, if_neg cA, if_neg cB, L4]
            rw [TG.out, if_neg cA, if_neg cB] at HO
            have eA : (dct (wd s) i (slotN (wd s i)) == wd s i) = false := beq_eq_false_iff_ne.2 (fun e => cA e.symm)
            have eB : (dct (wd s) i (slotN (wd s i)) / 65536 == wd s i / 65536) = false := beq_eq_false_iff_ne.2 (fun e => cB e.symm)
            clear BS TG cA cB L4
            generalize hbs : bsl (wd s) i = LR at *
            generalize htg : tagL (wd s) i = LT at *
            generalize tbv (wd s) i (i / 4) = t0 at *
            generalize tbv (wd s) (i + 1) (i / 4) = t1 at *
            generalize hdd : dct (wd s) i = d at *
            generalize slotN (wd s i) = k at *
            generalize wd s i = x at *
            have k0 : IntKind.u8.wrap (k : Int) = k := by rw [wrap_u8]; omega
            have k1 : IntKind.u8.wrap x = x % 256 := wrap_u8 _
            have k2 : IntKind.u8.wrap (x / 256) = x / 256 % 256 := wrap_u8 _
            have k3 : IntKind.u8.wrap (x / 65536) = x / 65536 % 256 := wrap_u8 _
            have k4 : IntKind.u8.wrap (x / 16777216) = x / 16777216 % 256 := wrap_u8 _
            have HD := Lib.hid hdd
            have HT := Lib.hid htg
            have HB := Lib.hid hbs
            clear hdd htg hbs
            have cd := C.out.dic.cell k hk
            generalize wr.drewN nq = w1 at *
            go_wp2_with (at_builtin; refine wpList_append_own _ rfl (.tmp 53) (.tmp 65) 31 rfl (w.heap.size + 1 + 1) 5 i0 _ 1 1 Try.underlying31 HI.out.1 HI.out.2.1 HI.out.2.2.1 HI.out.2.2.2 rfl (by decide) _ LR.length (LR.map (Value.int .u8)) rfl (C.out.alloc (.cells #[.int .u8 (x % 256), .int .u8 (x / 256 % 256), .int .u8 (x / 65536 % 256), .int .u8 (x / 16777216 % 256)] 5)).rs ⟨w1.heap.size, 0, none⟩ 4 4 [.int .u8 (x % 256), .int .u8 (x / 256 % 256), .int .u8 (x / 65536 % 256), .int .u8 (x / 16777216 % 256)] rfl rfl ?c1 ?c2 ?c3 ?c4 ?c5 ?_)
            case c1 => intro j u hu; match j, hu with | 0, hu => (simp at hu; subst hu; simp [Addr.add, go_sem]) | 1, hu => (simp at hu; subst hu; simp [Addr.add, go_sem]) | 2, hu => (simp at hu; subst hu; simp [Addr.add, go_sem]) | 3, hu => (simp at hu; subst hu; simp [Addr.add, go_sem])
            case c2 => intro u hu; simp at hu; rcases hu with rfl | rfl | rfl | rfl <;> rfl
            case c3 => unfold maxLen; omega
            case c4 => omega
            case c5 => have := C.out.low; simp; omega
            intro v' w4 hown hgr _
            have C5 := Lib.hid (Cr.grow (news := [x % 256, x / 256 % 256, x / 65536 % 256, x / 16777216 % 256]) (C.out.alloc (.cells #[.int .u8 (x % 256), .int .u8 (x / 256 % 256), .int .u8 (x / 65536 % 256), .int .u8 (x / 16777216 % 256)] 5)) rfl hown hgr)
            clear hown hgr C cd k0 k1 k2 k3 k4
            have hl16 : LT.length = 16 := by rw [← HT.out, tagL_len]
            have cb : w4.cell? ⟨w.heap.size + 1, i / 4, none⟩ = some (.int .u8 t0) := by
              rw [C5.out.tg.cellAt (i / 4) (by omega), List.getElem?_map, hO.out]; rfl
            have hq16 : i / 4 < 16 := by omega
            have hr4 : i % 4 < 4 := by omega
            generalize i / 4 = q at *
            generalize i % 4 = r at *
            go_upto_region 20 with fail
            have j3 : IntKind.i64.wrap (q : Int) = (q : Int) := IntWalk.i64_in _ (by omega)
            have j4 : IntKind.i64.wrap (2 * (r : Int)) = 2 * (r : Int) := IntWalk.i64_in _ (by omega)
            have j9 : IntKind.i64.wrap (r : Int) = (r : Int) := IntWalk.i64_in _ (by omega)
            have j5 : ((2 : Int) * (r : Int)).toNat = 2 * r := by omega
            have j2 : IntKind.u64.wrap (2 * (r : Int)) = 2 * (r : Int) := by rw [IntKind.wrap_u64]; omega
            have j6 : IntKind.u8.wrap ((3 : Int) * 2 ^ (2 * r)) = 3 * 2 ^ (2 * r) := by rcases (show r = 0 ∨ r = 1 ∨ r = 2 ∨ r = 3 by omega) with e | e | e | e <;> (subst e; rfl)
            have j8 : IntKind.u8.wrap (t0 + 3 * 2 ^ (2 * r)) = t1 := by rw [HO, wrap_u8]; omega
            clear HO
            have fb := C5.out.tg.frozenAt q
            go_upto_region 21 with fail
            clear j2 j3 j4 j5 j6 j8 j9
            have C7 := Lib.hid ((C5.out.tset q t1).dset k x)
            have cd := (C5.out.tset q t1).dic.cell k hk
            have fd := (C5.out.tset q t1).dic.frozen k
            clear cb fb C5
            generalize (w4.setCell ⟨w.heap.size + 1, q, none⟩ (.int .u8 t1)) = w5 at *
            go_wp2_with fail
            go_roundg g
            case measure => omega
            case rel => exact ⟨i + 1, by have := HG.out; omega, by go_num, by rw [TS.out, ZS.out, D.out]; exact C7.out⟩
    · have H64 : Hid (i = 64) := by show _ = _; omega
      have h3 : ¬ (i : Int) < 64 := by omega
      have h4 : decide ((i : Int) < 64) = false := decide_eq_false h3
      have hLR : (bsl (wd s) i).length ≤ 256 := by have := bsl_len (wd s) i; have := H64.out; omega
      have F : Hid (∀ n : Nat, n = 64 → cmpR s = (if 239 < (bsl (wd s) n).length then strOfNums [0] ++ s else strOfNums (outL (wd s) n), 0)) := fun n hn => by subst hn; rw [cmpR_ok s h]; rfl
      have F := Lib.hid (F.out i H64.out)
      have HB := Lib.hid hC.bel
      clear hi hlt H64
      by_cases hb : 239 < (bsl (wd s) i).length
      · have E : Hid (cmpR s = (({ data := #[0] } : ByteArray) ++ s, 0)) := by show _ = _; rw [F.out, if_pos hb]; rfl
        rcases hC.rs.2 with ⟨rfl, h0⟩ | ⟨b, cap, cur, rfl, _⟩
        · omega
        · clear hC F
          generalize (bsl (wd s) i).length = n at *
          have hs := Lib.hid h
          clear h
          go_upto_region 22 with fail
          clear h3 h4
          have h := hs.out
          go_wp2
          go_ret2
          rw [E.out]
          exact ⟨rfl, HB.out⟩
      · have E : Hid (cmpR s = (({ data := #[1] } : ByteArray) ++ strOfNums (tagL (wd s) i) ++ strOfNums (bsl (wd s) i), 0)) := by
          show _ = _
          rw [F.out, if_neg hb]
          have e : outL (wd s) i = ([1] ++ tagL (wd s) i) ++ bsl (wd s) i := by simp [outL]
          rw [e, son_append, son_append]
          rfl
        have hcT := run_convert_bytes_arg (P := Try.prog) wr 31 5 Try.underlying31 Try.underlying5 (w.heap.size + 1) 0 16 16 (tagL (wd s) i) (tagL_len _ _) (fun j hj => by
          rw [Nat.zero_add, hC.tg.cellAt j (by omega), List.getElem?_map, List.getD_eq_getElem?_getD, List.getElem?_eq_getElem (by rw [tagL_len]; exact hj)]
          rfl) 9 Try.underlying9
        have zT : (strOfNums (tagL (wd s) i)).size = 16 := by rw [son_size, tagL_len]
        rcases hC.rs.2 with ⟨rfl, h0⟩ | ⟨b, cap, cur, rfl, _⟩
        · have hnil : bsl (wd s) i = [] := List.eq_nil_of_length_eq_zero h0
          have hcR := run_convert_bytes_nil (P := Try.prog) wr 31 5 Try.underlying31 Try.underlying5 0 0 9 Try.underlying9
          have E : Hid (cmpR s = (({ data := #[1] } : ByteArray) ++ strOfNums (tagL (wd s) i) ++ ByteArray.empty, 0)) := by show _ = _; rw [E.out, hnil]; rfl
          clear hC F hb hLR h0 hnil
          generalize strOfNums (tagL (wd s) i) = z at *
          have e1 : (({ data := #[1] } : ByteArray) ++ z).size = 17 := by rw [ByteArray.size_append, zT]; rfl
          generalize hy : ({ data := #[1] } : ByteArray) ++ z = y at *
          have e2 : ByteArray.empty.size = 0 := rfl
          generalize ByteArray.empty = em at *
          go_upto_region 22 with fail
          clear h3 h4
          go_wp2
          go_ret2
          rw [E.out]
          exact ⟨rfl, HB.out⟩
        · have hO := hC.rs
          have hcR := run_convert_bytes_arg (P := Try.prog) wr 31 5 Try.underlying31 Try.underlying5 b 0 (bsl (wd s) i).length cap (bsl (wd s) i) rfl (fun j hj => by
            rw [Nat.zero_add, hO.cellAt j (by omega), List.getElem?_map, List.getD_eq_getElem?_getD, List.getElem?_eq_getElem hj]
            rfl) 9 Try.underlying9
          have zR : (strOfNums (bsl (wd s) i)).size ≤ 256 := by rw [son_size]; exact hLR
          clear hC F hO
          generalize strOfNums (tagL (wd s) i) = z at *
          generalize strOfNums (bsl (wd s) i) = zr at *
          generalize (bsl (wd s) i).length = n at *
          have e1 : (({ data := #[1] } : ByteArray) ++ z).size = 17 := by rw [ByteArray.size_append, zT]; rfl
          generalize hy : ({ data := #[1] } : ByteArray) ++ z = y at *
          go_upto_region 22 with fail
          clear h3 h4
          go_wp2
          go_ret2
          rw [E.out]
          exact ⟨rfl, HB.out⟩
theorem rcmp_any (s : ByteArray) (w : World) : Calls Try.prog 12 #[.string s] w (CmP w (cmpR s)) := by
  by_cases h : s.size = 256
  · exact rcmp_ok s w h
  · exact rcmp_bad s w h
end Go.Proofs.Ytpfaicdoaldioaa
