/- Compress. -/
import Derived.Test.YtpfaicdoaldioaaPz
import Derived.Deep.LoopGhost
import Derived.Deep.CutBlock
namespace Go.Proofs.Ytpfaicdoaldioaa
open Go.ChangeShapes Go.WideShapes Go.ChangeAt Go.RowKit Go.Deep Go.Joins

theorem Dct.frozen {w : World} {bd : Nat} {D : Nat → Int} (h : Dct w bd D) (j : Nat) : w.frozen? ⟨bd, j, none⟩ = false := by
  obtain ⟨cur, t, hh, _⟩ := h.obj
  exact frozen_of_row w bd j cur t hh
theorem info5 : (Try.prog.info? 5).map (fun i => (i.zero, i.size, i.bytes)) = some (some (.int .u8 0), 1, 1) := by kernel_rfl
def CmP (w : World) (r : ByteArray × Int) (e : Ending) (w' : World) : Prop := e = .returned (pairV r.1 r.2) ∧ Below w.heap.size w w'
theorem make17 (w : World) : (Instr.makeSlice 31 (.int .i64 17) (.int .i64 17)).run Try.prog w = .ok (.slice (some ⟨w.heap.size, 0, none⟩) 17 17) (w.alloc (.cells (madeCells #[.int .u8 0] 17) 5)) :=
  run_make_row' 31 5 (.int .u8 0) 1 Try.underlying31 info5 rfl .i64 .i64 17 (by decide) (by decide) w
set_option maxHeartbeats 2000000 in
theorem cmp_bad (s : ByteArray) (w : World) (h : s.size ≠ 256) : Calls Try.prog 11 #[.string s] w (CmP w (cmpR s)) := by
  have F : Hid (cmpR s = ({ data := #[] }, 1)) := by show _ = _; unfold cmpR; rw [if_neg h]
  go_enter Try.func11, Try.ntmps11
  go_wp2
  go_ret2
  rw [F.out]
  exact ⟨rfl, Below.refl _ _⟩
theorem outL_0 (W : Nat → Int) : outL W 0 = 1 :: List.replicate 16 0 := by
  have e : ∀ m, tgm W 0 m = 0 := fun m => by unfold tgm; rw [if_neg (by omega)]
  have e2 : tbv W 0 = fun _ => 0 := by funext j; unfold tbv; rw [e, e, e, e]; rfl
  unfold outL tagL
  rw [e2]
  rfl
theorem cz_0 (W : Nat → Int) (w : World) : Cz w.heap.size w ((w.alloc (Obj.cells ((madeCells #[Value.int IntKind.u8 0] 17).setIfInBounds 0 (Value.int IntKind.u8 1)) 5)).alloc (Obj.cells
        #[Value.int IntKind.u32 0, Value.int IntKind.u32 0, Value.int IntKind.u32 0, Value.int IntKind.u32 0,
          Value.int IntKind.u32 0, Value.int IntKind.u32 0, Value.int IntKind.u32 0, Value.int IntKind.u32 0,
          Value.int IntKind.u32 0, Value.int IntKind.u32 0, Value.int IntKind.u32 0, Value.int IntKind.u32 0,
          Value.int IntKind.u32 0, Value.int IntKind.u32 0, Value.int IntKind.u32 0, Value.int IntKind.u32 0] 41)) (w.heap.size + 1) (outL W 0) (dct W 0) w.heap.size 17 := by
  rw [outL_0]
  refine ⟨?_, ?_, bal (bal (Below.refl _ _) _) _, by omega⟩
  · have := World.ownsRow_lit (base := w.heap.size) (e := 5) (size := 1) w ((madeCells #[Value.int IntKind.u8 0] 17).setIfInBounds 0 (Value.int IntKind.u8 1)) 17 (Nat.le_refl _) (by unfold maxLen; omega) (by kernel_rfl)
    have e : ((madeCells #[Value.int IntKind.u8 0] 17).setIfInBounds 0 (Value.int IntKind.u8 1)).toList = (1 :: List.replicate 16 0).map (Value.int .u8) := by kernel_rfl
    rw [e] at this
    exact this.alloc _
  · refine ⟨_, 41, heap_alloc_new (w.alloc _) _ |> fun h => by simpa using h, by decide, rfl, fun j hj => ?_⟩
    rcases (show j = 0 ∨ j = 1 ∨ j = 2 ∨ j = 3 ∨ j = 4 ∨ j = 5 ∨ j = 6 ∨ j = 7 ∨ j = 8 ∨ j = 9 ∨ j = 10 ∨ j = 11 ∨ j = 12 ∨ j = 13 ∨ j = 14 ∨ j = 15 by omega) with h | h | h | h | h | h | h | h | h | h | h | h | h | h | h | h <;> (subst h; rfl)
theorem word_at (s : ByteArray) (i : Nat) (h : s.size = 256) (hi : i < 64) : numAt (s.extract (4 * i) 256) 0 4 = wd s i :=
  numAt_congr _ _ _ _ _ (fun m hm => by rw [bt_extract s (4 * i) 256 (0 + m) (by omega) (by omega), Nat.zero_add])
set_option pp.maxSteps 100000 in
set_option maxRecDepth 20000 in
set_option maxHeartbeats 4000000 in
set_option pp.deepTerms true in
theorem cmp_ok (s : ByteArray) (w : World) (h : s.size = 256) : Calls Try.prog 11 #[.string s] w (CmP w (cmpR s)) := by
  have F : Hid (cmpR s = (cmp s, 0)) := by show _ = _; unfold cmpR; rw [if_pos h]
  obtain ⟨i0, hi, hz0, hz1, hz2⟩ := info_parts info5
  have HI := Lib.hid (And.intro hi (And.intro hz0 (And.intro hz1 hz2)))
  clear hi hz0 hz1 hz2
  have m1 := make17 w
  have m2 : (madeCells #[Value.int IntKind.u8 0] 17)[0]? = some (.int .u8 0) := by kernel_rfl
  go_enter Try.func11, Try.ntmps11
  go_wp2_with fail
  have C0 := Lib.hid (cz_0 (wd s) w)
  have z0 : (outL (wd s) 0).length = 17 := by rw [outL_0]; rfl
  clear m1 m2
  generalize hw0 : ((w.alloc (Obj.cells ((madeCells #[Value.int IntKind.u8 0] 17).setIfInBounds 0 (Value.int IntKind.u8 1)) 5)).alloc _) = w0 at *
  clear hw0
  go_loopg [17, 4] 64 (fun g vi vo wr => ∃ i b c : Nat, i + g = 64 ∧ vi = .int .i64 i ∧ vo = .slice (some ⟨b, 0, none⟩) (outL (wd s) i).length c ∧ Cz w.heap.size w wr (w.heap.size + 1) (outL (wd s) i) (dct (wd s) i) b c)
  case atStart => exact ⟨0, w.heap.size, 17, rfl, rfl, by rw [z0], C0.out⟩
  case round =>
    clear C0 z0
    obtain ⟨i, b, c, hi, rfl, rfl, hC⟩ := hrel
    by_cases hlt : i < 64
    · obtain ⟨g, rfl⟩ : ∃ g, gk = g + 1 := ⟨gk - 1, by omega⟩
      have P := word_any (s.extract (4 * i) 256) wr (by rw [ByteArray.size_extract]; omega)
      rw [word_at s i h hlt] at P
      have hx := wd_bd s i
      have HG := Lib.hid hi
      have C := Lib.hid hC
      have Z0 := Lib.hid (outL_zero (wd s) i)
      have ZS := Lib.hid (outL_step (wd s) i hlt)
      have hk := slotN_lt (wd s i)
      have hL : (outL (wd s) i).length ≤ 17 + 256 := by rw [outL_len]; have := bsl_len (wd s) i; omega
      have hL0 : 17 ≤ (outL (wd s) i).length := by rw [outL_len]; omega
      clear hi hC
      by_cases hx0 : wd s i = 0
      · have D : Hid (dct (wd s) (i + 1) = dct (wd s) i) := by show _ = _; simp [dct, dstep, hx0]
        have Z := Lib.hid (Z0.out hx0)
        rw [hx0] at P
        clear ZS Z0 hk
        generalize hn : (outL (wd s) i).length = n at *
        have HN := Lib.hid hn
        clear hn
        go_wp2_with fail
        refine P.mono ?_
        rintro e w1 ⟨rfl, n1, rfl⟩
        go_wp2
        go_roundg g
        case measure => omega
        case rel => exact ⟨i + 1, b, c, by have := HG.out; omega, by go_num, by rw [Z.out, HN.out], by rw [Z.out, D.out]; exact C.out.drewN _⟩
      · have x0 : (wd s i == 0) = false := beq_eq_false_iff_ne.2 hx0
        have D : Hid (dct (wd s) (i + 1) = fun j => if j = slotN (wd s i) then wd s i else dct (wd s) i j) := by show _ = _; simp [dct, dstep, hx0]
        have BS : Hid (bsOf (dct (wd s) i) (wd s i) = if wd s i = dct (wd s) i (slotN (wd s i)) then [(slotN (wd s i) : Int)] else if wd s i / 65536 = dct (wd s) i (slotN (wd s i)) / 65536 then [(slotN (wd s i) : Int), wd s i % 256, wd s i / 256 % 256] else leI (wd s i) 4) := by show _ = _; unfold bsOf; rw [if_neg hx0]
        have TG : Hid (tg (wd s) i = if wd s i = dct (wd s) i (slotN (wd s i)) then 1 else if wd s i / 65536 = dct (wd s) i (slotN (wd s i)) / 65536 then 2 else 3) := by show _ = _; unfold tg tgOf; rw [if_neg hx0]
        have P2 := fun w' => slot_any (wd s i) w' hx
        have HO := tbv_or (wd s) i
        have hO := Lib.hid (fun l => outL_get (wd s) i hlt l)
        have hq : ((i : Int)).tdiv 4 = ((i / 4 : Nat) : Int) := by rw [Int.tdiv_eq_ediv_of_nonneg (by omega)]; omega
        have hr : ((i : Int)).tmod 4 = ((i % 4 : Nat) : Int) := by rw [Int.tmod_eq_emod_of_nonneg (by omega)]; omega
        clear Z0 hx0
        by_cases cA : wd s i = dct (wd s) i (slotN (wd s i))
        · rw [BS.out, if_pos cA] at ZS
          rw [TG.out, if_pos cA] at HO
          have eA : (wd s i == dct (wd s) i (slotN (wd s i))) = true := beq_iff_eq.2 cA
          clear BS TG cA
          generalize tbv (wd s) i (i / 4) = t0 at *
          generalize tbv (wd s) (i + 1) (i / 4) = t1 at *
          generalize hdd : dct (wd s) i = d at *
          generalize slotN (wd s i) = k at *
          generalize wd s i = x at *
          have hw : IntKind.u8.wrap (k : Int) = k := by rw [wrap_u8]; omega
          generalize hn : (outL (wd s) i).length = n at *
          have HN := Lib.hid hn
          have HD := Lib.hid hdd
          clear hn hdd
          go_wp2_with fail
          refine P.mono ?_
          rintro e w1 ⟨rfl, n1, rfl⟩
          go_wp2_with fail
          refine (P2 _).mono ?_
          rintro e w2 ⟨rfl, rfl⟩
          have C1 := Lib.hid (C.out.drewN n1)
          have cd := C1.out.dic.cell k hk
          generalize wr.drewN n1 = w1 at *
          clear P P2 C
          go_wp2_with (at_builtin; refine wpList_append_own _ rfl (.tmp 45) (.tmp 48) 31 rfl w.heap.size 5 i0 _ 1 1 Try.underlying31 HI.out.1 HI.out.2.1 HI.out.2.2.1 HI.out.2.2.2 rfl (by decide) _ n ((outL (wd s) i).map (Value.int .u8)) rfl (by have := (C1.out.alloc (.cells #[.int .u8 (k : Int)] 5)).own; rw [HN.out] at this; exact this) ⟨w1.heap.size, 0, none⟩ 1 1 [.int .u8 (k : Int)] rfl rfl ?c1 ?c2 ?c3 ?c4 ?c5 ?_)
          case c1 => intro j u hu; match j, hu with | 0, hu => simp at hu; subst hu; simp [Addr.add, go_sem]
          case c2 => intro u hu; simp at hu; subst hu; rfl
          case c3 => unfold maxLen; omega
          case c4 => omega
          case c5 => have := C1.out.bel.size; simp; omega
          intro v' w4 hown hgr _
          obtain ⟨b', c', rfl, C4⟩ := Cz.grow (news := [(k : Int)]) (C1.out.alloc (.cells #[.int .u8 (k : Int)] 5)) rfl (by rw [HN.out]; exact hown) (by rw [HN.out]; exact hgr) (by rw [HN.out]; omega)
          have hq0 := hO.out [(k : Int)]
          generalize hl2 : outL (wd s) i ++ [(k : Int)] = l2 at *
          have C5 := Lib.hid C4
          have HL2 := Lib.hid hl2
          clear C4 hown hgr C1 cd hl2 hO
          have hn2 : l2.length ≤ 17 + 256 + 1 := by rw [← HL2.out, List.length_append, HN.out]; simp; omega
          have hn3 : 17 ≤ l2.length := by rw [← HL2.out, List.length_append, HN.out]; simp; omega
          have cb : w4.cell? ⟨b', 1 + i / 4, none⟩ = some (.int .u8 t0) := by
            rw [C5.out.own.cellAt (1 + i / 4) (by omega), List.getElem?_map, hq0]; rfl
          have hq16 : i / 4 < 16 := by omega
          have hr4 : i % 4 < 4 := by omega
          have hBB := Lib.hid C5.out.low
          clear hq0
          generalize i / 4 = q at *
          generalize i % 4 = r at *
          generalize hl3 : l2.length = n2 at *
          have HL3 := Lib.hid hl3
          clear hl3
          have C6 := fun nn => C5.out.drewN nn
          have C6 := Lib.hid C6
          go_upto_region 21 with fail
          have j1 : (0 : Int) ≤ 1 + (q : Int) := by omega
          have j2 : ((1 : Int) + (q : Int)).toNat = 1 + q := by omega
          have j3 : IntKind.i64.wrap (1 + (q : Int)) = 1 + (q : Int) := IntWalk.i64_in _ (by omega)
          have j4 : IntKind.i64.wrap (2 * (r : Int)) = 2 * (r : Int) := IntWalk.i64_in _ (by omega)
          have j5 : ((2 : Int) * (r : Int)).toNat = 2 * r := by omega
          have j6 : IntKind.u8.wrap ((1 : Int) * 2 ^ (2 * r)) = 1 * 2 ^ (2 * r) := by rcases (show r = 0 ∨ r = 1 ∨ r = 2 ∨ r = 3 by omega) with e | e | e | e <;> (subst e; rfl)
          have j7 : (1 : Int) + (q : Int) < (n2 : Int) := by omega
          have j8 : IntKind.i64.wrap (q : Int) = (q : Int) := IntWalk.i64_in _ (by omega)
          have j9 : IntKind.i64.wrap (r : Int) = (r : Int) := IntWalk.i64_in _ (by omega)
          simp only [Int.one_mul] at HO j6
          go_still_tail 13, (by kernel_rfl)
          clear j1 j2 j3 j4 j5 j6 j7 j8 j9
          have fb := C5.out.own.frozenAt (1 + q)
          go_upto_region 22 with fail
          have C7 := Lib.hid (((C5.out.set (1 + q) t1).drew).dset k x)
          have cd := (((C5.out.set (1 + q) t1).drew)).dic.cell k hk
          have fd := (((C5.out.set (1 + q) t1).drew)).dic.frozen k
          clear cb fb C5 C6
          generalize (w4.setCell ⟨b', 1 + q, none⟩ (.int .u8 t1)).drew = w5 at *
          go_wp2_with fail
          go_roundg g
          case measure => omega
          case rel => exact ⟨i + 1, b', c', by have := HG.out; omega, by go_num, by rw [ZS.out, List.length_set, HL3.out], by rw [ZS.out, D.out]; exact C7.out⟩
        · by_cases cB : wd s i / 65536 = dct (wd s) i (slotN (wd s i)) / 65536
          · rw [BS.out, if_neg cA, if_pos cB] at ZS
            rw [TG.out, if_neg cA, if_pos cB] at HO
            have eA : (wd s i == dct (wd s) i (slotN (wd s i))) = false := beq_eq_false_iff_ne.2 cA
            have eB : (wd s i / 65536 == dct (wd s) i (slotN (wd s i)) / 65536) = true := beq_iff_eq.2 cB
            clear BS TG cA cB
            generalize tbv (wd s) i (i / 4) = t0 at *
            generalize tbv (wd s) (i + 1) (i / 4) = t1 at *
            generalize hdd : dct (wd s) i = d at *
            generalize slotN (wd s i) = k at *
            generalize wd s i = x at *
            have hw : IntKind.u8.wrap (k : Int) = k := by rw [wrap_u8]; omega
            have hw2 : IntKind.u8.wrap x = x % 256 := wrap_u8 x
            have hw3 : IntKind.u8.wrap (x / 256) = x / 256 % 256 := wrap_u8 _
            generalize hn : (outL (wd s) i).length = n at *
            have HN := Lib.hid hn
            have HD := Lib.hid hdd
            clear hn hdd
            go_wp2_with fail
            refine P.mono ?_
            rintro e w1 ⟨rfl, n1, rfl⟩
            go_wp2_with fail
            refine (P2 _).mono ?_
            rintro e w2 ⟨rfl, rfl⟩
            have C1 := Lib.hid (C.out.drewN n1)
            have cd := C1.out.dic.cell k hk
            generalize wr.drewN n1 = w1 at *
            clear P P2 C
            go_wp2_with (at_builtin; refine wpList_append_own _ rfl (.tmp 56) (.tmp 64) 31 rfl w.heap.size 5 i0 _ 1 1 Try.underlying31 HI.out.1 HI.out.2.1 HI.out.2.2.1 HI.out.2.2.2 rfl (by decide) _ n ((outL (wd s) i).map (Value.int .u8)) rfl (by have := (C1.out.alloc (.cells #[.int .u8 (k : Int), .int .u8 (x % 256), .int .u8 (x / 256 % 256)] 5)).own; rw [HN.out] at this; exact this) ⟨w1.heap.size, 0, none⟩ 3 3 [.int .u8 (k : Int), .int .u8 (x % 256), .int .u8 (x / 256 % 256)] rfl rfl ?c1 ?c2 ?c3 ?c4 ?c5 ?_)
            case c1 => intro j u hu; match j, hu with | 0, hu => (simp at hu; subst hu; simp [Addr.add, go_sem]) | 1, hu => (simp at hu; subst hu; simp [Addr.add, go_sem]) | 2, hu => (simp at hu; subst hu; simp [Addr.add, go_sem])
            case c2 => intro u hu; simp at hu; rcases hu with rfl | rfl | rfl <;> rfl
            case c3 => unfold maxLen; omega
            case c4 => omega
            case c5 => have := C1.out.bel.size; simp; omega
            intro v' w4 hown hgr _
            obtain ⟨b', c', rfl, C4⟩ := Cz.grow (news := [(k : Int), x % 256, x / 256 % 256]) (C1.out.alloc (.cells #[.int .u8 (k : Int), .int .u8 (x % 256), .int .u8 (x / 256 % 256)] 5)) rfl (by rw [HN.out]; exact hown) (by rw [HN.out]; exact hgr) (by rw [HN.out]; omega)
            have hq0 := hO.out [(k : Int), x % 256, x / 256 % 256]
            generalize hl2 : outL (wd s) i ++ [(k : Int), x % 256, x / 256 % 256] = l2 at *
            have C5 := Lib.hid C4
            have HL2 := Lib.hid hl2
            clear C4 hown hgr C1 cd hl2 hO hw2 hw3
            have hn2 : l2.length ≤ 17 + 256 + 3 := by rw [← HL2.out, List.length_append, HN.out]; simp; omega
            have hn3 : 17 ≤ l2.length := by rw [← HL2.out, List.length_append, HN.out]; simp; omega
            have cb : w4.cell? ⟨b', 1 + i / 4, none⟩ = some (.int .u8 t0) := by
              rw [C5.out.own.cellAt (1 + i / 4) (by omega), List.getElem?_map, hq0]; rfl
            have hq16 : i / 4 < 16 := by omega
            have hr4 : i % 4 < 4 := by omega
            have hBB := Lib.hid C5.out.low
            clear hq0
            generalize i / 4 = q at *
            generalize i % 4 = r at *
            generalize hl3 : l2.length = n2 at *
            have HL3 := Lib.hid hl3
            clear hl3
            have C6 := fun nn => C5.out.drewN nn
            have C6 := Lib.hid C6
            go_upto_region 21 with fail
            have j1 : (0 : Int) ≤ 1 + (q : Int) := by omega
            have j2 : ((1 : Int) + (q : Int)).toNat = 1 + q := by omega
            have j3 : IntKind.i64.wrap (1 + (q : Int)) = 1 + (q : Int) := IntWalk.i64_in _ (by omega)
            have j4 : IntKind.i64.wrap (2 * (r : Int)) = 2 * (r : Int) := IntWalk.i64_in _ (by omega)
            have j5 : ((2 : Int) * (r : Int)).toNat = 2 * r := by omega
            have j6 : IntKind.u8.wrap ((2 : Int) * 2 ^ (2 * r)) = 2 * 2 ^ (2 * r) := by rcases (show r = 0 ∨ r = 1 ∨ r = 2 ∨ r = 3 by omega) with e | e | e | e <;> (subst e; rfl)
            have j7 : (1 : Int) + (q : Int) < (n2 : Int) := by omega
            have j8 : IntKind.i64.wrap (q : Int) = (q : Int) := IntWalk.i64_in _ (by omega)
            have j9 : IntKind.i64.wrap (r : Int) = (r : Int) := IntWalk.i64_in _ (by omega)
            go_still_tail 13, (by kernel_rfl)
            clear j1 j2 j3 j4 j5 j6 j7 j8 j9
            have fb := C5.out.own.frozenAt (1 + q)
            go_upto_region 22 with fail
            have C7 := Lib.hid (((C5.out.set (1 + q) t1).drew).dset k x)
            have cd := (((C5.out.set (1 + q) t1).drew)).dic.cell k hk
            have fd := (((C5.out.set (1 + q) t1).drew)).dic.frozen k
            clear cb fb C5 C6
            generalize (w4.setCell ⟨b', 1 + q, none⟩ (.int .u8 t1)).drew = w5 at *
            go_wp2_with fail
            go_roundg g
            case measure => omega
            case rel => exact ⟨i + 1, b', c', by have := HG.out; omega, by go_num, by rw [ZS.out, List.length_set, HL3.out], by rw [ZS.out, D.out]; exact C7.out⟩
          · rw [BS.out, if_neg cA, if_neg cB] at ZS
            rw [TG.out, if_neg cA, if_neg cB] at HO
            have eA : (wd s i == dct (wd s) i (slotN (wd s i))) = false := beq_eq_false_iff_ne.2 cA
            have eB : (wd s i / 65536 == dct (wd s) i (slotN (wd s i)) / 65536) = false := beq_eq_false_iff_ne.2 cB
            have SC : Hid (Lib.strCells (s.extract (4 * i) (4 * i + 4)) = (leI (wd s i) 4).map (Value.int .u8)) := by show _ = _; rw [strCells_btL, btL_word s (4 * i) (by omega)]; rfl
            have hz4 : (s.extract (4 * i) (4 * i + 4)).size = 4 := by rw [ByteArray.size_extract]; omega
            clear BS TG cA cB
            generalize tbv (wd s) i (i / 4) = t0 at *
            generalize tbv (wd s) (i + 1) (i / 4) = t1 at *
            generalize hdd : dct (wd s) i = d at *
            generalize slotN (wd s i) = k at *
            generalize wd s i = x at *
            generalize hn : (outL (wd s) i).length = n at *
            have HN := Lib.hid hn
            have HD := Lib.hid hdd
            clear hn hdd
            go_wp2_with fail
            refine P.mono ?_
            rintro e w1 ⟨rfl, n1, rfl⟩
            go_wp2_with fail
            refine (P2 _).mono ?_
            rintro e w2 ⟨rfl, rfl⟩
            have C1 := Lib.hid (C.out.drewN n1)
            have cd := C1.out.dic.cell k hk
            generalize wr.drewN n1 = w1 at *
            clear P P2 C
            go_wp2_with (at_builtin; refine Lib.wpList_append_own_string _ rfl (.tmp 32) (.tmp 39) 31 9 rfl w.heap.size 5 i0 Try.underlying31 Try.underlying9 HI.out.1 HI.out.2.1 HI.out.2.2.1 HI.out.2.2.2 _ n ((outL (wd s) i).map (Value.int .u8)) rfl (by have := C1.out.own; rw [HN.out] at this; exact this) (s.extract (4 * i) (4 * i + 4)) rfl ?c1 ?c2 ?c3 ?_)
            case c1 => rw [hz4]; unfold maxLen; omega
            case c2 => rw [hz4]; omega
            case c3 => have := C1.out.bel.size; omega
            intro v' w4 hown hgr _
            rw [SC.out] at hown
            obtain ⟨b', c', rfl, C4⟩ := Cz.grow (news := leI x 4) (m := 4) C1.out (leI_len _ _) (by rw [HN.out]; exact hown) (by rw [HN.out]; exact hgr) (by rw [HN.out]; omega)
            have hq0 := hO.out (leI x 4)
            generalize hl2 : outL (wd s) i ++ leI x 4 = l2 at *
            have C5 := Lib.hid C4
            have HL2 := Lib.hid hl2
            clear C4 hown hgr C1 cd hl2 hO SC hz4
            have hn2 : l2.length ≤ 17 + 256 + 4 := by rw [← HL2.out, List.length_append, HN.out, leI_len]; omega
            have hn3 : 17 ≤ l2.length := by rw [← HL2.out, List.length_append, HN.out, leI_len]; omega
            have cb : w4.cell? ⟨b', 1 + i / 4, none⟩ = some (.int .u8 t0) := by
              rw [C5.out.own.cellAt (1 + i / 4) (by omega), List.getElem?_map, hq0]; rfl
            have hq16 : i / 4 < 16 := by omega
            have hr4 : i % 4 < 4 := by omega
            have hBB := Lib.hid C5.out.low
            clear hq0
            generalize i / 4 = q at *
            generalize i % 4 = r at *
            generalize hl3 : l2.length = n2 at *
            have HL3 := Lib.hid hl3
            clear hl3
            have C6 := fun nn => C5.out.drewN nn
            have C6 := Lib.hid C6
            go_upto_region 21 with fail
            have j1 : (0 : Int) ≤ 1 + (q : Int) := by omega
            have j2 : ((1 : Int) + (q : Int)).toNat = 1 + q := by omega
            have j3 : IntKind.i64.wrap (1 + (q : Int)) = 1 + (q : Int) := IntWalk.i64_in _ (by omega)
            have j4 : IntKind.i64.wrap (2 * (r : Int)) = 2 * (r : Int) := IntWalk.i64_in _ (by omega)
            have j5 : ((2 : Int) * (r : Int)).toNat = 2 * r := by omega
            have j6 : IntKind.u8.wrap ((3 : Int) * 2 ^ (2 * r)) = 3 * 2 ^ (2 * r) := by rcases (show r = 0 ∨ r = 1 ∨ r = 2 ∨ r = 3 by omega) with e | e | e | e <;> (subst e; rfl)
            have j7 : (1 : Int) + (q : Int) < (n2 : Int) := by omega
            have j8 : IntKind.i64.wrap (q : Int) = (q : Int) := IntWalk.i64_in _ (by omega)
            have j9 : IntKind.i64.wrap (r : Int) = (r : Int) := IntWalk.i64_in _ (by omega)
            go_still_tail 13, (by kernel_rfl)
            clear j1 j2 j3 j4 j5 j6 j7 j8 j9
            have fb := C5.out.own.frozenAt (1 + q)
            go_upto_region 22 with fail
            have C7 := Lib.hid (((C5.out.set (1 + q) t1).drew).dset k x)
            have cd := (((C5.out.set (1 + q) t1).drew)).dic.cell k hk
            have fd := (((C5.out.set (1 + q) t1).drew)).dic.frozen k
            clear cb fb C5 C6
            generalize (w4.setCell ⟨b', 1 + q, none⟩ (.int .u8 t1)).drew = w5 at *
            go_wp2_with fail
            go_roundg g
            case measure => omega
            case rel => exact ⟨i + 1, b', c', by have := HG.out; omega, by go_num, by rw [ZS.out, List.length_set, HL3.out], by rw [ZS.out, D.out]; exact C7.out⟩
    · have hn0 := outL_len (wd s) i
      have H64 : Hid (i = 64) := by show _ = _; omega
      have h3 : ¬ (i : Int) < 64 := by omega
      have h4 : decide ((i : Int) < 64) = false := decide_eq_false h3
      clear hi hlt
      by_cases hb : 239 < (bsl (wd s) i).length
      · have E : Hid (cmpR s = (strOfNums [0] ++ s, 0)) := by show _ = _; rw [F.out]; rw [H64.out] at hb; unfold cmp; rw [if_pos hb]
        have hL : 256 < (outL (wd s) i).length := by omega
        have hL2 : (outL (wd s) i).length ≤ 17 + 256 := by have := bsl_len (wd s) i; have := H64.out; omega
        have HB := Lib.hid (bal hC.bel (Obj.cells #[.int .u8 0] 5))
        have k1 := conv1 wr 0
        have k2 : (strOfNums [0]).size = 1 := rfl
        clear hn0 hb hC
        generalize (outL (wd s) i).length = n at *
        clear F H64
        generalize strOfNums [0] = z at *
        have hs := Lib.hid h
        clear h
        go_upto_region 24 with fail
        clear h3 h4
        have h := hs.out
        go_wp2
        go_ret2
        rw [E.out]
        exact ⟨rfl, HB.out⟩
      · have E : Hid (cmpR s = (strOfNums (outL (wd s) i), 0)) := by show _ = _; rw [F.out]; rw [H64.out] at hb ⊢; unfold cmp; rw [if_neg hb]
        have hL : ¬ 256 < (outL (wd s) i).length := by omega
        have hcv := run_convert_bytes_arg (P := Try.prog) wr 31 5 Try.underlying31 Try.underlying5 b 0 (outL (wd s) i).length c (outL (wd s) i) rfl (fun j hj => by
          rw [Nat.zero_add, hC.own.cellAt j (by omega), List.getElem?_map, List.getD_eq_getElem?_getD, List.getElem?_eq_getElem hj]
          rfl) 9 Try.underlying9
        have HB := Lib.hid hC.bel
        clear hn0 hb hC
        clear F H64
        generalize outL (wd s) i = l at *
        generalize strOfNums l = z at *
        go_upto_region 24 with fail
        clear h3 h4
        go_wp2
        go_ret2
        rw [E.out]
        exact ⟨rfl, HB.out⟩
theorem cmp_any (s : ByteArray) (w : World) : Calls Try.prog 11 #[.string s] w (CmP w (cmpR s)) := by
  by_cases h : s.size = 256
  · exact cmp_ok s w h
  · exact cmp_bad s w h
end Go.Proofs.Ytpfaicdoaldioaa
