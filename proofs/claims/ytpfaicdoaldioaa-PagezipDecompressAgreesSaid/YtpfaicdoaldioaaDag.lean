/- PagezipDecompressAgrees, from a contract of unpack. -/
import Derived.Test.YtpfaicdoaldioaaRdc
namespace Go.Proofs.Ytpfaicdoaldioaa
open Go.ChangeShapes Go.WideShapes Go.ChangeAt Go.RowKit Go.Deep Go.Joins

theorem ix5_0 (x0 x1 x2 x3 x4 : Value) (W : World) : (Instr.index 32 (.agg #[x0, x1, x2, x3, x4]) (.int .i64 0)).run Try.prog W = .ok x0 W := by kernel_rfl
theorem ix5_1 (x0 x1 x2 x3 x4 : Value) (W : World) : (Instr.index 32 (.agg #[x0, x1, x2, x3, x4]) (.int .i64 1)).run Try.prog W = .ok x1 W := by kernel_rfl
theorem ix5_2 (x0 x1 x2 x3 x4 : Value) (W : World) : (Instr.index 32 (.agg #[x0, x1, x2, x3, x4]) (.int .i64 2)).run Try.prog W = .ok x2 W := by kernel_rfl
theorem ix5_3 (x0 x1 x2 x3 x4 : Value) (W : World) : (Instr.index 32 (.agg #[x0, x1, x2, x3, x4]) (.int .i64 3)).run Try.prog W = .ok x3 W := by kernel_rfl
theorem ix5_4 (x0 x1 x2 x3 x4 : Value) (W : World) : (Instr.index 32 (.agg #[x0, x1, x2, x3, x4]) (.int .i64 4)).run Try.prog W = .ok x4 W := by kernel_rfl
set_option maxRecDepth 20000 in
set_option maxHeartbeats 4000000 in
theorem dag_of (U : ∀ (s : ByteArray) (w : World), s.size ≤ 281474976710656 → Calls Try.prog 20 #[.string s] w (ExP w (unR s))) (t : ByteArray) (A : Option Addr) (n c : Nat) (Z : Nat → Int) (s v d : Int) (w : World) (ht : t.size ≤ 140737488351232) (h : Ns .u32 w A n Z ∧ n ≤ c ∧ c ≤ 9223372036854775807) (hw : (Lit.int .u8 s).wf = true) (_hv : (Lit.int .i64 v).wf = true) (_hd : (Lit.int .u8 d).wf = true) : Calls Try.prog 5 #[.string t, .slice A n c, .int .u8 s, .int .i64 v, .int .u8 d] w (LawPost w) := by
  have hs := u8_of_wf hw
  obtain ⟨hN, hc1, hc2⟩ := h
  clear _hv _hd
  by_cases hb0 : 600 < t.size
  · clear hN hw
    go_enter Try.func5, Try.ntmps5
    go_wp2_with fail
    refine (awake_any _).mono ?_
    rintro e w1 ⟨rfl, hb⟩
    have HB := Lib.hid hb
    clear hb
    go_wp2
    go_ret
    exact ⟨rfl, HB.out⟩
  by_cases hb : 64 < n
  · clear hN hw
    go_enter Try.func5, Try.ntmps5
    go_wp2_with fail
    refine (awake_any _).mono ?_
    rintro e w1 ⟨rfl, hb⟩
    have HB := Lib.hid hb
    clear hb
    go_wp2
    go_ret
    exact ⟨rfl, HB.out⟩
  · have P := page_any A n c Z s w hN (by omega) hs
    clear hN hw
    go_enter Try.func5, Try.ntmps5
    go_wp2_with fail
    refine P.mono ?_
    rintro e w1 ⟨p, hp, rfl, hb1⟩
    have B1 := Lib.hid hb1
    have C := fun w => rcmp_any p w
    rw [cmpR_ok p hp] at C
    obtain ⟨z1, z2⟩ := cmp_size p hp
    clear hb1 P hb hb0
    generalize cmp p = x at *
    have M := fun w' => mod_any v x.size (by omega) (by omega) w'
    have hm := (modOf_spec v x.size (by omega) (by omega)).2
    generalize modOf v x.size = k at *
    go_wp2_with fail
    refine (C _).mono ?_
    rintro e w2 ⟨rfl, hb2⟩
    have B2 := Lib.hid (bel2 B1.out hb2)
    clear hb2 C B1
    unfold pairV
    go_wp2_with fail
    refine (M _).mono ?_
    rintro e w3 ⟨rfl, rfl⟩
    clear M
    have cv := conv1 w2 d
    have s0 : (strOfNums [d]).size = 1 := rfl
    have s1 : (x.extract 0 k).size = k := by rw [ByteArray.size_extract]; omega
    have s2 : (x.extract (k + 1) x.size).size = x.size - (k + 1) := by rw [ByteArray.size_extract]; omega
    have s2' : (x.extract k x.size).size = x.size - k := by rw [ByteArray.size_extract]; omega
    have s3 : (x.extract 0 k ++ strOfNums [d]).size = k + 1 := by rw [ByteArray.size_append, s0, s1]
    obtain ⟨y1, e1⟩ : ∃ y1, x.extract 0 k ++ strOfNums [d] ++ x.extract (k + 1) x.size = y1 := ⟨_, rfl⟩
    obtain ⟨y2, e2⟩ : ∃ y2, x.extract 0 k ++ strOfNums [d] ++ x.extract k x.size = y2 := ⟨_, rfl⟩
    obtain ⟨y3, e3⟩ : ∃ y3, x.extract 0 k ++ x.extract (k + 1) x.size = y3 := ⟨_, rfl⟩
    have z3 : y1.size ≤ 1000 := by rw [← e1, ByteArray.size_append, s3, s2]; omega
    have z4 : y2.size ≤ 1000 := by rw [← e2, ByteArray.size_append, s3, s2']; omega
    have z5 : y3.size ≤ 1000 := by rw [← e3, ByteArray.size_append, s1, s2]; omega
    generalize strOfNums [d] = dd at *
    have HB := Lib.hid (bal B2.out (.cells #[.int .u8 d] 5))
    go_upto_region 6 with fail
    have j1 : (k : Int) ≤ (x.size : Int) := by omega
    have j2 : (k : Int) + 1 ≤ (x.size : Int) := by omega
    have j3 : ((k : Int) + 1).toNat = k + 1 := by omega
    have j4 : IntKind.i64.wrap ((k : Int) + 1) = (k : Int) + 1 := IntWalk.i64_in _ (by omega)
    have j5 : (0 : Int) ≤ (k : Int) + 1 := by omega
    go_quiet (fail)
    clear j1 j2 j3 j4 j5 cv B2
    have HB := Lib.hid (show Below w.heap.size w ((w2.alloc (.cells #[.int .u8 d] 5)).drewN nq) from ⟨HB.out.os, HB.out.tape, HB.out.output, HB.out.size, HB.out.block⟩)
    generalize (w2.alloc (Obj.cells #[.int .u8 d] 5)).drewN nq = w4 at *
    go_wp2_with fail
    go_loopg [74] 5 (fun g vi wr => ∃ i : Nat, i + g = 5 ∧ vi = .int .i64 i ∧ Below w.heap.size w wr)
    case atStart => exact ⟨0, rfl, rfl, HB.out⟩
    case round =>
      obtain ⟨i, hi, rfl, hR⟩ := hrel
      have HR := Lib.hid hR
      clear hR HB
      rcases (show i = 0 ∨ i = 1 ∨ i = 2 ∨ i = 3 ∨ i = 4 ∨ i = 5 by omega) with rfl | rfl | rfl | rfl | rfl | rfl
      · obtain ⟨g, rfl⟩ : ∃ g, gk = g + 1 := ⟨gk - 1, by omega⟩
        have ix := ix5_0 (.string t) (.string x) (.string y1) (.string y2) (.string y3)
        have D := dec_any t wr (by omega)
        have R := fun w => rdc_of t w (by omega) (fun w => U t w (by omega))
        rw [rdcR_eq] at R
        obtain ⟨a, b, hab⟩ : ∃ a b, decR t = (a, b) := ⟨(decR t).1, (decR t).2, rfl⟩
        rw [hab] at D R
        have t1 := str_t (rfl : a = a)
        have t2 : (b == b) = true := beq_self_eq_true b
        clear hab
        go_wp2_with fail
        refine D.mono ?_
        rintro e wa ⟨rfl, hb⟩
        have HB := Lib.hid (bel2 HR.out hb)
        clear hb D HR
        unfold pairV
        go_wp2_with fail
        refine (R _).mono ?_
        rintro e wb ⟨rfl, hb⟩
        have HB2 := Lib.hid (bel2 HB.out hb)
        clear hb R HB
        unfold pairV
        go_wp2_with fail
        go_roundg g
        case measure => omega
        case rel => exact ⟨1, by omega, rfl, HB2.out⟩
      · obtain ⟨g, rfl⟩ : ∃ g, gk = g + 1 := ⟨gk - 1, by omega⟩
        have ix := ix5_1 (.string t) (.string x) (.string y1) (.string y2) (.string y3)
        have D := dec_any x wr (by omega)
        have R := fun w => rdc_of x w (by omega) (fun w => U x w (by omega))
        rw [rdcR_eq] at R
        obtain ⟨a, b, hab⟩ : ∃ a b, decR x = (a, b) := ⟨(decR x).1, (decR x).2, rfl⟩
        rw [hab] at D R
        have t1 := str_t (rfl : a = a)
        have t2 : (b == b) = true := beq_self_eq_true b
        clear hab
        go_wp2_with fail
        refine D.mono ?_
        rintro e wa ⟨rfl, hb⟩
        have HB := Lib.hid (bel2 HR.out hb)
        clear hb D HR
        unfold pairV
        go_wp2_with fail
        refine (R _).mono ?_
        rintro e wb ⟨rfl, hb⟩
        have HB2 := Lib.hid (bel2 HB.out hb)
        clear hb R HB
        unfold pairV
        go_wp2_with fail
        go_roundg g
        case measure => omega
        case rel => exact ⟨2, by omega, rfl, HB2.out⟩
      · obtain ⟨g, rfl⟩ : ∃ g, gk = g + 1 := ⟨gk - 1, by omega⟩
        have ix := ix5_2 (.string t) (.string x) (.string y1) (.string y2) (.string y3)
        have D := dec_any y1 wr (by omega)
        have R := fun w => rdc_of y1 w (by omega) (fun w => U y1 w (by omega))
        rw [rdcR_eq] at R
        obtain ⟨a, b, hab⟩ : ∃ a b, decR y1 = (a, b) := ⟨(decR y1).1, (decR y1).2, rfl⟩
        rw [hab] at D R
        have t1 := str_t (rfl : a = a)
        have t2 : (b == b) = true := beq_self_eq_true b
        clear hab
        go_wp2_with fail
        refine D.mono ?_
        rintro e wa ⟨rfl, hb⟩
        have HB := Lib.hid (bel2 HR.out hb)
        clear hb D HR
        unfold pairV
        go_wp2_with fail
        refine (R _).mono ?_
        rintro e wb ⟨rfl, hb⟩
        have HB2 := Lib.hid (bel2 HB.out hb)
        clear hb R HB
        unfold pairV
        go_wp2_with fail
        go_roundg g
        case measure => omega
        case rel => exact ⟨3, by omega, rfl, HB2.out⟩
      · obtain ⟨g, rfl⟩ : ∃ g, gk = g + 1 := ⟨gk - 1, by omega⟩
        have ix := ix5_3 (.string t) (.string x) (.string y1) (.string y2) (.string y3)
        have D := dec_any y2 wr (by omega)
        have R := fun w => rdc_of y2 w (by omega) (fun w => U y2 w (by omega))
        rw [rdcR_eq] at R
        obtain ⟨a, b, hab⟩ : ∃ a b, decR y2 = (a, b) := ⟨(decR y2).1, (decR y2).2, rfl⟩
        rw [hab] at D R
        have t1 := str_t (rfl : a = a)
        have t2 : (b == b) = true := beq_self_eq_true b
        clear hab
        go_wp2_with fail
        refine D.mono ?_
        rintro e wa ⟨rfl, hb⟩
        have HB := Lib.hid (bel2 HR.out hb)
        clear hb D HR
        unfold pairV
        go_wp2_with fail
        refine (R _).mono ?_
        rintro e wb ⟨rfl, hb⟩
        have HB2 := Lib.hid (bel2 HB.out hb)
        clear hb R HB
        unfold pairV
        go_wp2_with fail
        go_roundg g
        case measure => omega
        case rel => exact ⟨4, by omega, rfl, HB2.out⟩
      · obtain ⟨g, rfl⟩ : ∃ g, gk = g + 1 := ⟨gk - 1, by omega⟩
        have ix := ix5_4 (.string t) (.string x) (.string y1) (.string y2) (.string y3)
        have D := dec_any y3 wr (by omega)
        have R := fun w => rdc_of y3 w (by omega) (fun w => U y3 w (by omega))
        rw [rdcR_eq] at R
        obtain ⟨a, b, hab⟩ : ∃ a b, decR y3 = (a, b) := ⟨(decR y3).1, (decR y3).2, rfl⟩
        rw [hab] at D R
        have t1 := str_t (rfl : a = a)
        have t2 : (b == b) = true := beq_self_eq_true b
        clear hab
        go_wp2_with fail
        refine D.mono ?_
        rintro e wa ⟨rfl, hb⟩
        have HB := Lib.hid (bel2 HR.out hb)
        clear hb D HR
        unfold pairV
        go_wp2_with fail
        refine (R _).mono ?_
        rintro e wb ⟨rfl, hb⟩
        have HB2 := Lib.hid (bel2 HB.out hb)
        clear hb R HB
        unfold pairV
        go_wp2_with fail
        go_roundg g
        case measure => omega
        case rel => exact ⟨5, by omega, rfl, HB2.out⟩
      · go_wp2_with fail
        refine (awake_any _).mono ?_
        rintro e wz ⟨rfl, hb⟩
        have HB := Lib.hid (bel2 HR.out hb)
        clear hb HR
        go_wp2
        go_ret
        exact ⟨rfl, HB.out⟩
end Go.Proofs.Ytpfaicdoaldioaa
