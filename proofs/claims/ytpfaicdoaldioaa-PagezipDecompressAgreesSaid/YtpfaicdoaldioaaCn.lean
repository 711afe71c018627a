/- PagezipCanonical. -/
import Derived.Test.YtpfaicdoaldioaaZt
namespace Go.Proofs.Ytpfaicdoaldioaa
open Go.ChangeShapes Go.WideShapes Go.ChangeAt Go.RowKit Go.Deep Go.Joins

theorem decR_cases (t : ByteArray) : decR t = ({ data := #[] }, 3) ∨ ∃ p, decR t = (p, 0) ∧ cmpR p = (t, 0) := by
  unfold decR
  split
  · exact .inl rfl
  · rename_i p _
    by_cases h : (cmpR p).2 = 0 ∧ (cmpR p).1 = t
    · refine .inr ⟨p, by rw [if_pos h], ?_⟩
      rw [← h.1, ← h.2]
    · exact .inl (by rw [if_neg h])
theorem conv1d (w : World) (x : Int) : (convert 31 9 (.slice (some ⟨w.heap.size, 0, none⟩) 1 1)).run Try.prog (w.alloc (.cells #[.int .u8 x] 5)).drew = .ok (.string (strOfNums [x])) (w.alloc (.cells #[.int .u8 x] 5)).drew :=
  run_convert_bytes_arg _ 31 5 Try.underlying31 Try.underlying5 w.heap.size 0 1 1 [x] rfl (fun i hi => by
    have hh := heap_alloc_new w (Obj.cells #[.int .u8 x] 5)
    show (w.alloc (.cells #[.int .u8 x] 5)).cell? _ = _
    obtain rfl : i = 0 := by omega
    unfold World.cell?; rw [hh]; rfl) 9 Try.underlying9
theorem idx0 (x y : Value) (W : World) : (Instr.index 34 (.agg #[x, y]) (.int .i64 0)).run Try.prog W = .ok x W := by kernel_rfl
theorem idx1 (x y : Value) (W : World) : (Instr.index 34 (.agg #[x, y]) (.int .i64 1)).run Try.prog W = .ok y W := by kernel_rfl
def mutd (x : ByteArray) (k : Nat) (c : Int) : ByteArray := x.extract 0 k ++ strOfNums [c] ++ x.extract (k + 1) x.size
set_option maxRecDepth 20000 in
set_option maxHeartbeats 4000000 in
theorem cn_any (t : ByteArray) (A : Option Addr) (n c : Nat) (Z : Nat → Int) (s v d : Int) (w : World) (ht : t.size ≤ 140737488351232) (h : Ns .u32 w A n Z ∧ n ≤ c ∧ c ≤ 9223372036854775807) (hw : (Lit.int .u8 s).wf = true) (_hv : (Lit.int .i64 v).wf = true) (_hd : (Lit.int .u8 d).wf = true) : Calls Try.prog 6 #[.string t, .slice A n c, .int .u8 s, .int .i64 v, .int .u8 d] w (LawPost w) := by
  have hs := u8_of_wf hw
  obtain ⟨hN, hc1, hc2⟩ := h
  clear _hv _hd
  by_cases hb0 : 600 < t.size
  · clear hN hw
    go_enter Try.func6, Try.ntmps6
    go_wp2_with fail
    refine (awake_any _).mono ?_
    rintro e w1 ⟨rfl, hb⟩
    have HB := Lib.hid hb
    clear hb
    go_wp2
    go_ret
    exact ⟨rfl, HB.out⟩
  by_cases hb : 64 < n
  · clear hN hw
    go_enter Try.func6, Try.ntmps6
    go_wp2_with fail
    refine (awake_any _).mono ?_
    rintro e w1 ⟨rfl, hb⟩
    have HB := Lib.hid hb
    clear hb
    go_wp2
    go_ret
    exact ⟨rfl, HB.out⟩
  · have P := page_any A n c Z s w hN (by omega) hs
    clear hN hw
    go_enter Try.func6, Try.ntmps6
    go_wp2_with fail
    refine P.mono ?_
    rintro e w1 ⟨p, hp, rfl, hb1⟩
    have B1 := Lib.hid hb1
    have C := fun w => cmp_any p w
    rw [cmpR_ok p hp] at C
    obtain ⟨z1, z2⟩ := cmp_size p hp
    clear hb1 P hb hb0
    generalize cmp p = x at *
    have M := fun w' => mod_any v x.size (by omega) (by omega) w'
    have hm := (modOf_spec v x.size (by omega) (by omega)).2
    generalize modOf v x.size = k at *
    go_wp2_with fail
    refine (C _).mono ?_
    rintro e w2 ⟨rfl, hb2⟩
    have B2 := Lib.hid (bel2 B1.out hb2)
    clear hb2 C B1
    unfold pairV
    have y0 : ((x.size : Int) == 0) = false := beq_eq_false_iff_ne.2 (by omega)
    go_wp2_with fail
    refine (M _).mono ?_
    rintro e w3 ⟨rfl, rfl⟩
    clear M
    have cv := conv1 w2 d
    have cv2 := conv1d w2 d
    have s0 : (strOfNums [d]).size = 1 := rfl
    have hy : (mutd x k d).size ≤ 257 := by unfold mutd; rw [ByteArray.size_append, ByteArray.size_append, ByteArray.size_extract, ByteArray.size_extract, s0]; omega
    have ey : x.extract 0 k ++ strOfNums [d] ++ x.extract (k + 1) x.size = mutd x k d := rfl
    have s1 : (x.extract 0 k).size = k := by rw [ByteArray.size_extract]; omega
    have s2 : (x.extract (k + 1) x.size).size = x.size - (k + 1) := by rw [ByteArray.size_extract]; omega
    have s3 : (x.extract 0 k ++ strOfNums [d]).size = k + 1 := by rw [ByteArray.size_append, s0, s1]
    generalize mutd x k d = y at *
    generalize strOfNums [d] = dd at *
    have HB := Lib.hid (bal B2.out (.cells #[.int .u8 d] 5)).drew
    go_upto_region 7 with fail
    have j1 : (k : Int) ≤ (x.size : Int) := by omega
    have j2 : (k : Int) + 1 ≤ (x.size : Int) := by omega
    have j3 : ((k : Int) + 1).toNat = k + 1 := by omega
    have j4 : IntKind.i64.wrap ((k : Int) + 1) = (k : Int) + 1 := IntWalk.i64_in _ (by omega)
    have j5 : (0 : Int) ≤ (k : Int) + 1 := by omega
    go_region
    clear j1 j2 j3 j4 j5 cv cv2 B2
    generalize (w2.alloc (Obj.cells #[.int .u8 d] 5)).drew = w4 at *
    go_wp2_with fail
    go_loopg [61] 2 (fun g vi wr => ∃ i : Nat, i + g = 2 ∧ vi = .int .i64 i ∧ Below w.heap.size w wr)
    case atStart => exact ⟨0, rfl, rfl, HB.out⟩
    case round =>
      obtain ⟨i, hi, rfl, hR⟩ := hrel
      have HR := Lib.hid hR
      clear hR HB
      rcases (show i = 0 ∨ i = 1 ∨ i = 2 by omega) with rfl | rfl | rfl
      · obtain ⟨g, rfl⟩ : ∃ g, gk = g + 1 := ⟨gk - 1, by omega⟩
        have ix := idx0 (.string t) (.string y)
        have D := dec_any t wr (by omega)
        rcases decR_cases t with hd | ⟨r, hd, hr⟩
        · rw [hd] at D
          clear hd
          go_wp2_with fail
          refine D.mono ?_
          rintro e wa ⟨rfl, hb⟩
          have HB := Lib.hid (bel2 HR.out hb)
          clear hb D HR
          unfold pairV
          have t1 := str_t (rfl : ({ data := #[] } : ByteArray) = { data := #[] })
          go_wp2_with fail
          go_roundg g
          case measure => omega
          case rel => exact ⟨1, by omega, rfl, HB.out⟩
        · rw [hd] at D
          have C := fun w => cmp_any r w
          rw [hr] at C
          clear hd hr
          go_wp2_with fail
          refine D.mono ?_
          rintro e wa ⟨rfl, hb⟩
          have HB := Lib.hid (bel2 HR.out hb)
          clear hb D HR
          unfold pairV
          go_wp2_with fail
          refine (C _).mono ?_
          rintro e wb ⟨rfl, hb⟩
          have HB2 := Lib.hid (bel2 HB.out hb)
          clear hb C HB
          unfold pairV
          have t1 := str_t (rfl : t = t)
          go_wp2_with fail
          go_roundg g
          case measure => omega
          case rel => exact ⟨1, by omega, rfl, HB2.out⟩
      · obtain ⟨g, rfl⟩ : ∃ g, gk = g + 1 := ⟨gk - 1, by omega⟩
        have ix := idx1 (.string t) (.string y)
        have D := dec_any y wr (by omega)
        rcases decR_cases y with hd | ⟨r, hd, hr⟩
        · rw [hd] at D
          clear hd
          go_wp2_with fail
          refine D.mono ?_
          rintro e wa ⟨rfl, hb⟩
          have HB := Lib.hid (bel2 HR.out hb)
          clear hb D HR
          unfold pairV
          have t1 := str_t (rfl : ({ data := #[] } : ByteArray) = { data := #[] })
          go_wp2_with fail
          go_roundg g
          case measure => omega
          case rel => exact ⟨2, by omega, rfl, HB.out⟩
        · rw [hd] at D
          have C := fun w => cmp_any r w
          rw [hr] at C
          clear hd hr
          go_wp2_with fail
          refine D.mono ?_
          rintro e wa ⟨rfl, hb⟩
          have HB := Lib.hid (bel2 HR.out hb)
          clear hb D HR
          unfold pairV
          go_wp2_with fail
          refine (C _).mono ?_
          rintro e wb ⟨rfl, hb⟩
          have HB2 := Lib.hid (bel2 HB.out hb)
          clear hb C HB
          unfold pairV
          have t1 := str_t (rfl : y = y)
          go_wp2_with fail
          go_roundg g
          case measure => omega
          case rel => exact ⟨2, by omega, rfl, HB2.out⟩
      · go_wp2_with fail
        refine (awake_any _).mono ?_
        rintro e wz ⟨rfl, hb⟩
        have HB := Lib.hid (bel2 HR.out hb)
        clear hb HR
        go_wp2
        go_ret
        exact ⟨rfl, HB.out⟩
end Go.Proofs.Ytpfaicdoaldioaa
