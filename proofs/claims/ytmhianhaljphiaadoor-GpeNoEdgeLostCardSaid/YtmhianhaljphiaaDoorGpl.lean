/- GpeWake: the walk. -/
import Derived.Test.YtmhianhaljphiaaDoorGpk
namespace Go.Proofs.YtmhianhaljphiaaDoor
open Go.ChangeShapes Go.WideShapes Go.ChangeAt Go.RowKit Go.Deep Go.Joins

set_option maxHeartbeats 8000000 in
theorem wak_bv (t k e : BitVec 64) (w : World) (hT : Tb w) : Calls Tryd.prog 7 #[.int .u64 (u t), .int .u64 (u k), .int .u64 (u e)] w (LawPost w) := by
  have HT := Lib.hid hT
  clear hT
  have hmk : (Instr.makeSlice 27 (.int .i64 64) (.int .i64 64)).run Tryd.prog w = .ok (.slice (some ⟨w.heap.size, 0, none⟩) 64 64) (w.alloc (.cells (madeCells #[.bool false] 64) 4)) := run_make_row' (P := Tryd.prog) 27 4 _ 1 Tryd.underlying27 info4 rfl .i64 .i64 64 (by omega) (by omega) w
  have ete := and_u t e
  have etk := and_u t k
  have b1 := u_ne0 (t &&& e)
  have b2 := u_ne0 (t &&& k)
  go_enter Tryd.func7, Tryd.ntmps7
  go_wp2_with fail
  have q1 : Below w.heap.size w (w.alloc (.cells (madeCells #[.bool false] 64) 4)) := bal (Below.refl _ _) _
  have k1 := bls_made w 64
  have hz : w.heap.size ≤ (w.alloc (.cells (madeCells #[.bool false] 64) 4)).heap.size := by simp
  have B1 := Lib.hid q1
  clear q1 hmk
  generalize w.alloc (Obj.cells (madeCells #[.bool false] 64) 4) = w1 at *
  have P := new_any _ 64 64 _ _ k1 (by omega) (by omega)
  clear k1
  refine P.mono ?_
  clear P
  rintro r w2 ⟨rfl, hR, hb⟩
  have S2 : Hid (GpR w2 w1.heap.size (new0 64 (lvl (fun _ => false) 64)) ∧ Below w.heap.size w w2) := ⟨hR, bel2 B1.out hb⟩
  have hz := Lib.hid hz
  clear hR hb B1
  generalize w1.heap.size = L at *
  go_wp2_with fail
  refine (awake_any w2 (HT.out.below S2.out.2 (Nat.le_refl _))).mono ?_
  rintro r w3 ⟨rfl, hb⟩
  have S3 : Hid (GpR w3 L (new0 64 (lvl (fun _ => false) 64)) ∧ Below w.heap.size w w3) := ⟨S2.out.1.of_block (hb.block L S2.out.1.lt), bel2 S2.out.2 hb⟩
  clear hb S2
  go_wp2_with fail
  go_loopg [9] 64 (fun g vi wr => ∃ (j : Nat) (s : GpS), j + g = 64 ∧ vi = .int .i64 j ∧ WkI s t k e j ∧ GpR wr L s ∧ Below w.heap.size w wr)
  case atStart => exact ⟨0, _, by omega, rfl, wk0 t k e, S3.out.1, S3.out.2⟩
  case round =>
    clear S3
    obtain ⟨j, s, hj, rfl, hI, hR, hB⟩ := hrel
    have hct := hI.ct
    by_cases hlt : j < 64
    · obtain ⟨g, rfl⟩ : ∃ g, gk = g + 1 := ⟨gk - 1, by omega⟩
      have N := Lib.hid (hI.step hlt)
      have R := Lib.hid hR
      have B := Lib.hid hB
      have e1 := shr_u e j
      have e2 := and1_u (e >>> j)
      have e3 := bit1_u e j
      have f1 := shr_u k j
      have f2 := and1_u (k >>> j)
      have f3 := bit1_u k j
      have g1 := shr_u t j
      have g2 := and1_u (t >>> j)
      have g3 := bit1_u t j
      clear hI hR hB
      generalize e.getLsbD j = be at *
      generalize k.getLsbD j = bk at *
      generalize t.getLsbD j = bt at *
      go_wp2_with fail
      refine (enable_any wr L s j be R.out (by omega) (by omega)).mono ?_
      rintro r w4 ⟨rfl, hp⟩
      have S4 := Lib.hid (stepG (a := w) hp B.out hz.out)
      clear hp R B
      go_wp2_with fail
      refine (wake_any w4 L (enS s j be) j bk S4.out.1 (by show j < s.ct; omega) (by show s.ct ≤ 64; omega)).mono ?_
      rintro r w5 ⟨rfl, hp⟩
      have S5 := Lib.hid (stepG (a := w) hp S4.out.2 hz.out)
      clear hp S4
      go_wp2_with fail
      refine (set_any w5 L (wkS (enS s j be) j bk) j bt S5.out.1 (by show j < s.ct; omega) (by show s.ct ≤ 64; omega)).mono ?_
      rintro r w6 ⟨rfl, hp⟩
      have S6 := Lib.hid (stepG (a := w) hp S5.out.2 hz.out)
      clear hp S5 e1 e2 e3 f1 f2 f3 g1 g2 g3
      go_wp2
      go_roundg g
      case measure => omega
      case rel => exact ⟨j + 1, _, by omega, by go_num, N.out, S6.out.1, S6.out.2⟩
    · have : j = 64 := by omega
      subst this
      obtain ⟨hr, hw⟩ := hI.rdy
      have S := Lib.hid (And.intro hR hB)
      clear hR hB hI
      have P := next_any wr L s S.out.1 (HT.out.below S.out.2 (Nat.le_refl _))
      by_cases hz0 : t &&& e = 0#64
      · have hn : nxV s = .tuple #[.int .i64 0, .bool false] := by unfold nxV; rw [hr, if_pos hz0]
        rw [hn] at P
        have b3 : (t &&& e != 0#64) = false := by rw [hz0]; rfl
        rw [b3] at b1
        clear hn hz0 b3
        go_wp2_with fail
        refine P.mono ?_
        clear P
        rintro r w4 ⟨rfl, hp⟩
        have S4 := Lib.hid (stepR (a := w) hp S.out.1 S.out.2)
        clear hp S
        have P := wakep_any w4 L s S4.out.1
        rw [hw] at P
        clear hw hr
        generalize (t &&& k != 0#64) = b4 at *
        go_wp2_with fail
        refine P.mono ?_
        clear P
        rintro r w5 ⟨rfl, hp⟩
        have S5 := Lib.hid (stepR (a := w) hp S4.out.1 S4.out.2)
        clear hp S4
        have b5 : (b4 == b4) = true := by cases b4 <;> rfl
        go_wp2
        go_ret
        exact ⟨rfl, S5.out.2⟩
      · have hn : nxV s = .tuple #[.int .i64 (Lib.ctz 64 (t &&& e).toNat), .bool true] := by unfold nxV; rw [hr, if_neg hz0]
        rw [hn] at P
        have b3 : (t &&& e != 0#64) = true := bne_iff_ne.2 hz0
        rw [b3] at b1
        obtain ⟨c1, c2, _⟩ := ctz_get _ hz0
        have l1 := low_u _ hz0
        have l2 := bit1_u (t &&& e) (Lib.ctz 64 (t &&& e).toNat)
        rw [c2] at l2
        have l3 := shr_u (t &&& e) (Lib.ctz 64 (t &&& e).toNat)
        have l4 := and1_u ((t &&& e) >>> (Lib.ctz 64 (t &&& e).toNat))
        have l5 := sub1_u _ c1
        have l6 := and_u (t &&& e) (bitB (Lib.ctz 64 (t &&& e).toNat) - 1#64)
        have l7 : IntKind.u64.wrap (2 ^ Lib.ctz 64 (t &&& e).toNat) = u (bitB (Lib.ctz 64 (t &&& e).toNat)) := by have := bitB_shl _ c1; rwa [Int.one_mul] at this
        rw [l1] at l6
        clear hn hz0 b3 c2 l1
        generalize Lib.ctz 64 (t &&& e).toNat = c at *
        generalize t &&& e = R at *
        go_wp2_with fail
        refine P.mono ?_
        clear P
        rintro r w4 ⟨rfl, hp⟩
        have S4 := Lib.hid (stepR (a := w) hp S.out.1 S.out.2)
        clear hp S
        have P := wakep_any w4 L s S4.out.1
        rw [hw] at P
        clear hw hr
        generalize (t &&& k != 0#64) = b4 at *
        go_wp2_with fail
        refine P.mono ?_
        clear P
        rintro r w5 ⟨rfl, hp⟩
        have S5 := Lib.hid (stepR (a := w) hp S4.out.1 S4.out.2)
        clear hp S4
        have b5 : (b4 == b4) = true := by cases b4 <;> rfl
        go_wp2
        go_ret
        exact ⟨rfl, S5.out.2⟩
theorem wak_any (t k e : Int) (w : World) (ht : (Lit.int .u64 t).wf = true) (hk : (Lit.int .u64 k).wf = true) (he : (Lit.int .u64 e).wf = true) (hT : Tb w) : Calls Tryd.prog 7 #[.int .u64 t, .int .u64 k, .int .u64 e] w (LawPost w) := by
  have h := wak_bv (BitVec.ofInt 64 t) (BitVec.ofInt 64 k) (BitVec.ofInt 64 e) w hT
  rw [u_of_U64 (u64_of_wf ht), u_of_U64 (u64_of_wf hk), u_of_U64 (u64_of_wf he)] at h
  exact h
end Go.Proofs.YtmhianhaljphiaaDoor
