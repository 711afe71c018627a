/- GpeLevelStaysPending: the walk. -/
import Derived.Test.YtmhianhaljphiaaDoorGpt
namespace Go.Proofs.YtmhianhaljphiaaDoor
open Go.ChangeShapes Go.WideShapes Go.ChangeAt Go.RowKit Go.Deep Go.Joins

theorem bls_set (w : World) (n k : Nat) : Bls (w.alloc (.cells ((madeCells #[.bool false] n).setIfInBounds k (.bool true)) 4)) (some ⟨w.heap.size, 0, none⟩) n (fun i => decide (i = k)) := by
  rw [← World.setCell_alloc_at (w := w) (madeCells #[.bool false] n) 4 w.heap.size k (.bool true) rfl]
  have R := (World.rowIs_made w (.bool false) n 4).set k (.bool true)
  refine .inr ⟨w.heap.size, 0, rfl, by simp, fun i hi => ?_⟩
  rw [Nat.zero_add, R.cell hi]
  by_cases e : i = k
  · rw [if_pos e]; simp [e]
  · rw [if_neg e]; simp [e]
set_option maxHeartbeats 8000000 in
theorem lev_any (a b : Int) (act : Bool) (w : World) (_h1 : (Lit.int .i64 a).wf = true) (_h2 : (Lit.int .i64 b).wf = true) (hT : Tb w) : Calls Tryd.prog 6 #[.int .i64 a, .int .i64 b, .bool act] w (LawPost w) := by
  have HT := Lib.hid hT
  clear hT
  have hq := (modOf_spec a 64 (by omega) (by omega)).2
  have P := mod_any a 64 (by omega) (by omega) w
  have hw : IntKind.i64.wrap (1 + (modOf a 64 : Int)) = ((1 + modOf a 64 : Nat) : Int) := by
    rw [IntWalk.i64_in _ (by omega)]; simp
  generalize modOf a 64 = m at *
  obtain ⟨n, hn⟩ : ∃ n, n = 1 + m := ⟨_, rfl⟩
  rw [← hn] at hw
  have n1 : 1 ≤ n := by omega
  have n2 : n ≤ 64 := by omega
  have hw' := Lib.hid hw
  clear hn hw hq
  have hq2 := (modOf_spec b n n1 (by omega)).2
  have P2 := mod_any b n n1 (by omega) w
  have hmk := run_make_row' (P := Tryd.prog) 27 4 _ 1 Tryd.underlying27 info4 rfl .i64 .i64 n (by omega) (by omega)
  generalize modOf b n = k at *
  have R0 := World.rowIs_made w (.bool false) n 4
  have rc : (w.alloc (.cells (madeCells #[.bool false] n) 4)).cell? ⟨w.heap.size, k, none⟩ = some (.bool false) := R0.cell hq2
  have rz := R0.frozen k
  have hB := bls_set w n k
  have B1 : Hid (Below w.heap.size w (w.alloc (.cells ((madeCells #[.bool false] n).setIfInBounds k (.bool true)) 4))) := bal (Below.refl _ _) _
  have hB := Lib.hid hB
  clear R0
  have NM := nm_ok k (by omega)
  go_enter Tryd.func6, Tryd.ntmps6
  go_wp2_with fail
  refine P.mono ?_
  clear P
  rintro e w' ⟨rfl, rfl⟩
  have hw := hw'.out
  go_upto_region 2 with fail
  clear hw
  go_wp2_with fail
  refine P2.mono ?_
  clear P2
  rintro e w' ⟨rfl, rfl⟩
  go_upto_region 5 with fail
  have P := new_any _ n n _ _ hB.out n1 n2
  have hz : w.heap.size ≤ (w.alloc (.cells ((madeCells #[.bool false] n).setIfInBounds k (.bool true)) 4)).heap.size := by simp
  clear hmk hB rc rz
  generalize w.alloc (Obj.cells ((madeCells #[.bool false] n).setIfInBounds k (.bool true)) 4) = w1 at *
  go_wp2_with fail
  refine P.mono ?_
  clear P
  rintro r w2 ⟨rfl, hR, hb⟩
  have T1 := bt_new n k hq2 n2 (fun i => decide (i = k))
  rw [decide_eq_true rfl] at T1
  have S2 : Hid (GpR w2 w1.heap.size _ ∧ Below w.heap.size w w2) := ⟨hR, bel2 B1.out hb⟩
  have hz := Lib.hid hz
  clear hR hb B1
  generalize w1.heap.size = L at *
  generalize new0 n (lvl (fun i => decide (i = k)) n) = s1 at *
  have T1 := Lib.hid T1
  go_wp2_with fail
  refine (awake_any w2 (HT.out.below S2.out.2 (Nat.le_refl _))).mono ?_
  rintro r w3 ⟨rfl, hb⟩
  have S3 : Hid (GpR w3 L s1 ∧ Below w.heap.size w w3) := ⟨S2.out.1.of_block (hb.block L S2.out.1.lt), bel2 S2.out.2 hb⟩
  clear hb S2
  go_wp2_with fail
  refine (enable_any w3 L s1 k true S3.out.1 (by rw [T1.out.ct]; exact hq2) (by rw [T1.out.ct]; exact n2)).mono ?_
  rintro r w4 ⟨rfl, hp⟩
  have S4 := Lib.hid (stepG (a := w) hp S3.out.2 hz.out)
  have T2 := Lib.hid (T1.out.en' true)
  clear hp S3 T1
  generalize enS s1 k true = s2 at *
  go_wp2_with fail
  refine (set_any w4 L s2 k true S4.out.1 (by rw [T2.out.ct]; exact hq2) (by rw [T2.out.ct]; exact n2)).mono ?_
  rintro r w5 ⟨rfl, hp⟩
  have S5 := Lib.hid (stepG (a := w) hp S4.out.2 hz.out)
  have T3 : Hid (Bt _ n k true true true true false) := T2.out.set true
  clear hp S4 T2
  generalize setS s2 k true = s3 at *
  have P := beg_any w5 L s3 k S5.out.1 (by rw [T3.out.ct]; exact hq2) (by rw [T3.out.ct]; exact n2) T3.out.rdyk
  rw [T3.out.lv] at P
  go_wp2_with fail
  refine P.mono ?_
  clear P
  rintro r w6 ⟨rfl, hp⟩
  have S6 := Lib.hid (stepG (a := w) hp S5.out.2 hz.out)
  have T4 : Hid (Bt _ n k true true true true true) := T3.out.beg
  clear hp S5 T3
  generalize begS s3 k = s4 at *
  generalize pre true ++ nm k = S at *
  obtain ⟨m1, m2⟩ := NM
  have m3 : (2 : Nat) ≤ S.size := by omega
  have P := next_any w6 L s4 S6.out.1 (HT.out.below S6.out.2 (Nat.le_refl _))
  rw [T4.out.next] at P
  change Calls _ _ _ _ (RdP w6 (.tuple #[.int .i64 0, .bool false])) at P
  go_wp2_with fail
  refine P.mono ?_
  clear P
  rintro r w7 ⟨rfl, hp⟩
  have S7 := Lib.hid (stepR (a := w) hp S6.out.1 S6.out.2)
  clear hp S6 m1 m2 m3
  go_wp2_with fail
  refine (set_any w7 L s4 k act S7.out.1 (by rw [T4.out.ct]; exact hq2) (by rw [T4.out.ct]; exact n2)).mono ?_
  rintro r w8 ⟨rfl, hp⟩
  have S8 := Lib.hid (stepG (a := w) hp S7.out.2 hz.out)
  have T5 : Hid (Bt _ n k true act true true true) := T4.out.set act
  clear hp S7 T4
  generalize setS s4 k act = s5 at *
  go_wp2_with fail
  refine (cmp_any w8 L s5 k S8.out.1 (by rw [T5.out.ct]; exact hq2) (by rw [T5.out.ct]; exact n2) T5.out.hd).mono ?_
  rintro r w9 ⟨rfl, hp⟩
  have S9 := Lib.hid (stepG (a := w) hp S8.out.2 hz.out)
  have T6 : Hid (Bt _ n k true act act true false) := T5.out.cmp
  clear hp S8 T5
  generalize cmpS s5 k = s6 at *
  have P := status_any w9 L s6 k S9.out.1 (by rw [T6.out.ct]; exact hq2) (by rw [T6.out.ct]; exact n2)
  rw [T6.out.st] at P
  have ba : (act != act) = false := by cases act <;> rfl
  go_wp2_with fail
  refine P.mono ?_
  clear P
  rintro r w10 ⟨rfl, hp⟩
  have S10 := Lib.hid (stepR (a := w) hp S9.out.1 S9.out.2)
  clear hp S9
  have P := next_any w10 L s6 S10.out.1 (HT.out.below S10.out.2 (Nat.le_refl _))
  rw [T6.out.next] at P
  clear T6
  cases act
  · change Calls _ _ _ _ (RdP w10 (.tuple #[.int .i64 0, .bool false])) at P
    go_wp2_with fail
    refine P.mono ?_
    clear P
    rintro r w11 ⟨rfl, hp⟩
    have S11 := Lib.hid (stepR (a := w) hp S10.out.1 S10.out.2)
    clear hp S10
    go_wp2
    go_ret
    exact ⟨rfl, S11.out.2⟩
  · change Calls _ _ _ _ (RdP w10 (.tuple #[.int .i64 k, .bool true])) at P
    go_wp2_with fail
    refine P.mono ?_
    clear P
    rintro r w11 ⟨rfl, hp⟩
    have S11 := Lib.hid (stepR (a := w) hp S10.out.1 S10.out.2)
    clear hp S10
    have bk : ((k : Int) == (k : Int)) = true := by simp
    go_wp2
    go_ret
    exact ⟨rfl, S11.out.2⟩
end Go.Proofs.YtmhianhaljphiaaDoor
