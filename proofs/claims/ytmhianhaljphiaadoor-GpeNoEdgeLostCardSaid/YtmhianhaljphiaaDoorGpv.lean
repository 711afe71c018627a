/- GpeValidatesSize. -/
import Derived.Test.YtmhianhaljphiaaDoorGpa
namespace Go.Proofs.YtmhianhaljphiaaDoor
open Go.ChangeShapes Go.WideShapes Go.ChangeAt Go.RowKit Go.Deep Go.Joins

theorem mod_any (v : Int) (n : Nat) (hn : 1 ≤ n) (hn2 : n ≤ 1000000) (w : World) : Calls Tryd.prog 8 #[.int .i64 v, .int .i64 n] w fun e w' => e = .returned (.int .i64 (modOf v n : Nat)) ∧ w = w' := by
  have E := Lib.hid (modOf_spec v n hn hn2)
  go_enter Tryd.func8, Tryd.ntmps8
  go_wp2
  go_ret
  exact ⟨congrArg (fun x => Ending.returned (.int .i64 x)) E.out.1, rfl⟩
theorem info4 : (Tryd.prog.info? 4).map (fun i => (i.zero, i.size, i.bytes)) = some (some (.bool false), 1, 1) := by kernel_rfl
theorem bls_made (w : World) (n : Nat) : Bls (w.alloc (.cells (madeCells #[.bool false] n) 4)) (some ⟨w.heap.size, 0, none⟩) n (fun _ => false) := by
  have R := World.rowIs_made w (.bool false) n 4
  exact .inr ⟨w.heap.size, 0, rfl, by simp, fun i hi => by rw [Nat.zero_add]; exact R.cell hi⟩
set_option maxHeartbeats 4000000 in
theorem val_any (v : Int) (w : World) (_hv : (Lit.int .i64 v).wf = true) (hT : Tb w) : Calls Tryd.prog 3 #[.int .i64 v] w (LawPost w) := by
  have HT := Lib.hid hT
  clear hT
  have hq := (modOf_spec v 192 (by omega) (by omega)).2
  have hmk := run_make_row' (P := Tryd.prog) 27 4 _ 1 Tryd.underlying27 info4 rfl .i64 .i64 (modOf v 192) (by omega) (by omega)
  have P := mod_any v 192 (by omega) (by omega) w
  generalize modOf v 192 = m at *
  go_enter Tryd.func3, Tryd.ntmps3
  go_wp2_with fail
  refine P.mono ?_
  clear P
  rintro e w' ⟨rfl, rfl⟩
  go_wp2_with fail
  have b1 : Below w.heap.size w (w.alloc (.cells (madeCells #[.bool false] m) 4)) := bal (Below.refl _ _) _
  have k1 := bls_made w m
  have B1 := Lib.hid b1
  clear b1 hmk
  generalize w.alloc (Obj.cells (madeCells #[.bool false] m) 4) = w1 at *
  by_cases hm : 1 ≤ m ∧ m ≤ 64
  · obtain ⟨m1, m2⟩ := hm
    have P := new_any _ m m _ _ k1 m1 m2
    clear k1
    refine P.mono ?_
    clear P
    rintro e w2 ⟨rfl, hR, hb⟩
    have B2 := Lib.hid (bel2 B1.out hb)
    clear hR hb B1
    generalize w1.heap.size = L at *
    go_wp2_with fail
    refine (awake_any w2 (HT.out.below B2.out (Nat.le_refl _))).mono ?_
    rintro e w3 ⟨rfl, hb⟩
    have B3 := Lib.hid (bel2 B2.out hb)
    clear hb
    have d1 : decide (1 ≤ (m : Int)) = true := decide_eq_true (by omega)
    have d2 : decide ((m : Int) ≤ 64) = true := decide_eq_true (by omega)
    go_wp2
    go_ret
    exact ⟨rfl, B3.out⟩
  · have P := new_bad (some ⟨w.heap.size, 0, none⟩) m m w1 (by omega) (by omega)
    clear k1
    refine P.mono ?_
    clear P
    rintro e w2 ⟨rfl, rfl⟩
    go_wp2_with fail
    refine (awake_any w1 (HT.out.below B1.out (Nat.le_refl _))).mono ?_
    rintro e w3 ⟨rfl, hb⟩
    have B3 := Lib.hid (bel2 B1.out hb)
    clear hb
    by_cases h1 : 1 ≤ m
    · have d1 : decide (1 ≤ (m : Int)) = true := decide_eq_true (by omega)
      have d2 : decide ((m : Int) ≤ 64) = false := decide_eq_false (by omega)
      go_wp2
      go_ret
      exact ⟨rfl, B3.out⟩
    · have d1 : decide (1 ≤ (m : Int)) = false := decide_eq_false (by omega)
      go_wp2
      go_ret
      exact ⟨rfl, B3.out⟩
end Go.Proofs.YtmhianhaljphiaaDoor
