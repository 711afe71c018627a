/- GpeNoEdgeLost: the walk. -/
import Derived.Test.YtmhianhaljphiaaDoorGpo
import Derived.Deep.CutBlock
namespace Go.Proofs.YtmhianhaljphiaaDoor
open Go.ChangeShapes Go.WideShapes Go.ChangeAt Go.RowKit Go.Deep Go.Joins

theorem bls_three (w : World) : Bls (w.alloc (.cells #[.bool false, .bool true, .bool false] 4)) (some ⟨w.heap.size, 0, none⟩) 3 (fun i => decide (i = 1)) :=
  .inr ⟨w.heap.size, 0, rfl, by simp, fun i hi => by
    have hh := heap_alloc_new w (Obj.cells #[.bool false, .bool true, .bool false] 4)
    rcases (show i = 0 ∨ i = 1 ∨ i = 2 by omega) with rfl | rfl | rfl <;> (unfold World.cell?; rw [hh]; rfl)⟩
structure NeI (w wr : World) (L : Nat) (l p h : Bool) (s : GpS) : Prop where
  bt : Bt s 3 0 false l p true h
  r : GpR wr L s
  b : Below w.heap.size w wr
set_option maxRecDepth 100000 in
set_option maxHeartbeats 8000000 in
theorem nel_any (A : Option Addr) (n c : Nat) (f : Nat → OpS) (w : World) (hO : Ops w A n f) (hT : Tb w) : Calls Tryd.prog 5 #[.slice A n c] w (LawPost w) := by
  have HT := Lib.hid hT
  have hn := hO.len
  have HO := Lib.hid hO
  clear hT hO
  go_enter Tryd.func5, Tryd.ntmps5
  go_wp2_with fail
  have q1 : Below w.heap.size w (w.alloc (.cells #[.bool false, .bool true, .bool false] 4)) := bal (Below.refl _ _) _
  have k1 := bls_three w
  have hz : w.heap.size ≤ (w.alloc (.cells #[.bool false, .bool true, .bool false] 4)).heap.size := by simp
  have B1 := Lib.hid q1
  clear q1
  generalize w.alloc (Obj.cells #[.bool false, .bool true, .bool false] 4) = w1 at *
  have P := new_any _ 3 3 _ _ k1 (by omega) (by omega)
  clear k1
  refine P.mono ?_
  clear P
  rintro r w2 ⟨rfl, hR, hb⟩
  have T1 := bt_new 3 0 (by omega) (by omega) (fun i => decide (i = 1))
  rw [show decide (0 = 1) = false from rfl] at T1
  have S2 : Hid (GpR w2 w1.heap.size _ ∧ Below w.heap.size w w2) := ⟨hR, bel2 B1.out hb⟩
  have hz := Lib.hid hz
  clear hR hb B1
  generalize w1.heap.size = L at *
  generalize new0 3 (lvl (fun i => decide (i = 1)) 3) = s1 at *
  have T1 := Lib.hid T1
  go_wp2_with fail
  refine (awake_any w2 (HT.out.below S2.out.2 (Nat.le_refl _))).mono ?_
  rintro r w3 ⟨rfl, hb⟩
  have S3 : Hid (GpR w3 L s1 ∧ Below w.heap.size w w3) := ⟨S2.out.1.of_block (hb.block L S2.out.1.lt), bel2 S2.out.2 hb⟩
  clear hb S2
  go_wp2_with fail
  refine (enable_any w3 L s1 0 true S3.out.1 (by rw [T1.out.ct]; omega) (by rw [T1.out.ct]; omega)).mono ?_
  rintro r w4 ⟨rfl, hp⟩
  have S4 := stepG (a := w) hp S3.out.2 hz.out
  have I0 : Hid (NeI w w4 L false false false (enS s1 0 true)) := ⟨T1.out.en' true, S4.1, S4.2⟩
  clear hp S3 T1 S4
  go_wp2_with fail
  go_loopg [8, 5, 6, 7] 90 (fun g vi vl vp vh wr => ∃ (i : Nat) (l p h : Bool) (s : GpS), i + g = 90 ∧ i ≤ n ∧ vi = .int .i64 i ∧ vl = .bool l ∧ vp = .bool p ∧ vh = .bool h ∧ NeI w wr L l p h s)
  case atStart => exact ⟨0, false, false, false, _, by omega, by omega, rfl, rfl, rfl, rfl, I0.out⟩
  case round =>
    clear I0
    obtain ⟨i, l, p, h, s, hg, hin, rfl, rfl, rfl, rfl, hI⟩ := hrel
    have I := Lib.hid hI
    clear hI
    by_cases hlt : i < n ∧ i < 90
    · obtain ⟨hl1, hl2⟩ := hlt
      obtain ⟨g, rfl⟩ : ∃ g, gk = g + 1 := ⟨gk - 1, by omega⟩
      have d1 : decide ((i : Int) < n) = true := decide_eq_true (by omega)
      have d2 : decide ((i : Int) < 90) = true := decide_eq_true (by omega)
      have HW := HO.out.below I.out.b (Nat.le_refl _)
      rcases HW.row with h0 | ⟨b, off, rfl, hb, hc⟩
      · omega
      obtain ⟨c0, c1, c2⟩ := hc i hl1
      clear HW hc
      generalize f i = o at *
      obtain ⟨ok, oe, oo⟩ := o
      simp only at c0 c1 c2
      have P := mod_any ok 6 (by omega) (by omega) (wr.alloc (Obj.cells #[.int .i64 ok, .int .i64 oe, .bool oo] 35))
      have P2 := mod_any oe 2 (by omega) (by omega)
      have hq := (modOf_spec ok 6 (by omega) (by omega)).2
      have hq2 := (modOf_spec oe 2 (by omega) (by omega)).2
      generalize modOf ok 6 = m at *
      generalize modOf oe 2 = m2 at *
      have b0 : Below wr.heap.size wr (wr.alloc (Obj.cells #[.int .i64 ok, .int .i64 oe, .bool oo] 35)) := bal (Below.refl _ _) _
      have hh := heap_alloc_new wr (Obj.cells #[.int .i64 ok, .int .i64 oe, .bool oo] 35)
      have x1 : (wr.alloc (Obj.cells #[.int .i64 ok, .int .i64 oe, .bool oo] 35)).cell? ⟨wr.heap.size, 1, none⟩ = some (.int .i64 oe) := by unfold World.cell?; rw [hh]; rfl
      have x2 : (wr.alloc (Obj.cells #[.int .i64 ok, .int .i64 oe, .bool oo] 35)).cell? ⟨wr.heap.size, 2, none⟩ = some (.bool oo) := by unfold World.cell?; rw [hh]; rfl
      have I1 : Hid (NeI w (wr.alloc (Obj.cells #[.int .i64 ok, .int .i64 oe, .bool oo] 35)) L l p h s) := ⟨I.out.bt, I.out.r.of_block (b0.block L I.out.r.lt), bel2 I.out.b b0⟩
      clear hh b0
      go_wp2_with fail
      refine P.mono ?_
      clear P I
      rintro e w' ⟨rfl, rfl⟩
      go_upto_block 2 with fail
      clear c0 c1 c2
      generalize wr.heap.size = L9 at *
      generalize wr.alloc (Obj.cells #[.int .i64 ok, .int .i64 oe, .bool oo] 35) = W at *
      go_cut [5, 6, 7] (fun vl vp vh wx => ∃ (l p h : Bool) (s : GpS), vl = .bool l ∧ vp = .bool p ∧ vh = .bool h ∧ NeI w wx L l p h s)
      case first =>
        have hm6 : m = 0 ∨ m = 1 ∨ m = 2 ∨ m = 3 ∨ m = 4 ∨ m = 5 := by omega
        clear hq
        have ST : Hid (∀ (W' : World) (p' : Bool), (GpR W' L (setS s 0 oo) ∧ Chg (fun k => k = L) W W') → p' = (p || (oo && (!l || false && !h))) → ∃ (l2 p2 h2 : Bool) (s2 : GpS), Value.bool oo = .bool l2 ∧ Value.bool p' = .bool p2 ∧ Value.bool h = .bool h2 ∧ NeI w W' L l2 p2 h2 s2) := fun W' p' hp hp' => by
          have S := stepG (a := w) hp I1.out.b hz.out
          subst hp'
          exact ⟨_, _, _, _, rfl, rfl, rfl, ⟨I1.out.bt.set oo, S.1, S.2⟩⟩
        have SP := set_any W L s 0 oo I1.out.r (by rw [I1.out.bt.ct]; omega) (by rw [I1.out.bt.ct]; omega)
        rcases hm6 with rfl | rfl | rfl | rfl | hm
        · clear P2 hq2
          cases oo <;> cases l <;> cases p
          all_goals
            go_wp2_with fail
            refine SP.mono ?_
            rintro e W2 ⟨rfl, hp⟩
            have HP := Lib.hid hp
            clear hp SP
            go_wp2
            go_meet
            exact ST.out _ _ HP.out rfl
        · clear P2 hq2
          cases oo <;> cases l <;> cases p
          all_goals
            go_wp2_with fail
            refine SP.mono ?_
            rintro e W2 ⟨rfl, hp⟩
            have HP := Lib.hid hp
            clear hp SP
            go_wp2
            go_meet
            exact ST.out _ _ HP.out rfl
        · clear P2 hq2 ST SP
          have P := next_any W L s I1.out.r (HT.out.below I1.out.b (Nat.le_refl _))
          rw [I1.out.bt.next] at P
          cases p <;> cases h
          case true.false =>
            change Calls _ _ _ _ (RdP W (.tuple #[.int .i64 0, .bool true])) at P
            go_wp2_with fail
            refine P.mono ?_
            clear P
            rintro e W2 ⟨rfl, hp⟩
            have S2 := Lib.hid (stepR (a := w) hp I1.out.r I1.out.b)
            clear hp
            have P := beg_any W2 L s 0 S2.out.1 (by rw [I1.out.bt.ct]; omega) (by rw [I1.out.bt.ct]; omega) I1.out.bt.rdyk
            generalize pre (s.lv.getLsbD 0) ++ nm 0 = S at *
            go_wp2_with fail
            refine P.mono ?_
            clear P
            rintro e W3 ⟨rfl, hp⟩
            have S3 := Lib.hid (stepG (a := w) hp S2.out.2 hz.out)
            clear hp S2
            go_wp2
            go_meet
            exact ⟨_, _, _, _, rfl, rfl, rfl, ⟨I1.out.bt.beg, S3.out.1, S3.out.2⟩⟩
          all_goals
            change Calls _ _ _ _ (RdP W (.tuple #[.int .i64 0, .bool false])) at P
            go_wp2_with fail
            refine P.mono ?_
            clear P
            rintro e W2 ⟨rfl, hp⟩
            have S2 := Lib.hid (stepR (a := w) hp I1.out.r I1.out.b)
            clear hp
            go_wp2
            go_meet
            exact ⟨_, _, _, _, rfl, rfl, rfl, ⟨I1.out.bt, S2.out.1, S2.out.2⟩⟩
        · clear P2 hq2 ST SP
          cases h
          · have P := cmp_st W L s 0 I1.out.r (by rw [I1.out.bt.ct]; omega) (by rw [I1.out.bt.ct]; omega) I1.out.bt.hd
            go_wp2_with fail
            refine P.mono ?_
            clear P
            rintro e W2 ⟨rfl, hp⟩
            have S2 := Lib.hid (stepG (a := w) hp I1.out.b hz.out)
            clear hp
            go_wp2
            go_meet
            exact ⟨_, _, _, _, rfl, rfl, rfl, ⟨I1.out.bt, S2.out.1, S2.out.2⟩⟩
          · have P := cmp_any W L s 0 I1.out.r (by rw [I1.out.bt.ct]; omega) (by rw [I1.out.bt.ct]; omega) I1.out.bt.hd
            go_wp2_with fail
            refine P.mono ?_
            clear P
            rintro e W2 ⟨rfl, hp⟩
            have S2 := Lib.hid (stepG (a := w) hp I1.out.b hz.out)
            clear hp
            go_wp2
            go_meet
            exact ⟨_, _, _, _, rfl, rfl, rfl, ⟨I1.out.bt.cmp, S2.out.1, S2.out.2⟩⟩
        · clear ST SP
          have e0 : ((m : Int) == 0) = false := beq_eq_false_iff_ne.2 (by omega)
          have e1 : ((m : Int) == 1) = false := beq_eq_false_iff_ne.2 (by omega)
          have e2 : ((m : Int) == 2) = false := beq_eq_false_iff_ne.2 (by omega)
          have e3 : ((m : Int) == 3) = false := beq_eq_false_iff_ne.2 (by omega)
          clear hm
          have P := fun W' h' => set_any W' L s (1 + m2) oo h' (by rw [I1.out.bt.ct]; omega) (by rw [I1.out.bt.ct]; omega)
          have BT := Lib.hid (I1.out.bt.set_other (1 + m2) (by omega) (by omega) oo)
          have hw2 : IntKind.i64.wrap (1 + (m2 : Int)) = ((1 + m2 : Nat) : Int) := by rw [IntWalk.i64_in _ (by omega)]; simp
          have hw2 := Lib.hid hw2
          go_upto_region 11 with fail
          have hw := hw2.out
          go_still_tail 7, (by kernel_rfl)
          still_call ((P2 _).mono fun e w' h => ⟨h.1, h.2.symm⟩)
          repeat still_step
          refine wpStill_nil ?_
          clear hw
          have S2 := stepR (a := w) (w' := W.drew) ⟨1, rfl⟩ I1.out.r I1.out.b
          go_wp2_with fail
          refine (P _ S2.1).mono ?_
          clear P
          rintro e W2 ⟨rfl, hp⟩
          have S3 := Lib.hid (stepG (a := w) hp S2.2 hz.out)
          clear hp S2
          go_wp2
          go_meet
          exact ⟨_, _, _, _, rfl, rfl, rfl, ⟨BT.out, S3.out.1, S3.out.2⟩⟩
      case rest =>
        obtain ⟨l, p, h, s, rfl, rfl, rfl, hI⟩ := hcut
        have I := Lib.hid hI
        clear hI
        have P := next_any wc L s I.out.r (HT.out.below I.out.b (Nat.le_refl _))
        rw [I.out.bt.next] at P
        have N : Hid (∀ W2, (∃ n, W2 = wc.drewN n) → NeI w W2 L l p h s) := fun W2 hp => by
          have S := stepR (a := w) hp I.out.r I.out.b
          exact ⟨I.out.bt, S.1, S.2⟩
        cases p <;> cases h
        case true.false =>
          change Calls _ _ _ _ (RdP wc (.tuple #[.int .i64 0, .bool true])) at P
          go_wp2_with fail
          refine P.mono ?_
          clear P
          rintro e W2 ⟨rfl, hp⟩
          have S2 := Lib.hid (N.out _ hp)
          clear hp N I
          have P := status_any W2 L s 0 S2.out.r (by rw [S2.out.bt.ct]; omega) (by rw [S2.out.bt.ct]; omega)
          rw [S2.out.bt.st] at P
          go_wp2_with fail
          refine P.mono ?_
          clear P
          rintro e W3 ⟨rfl, hp⟩
          have S3 := stepR (a := w) hp S2.out.r S2.out.b
          have S4 : Hid (NeI w W3 L l true false s) := ⟨S2.out.bt, S3.1, S3.2⟩
          clear hp S3 S2
          go_wp2
          go_roundg g
          case measure => omega
          case rel => exact ⟨i + 1, _, _, _, _, by omega, by omega, by go_num, rfl, rfl, rfl, S4.out⟩
        all_goals
          change Calls _ _ _ _ (RdP wc (.tuple #[.int .i64 0, .bool false])) at P
          go_wp2_with fail
          refine P.mono ?_
          clear P
          rintro e W2 ⟨rfl, hp⟩
          have S2 := Lib.hid (N.out _ hp)
          clear hp N I
          have P := status_any W2 L s 0 S2.out.r (by rw [S2.out.bt.ct]; omega) (by rw [S2.out.bt.ct]; omega)
          rw [S2.out.bt.st] at P
          go_wp2_with fail
          refine P.mono ?_
          clear P
          rintro e W3 ⟨rfl, hp⟩
          have S3 := stepR (a := w) hp S2.out.r S2.out.b
          have S4 := Lib.hid (NeI.mk S2.out.bt S3.1 S3.2)
          clear hp S3 S2
          go_wp2
          go_roundg g
          case measure => omega
          case rel => exact ⟨i + 1, _, _, _, _, by omega, by omega, by go_num, rfl, rfl, rfl, S4.out⟩
    · have d1 : i < n → decide ((i : Int) < 90) = false := fun h => decide_eq_false (by omega)
      have B := Lib.hid I.out.b
      by_cases hl : i < n
      · have d2 := d1 hl
        clear d1
        go_wp2
        go_ret
        exact ⟨rfl, B.out⟩
      · clear d1
        go_wp2
        go_ret
        exact ⟨rfl, B.out⟩
end Go.Proofs.YtmhianhaljphiaaDoor
