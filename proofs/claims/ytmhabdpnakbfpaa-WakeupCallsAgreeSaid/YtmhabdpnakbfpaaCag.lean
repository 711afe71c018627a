/- WakeupCallsAgree: the walk. -/
import Derived.Test.YtmhabdpnakbfpaaTwo
namespace Go.Proofs.Ytmhabdpnakbfpaa
open Go.ChangeShapes Go.WideShapes Go.ChangeAt Go.RowKit Go.Deep Go.Joins

def cdN (n : Int) : Int := if 0 ≤ n ∧ n ≤ 32 then 0 else 1
set_option maxRecDepth 20000 in
set_option maxHeartbeats 16000000 in
theorem cag_any (n : Int) (A : Option Addr) (m cc : Nat) (g : Nat → Cl) (w : World) (_hn : (Lit.int .i64 n).wf = true) (h : Cs w A m g) : Calls Try.prog 3 #[.int .i64 n, .slice A m cc] w (LawPost w) := by
  have AW := Lib.hid (fun W => awake_any W)
  by_cases hm : 50 < m
  · have q : (50 : Int) < (m : Int) := by omega
    clear h
    go_enter Try.func3, Try.ntmps3
    go_wp2_with (go_at_call 10; refine (AW.out _).mono ?_; rintro e w9 ⟨rfl, hb9⟩)
    go_ret
    exact ⟨rfl, hb9⟩
  have q : ¬ (50 : Int) < (m : Int) := by omega
  have MN := Lib.hid (fun W => mod_any n 5 (by decide) (by decide) W)
  have hk5 := (modOf_spec n 5 (by decide) (by decide)).2
  generalize modOf n 5 = k at *
  have HC := Lib.hid h
  have CY' : Hid (0 ≤ n ∧ n ≤ 32 → cdN n = 0) := fun h => if_pos h
  have CN' : Hid (¬ (0 ≤ n ∧ n ≤ 32) → cdN n = 1) := fun h => if_neg h
  clear h
  go_enter Try.func3, Try.ntmps3
  go_upto_region 3 with fail
  go_cut [6] (fun v wx => v = .int .i64 (cdN n) ∧ Below w.heap.size w wx)
  case first =>
    have NW := new_any n w
    go_wp2_with fail
    refine NW.mono ?_
    clear NW
    rintro e w1 (⟨k', hk', hk3, L, X, rfl, hW, hL, hX, hB⟩ | ⟨hbad, rfl, rfl⟩)
    · have E := Lib.hid (CY'.out (by omega))
      have HB := Lib.hid hB
      clear hW hL hX hB hk'
      go_wp2
      go_meet
      exact ⟨by rw [E.out], HB.out⟩
    · have E := Lib.hid (CN'.out (by omega))
      go_wp2
      go_meet
      exact ⟨by rw [E.out], Below.refl _ _⟩
  case rest =>
    obtain ⟨rfl, hb⟩ := hcut
    have B := Lib.hid hb
    clear hb
    generalize wc = w1 at *
    go_upto_region 4 with fail
    go_cut [8] (fun v wx => v = .int .i64 (cdN n) ∧ Below w.heap.size w wx)
    case first =>
      have NW := rnew_any n w1
      go_wp2_with fail
      refine NW.mono ?_
      clear NW
      rintro e w2 (⟨k', hk', hk3, y, rfl, hW, -, -, -, hB⟩ | ⟨hbad, rfl, rfl⟩)
      · have E := Lib.hid (CY'.out (by omega))
        have HB := Lib.hid (bel2 B.out hB)
        clear hW hB hk'
        go_wp2
        go_meet
        exact ⟨by rw [E.out], HB.out⟩
      · have E := Lib.hid (CN'.out (by omega))
        go_wp2
        go_meet
        exact ⟨by rw [E.out], B.out⟩
    case rest =>
      obtain ⟨rfl, hb⟩ := hcut
      have B2 := Lib.hid hb
      clear hb B CY' CN'
      generalize wc = w2 at *
      generalize cdN n = cd at *
      go_wp2_with fail
      refine (MN.out _).mono ?_
      clear MN
      rintro e w3 ⟨rfl, rfl⟩
      have NW := new_any k w2
      go_wp2_with fail
      refine NW.mono ?_
      clear NW
      rintro e w3 (⟨k', hk', hk3, L, X, rfl, hW, hL, hX, hB⟩ | ⟨h, -, -⟩)
      case inr => omega
      obtain rfl : k' = k := by omega
      have D := Lib.hid (D1.mk (w0 := w) hW (show w.heap.size ≤ L by have := B2.out.size; omega) (show w.heap.size ≤ X by have := B2.out.size; omega) (bel2 B2.out hB))
      have NW := rnew_any k' w3
      clear hW hL hX hB hk'
      go_wp2_with fail
      refine NW.mono ?_
      clear NW
      rintro e w4 (⟨k2, hk2, -, y, rfl, hR, hyL, hyX, hyY, hB⟩ | ⟨h, -, -⟩)
      case inr => omega
      obtain rfl : k2 = k' := by omega
      have DD : Hid (D2 w w4 (s0 k2 L X) y) := by
        have hw3 := D.out.b.size
        have lL : L < w3.heap.size := D.out.k.lL
        have lX : 0 < k2 → X < w3.heap.size := D.out.k.lX
        refine ⟨D.out.below hB, hR L X, by omega, by omega, by omega, ?_, fun h0 => ?_⟩
        · show L ≠ y.L ∧ L ≠ y.X ∧ L ≠ y.Y; omega
        · show X ≠ y.L ∧ X ≠ y.X ∧ X ≠ y.Y
          have := lX h0
          omega
      clear D hR hyL hyX hyY hB hk2 B2
      generalize hLY : y.L = LY at *
      have HLY := Lib.hid hLY
      clear hLY
      go_wp2_with fail
      go_loopw [14] (fun vi wr => ∃ (i : Nat) (s : WS) (y : Ry), vi = .int .i64 i ∧ i ≤ m ∧ D2 w wr s y ∧ s.n = k2 ∧ s.L = L ∧ y.L = LY) (fun i _ => m - (intOf i).toNat)
      case atStart => exact ⟨0, s0 k2 L X, y, rfl, Nat.zero_le _, DD.out, rfl, rfl, HLY.out⟩
      case round =>
        clear DD HLY
        clear y
        obtain ⟨i, s, y, rfl, hi, hD, hsn, rfl, rfl⟩ := hrel
        have D := Lib.hid hD
        by_cases hlt : i < m
        · rcases HC.out.row with h0 | ⟨b, off, rfl, hb, hcl⟩
          · omega
          have wf := HC.out.wf i hlt
          obtain ⟨c0, c1, c2, c3, c4, c5⟩ := hcl i hlt
          have B := D.out.d.b
          have hbr : b < wr.heap.size := by have := B.size; omega
          have KS : Hid (∀ W, Below wr.heap.size wr W → W.cell? ⟨b, off + i * 6, none⟩ = some (.int .i64 (g i).k) ∧ W.cell? ⟨b, off + i * 6 + 1, none⟩ = some (.int .i64 (g i).s) ∧ W.cell? ⟨b, off + i * 6 + 2, none⟩ = some (.int .u64 (g i).t) ∧ W.cell? ⟨b, off + i * 6 + 3, none⟩ = some (.int .u64 (g i).h) ∧ W.cell? ⟨b, off + i * 6 + 4, none⟩ = some (.int .i64 (g i).e) ∧ W.cell? ⟨b, off + i * 6 + 5, none⟩ = some (.bool (g i).raw) ∧ W.cell? ⟨y.L, 7, none⟩ = some (.int .u64 s.ck) ∧ W.cell? ⟨y.L, 4, none⟩ = some (.int .i64 s.ev)) := fun W hW => by
            have e : ∀ j, W.cell? ⟨b, j, none⟩ = w.cell? ⟨b, j, none⟩ := fun j => (hW.cell (p := ⟨b, j, none⟩) (by exact hbr)).trans (B.cell (p := ⟨b, j, none⟩) (by exact hb))
            exact ⟨(e _).trans c0, (e _).trans c1, (e _).trans c2, (e _).trans c3, (e _).trans c4, (e _).trans c5, (hW.cell (by exact D.out.r.lL)).trans D.out.r.c7, (hW.cell (by exact D.out.r.lL)).trans D.out.r.c4⟩
          have AT := Lib.hid (fun W => at_any (g i) k2 s.ck s.ev W (by omega))
          have hxo := atR_o (g i) k2 s.ck s.ev (u64_of_wf wf.2.2.2.1).1
          have MK := modOf (g i).k 9
          have DOO := Lib.hid (fun (W : World) (x : Ar) (hw : Wk W s) => do_any hw (g i).k x)
          have WNO := Lib.hid (fun (W : World) (x : Ar) (hw : Rk W s y) (ho : 0 ≤ x.o) => want_any hw (g i).k x ho)
          clear wf c0 c1 c2 c3 c4 c5 B hcl MK
          unfold Cl.cells Ar.cells at AT
          unfold Ar.cells at DOO WNO
          generalize atR (g i) k2 s.ck s.ev = x at *
          generalize modOf (g i).k 9 = mk at *
          generalize (g i).k = kd at *
          generalize (g i).s = ks at *
          generalize (g i).t = kt at *
          generalize (g i).h = kh at *
          generalize (g i).e = ke at *
          generalize (g i).raw = kr at *
          generalize s.ck = ck at *
          generalize hev : s.ev = ev at *
          clear hev
          have hil : (i : Int) < (m : Int) := by omega
          clear hD
          go_upto_region 13 with fail
          go_cut [15] (fun v wx => ∃ Q, v = .pointer (some ⟨Q, 0, none⟩) ∧ Below wr.heap.size wr wx ∧ wr.heap.size ≤ Q ∧ wx.heap[Q]? = some (.cells #[.int .i64 x.s, .int .u64 x.t, .int .u64 x.o, .int .i64 x.e] 34 (0, 0)))
          case first =>
            refine wp_region_noPanic ?_
            refine wp_region_held_drew (S := fun W => W.cell? ⟨b, off + i * 6, none⟩ = some (.int .i64 kd) ∧ W.cell? ⟨b, off + i * 6 + 1, none⟩ = some (.int .i64 ks) ∧ W.cell? ⟨b, off + i * 6 + 2, none⟩ = some (.int .u64 kt) ∧ W.cell? ⟨b, off + i * 6 + 3, none⟩ = some (.int .u64 kh) ∧ W.cell? ⟨b, off + i * 6 + 4, none⟩ = some (.int .i64 ke) ∧ W.cell? ⟨b, off + i * 6 + 5, none⟩ = some (.bool kr) ∧ W.cell? ⟨y.L, 7, none⟩ = some (.int .u64 ck) ∧ W.cell? ⟨y.L, 4, none⟩ = some (.int .i64 ev)) (by kernel_rfl) (KS.out _ (Below.refl _ wr).drew) (fun hHeld => ?_)
            refine wpAnyH_take (i := 0) (v := ?va0) (by simp only [List.getElem?_toArray, List.getElem?_cons_zero]; rfl) (by kernel_rfl) (by kernel_rfl) (by kernel_rfl) (fun _ _ _ h => h) (Or.inl ⟨by rfl, ?ya0⟩) hHeld ?_
            case ya0 => (intro w hSw; go_simp <;> with_reducible rfl)
            simp only [Act.put, List.setIfInBounds_toArray, List.set_cons_zero, List.set_cons_succ]
            refine wpAnyH_take (i := 1) (v := ?va1) (by simp only [List.getElem?_toArray, List.getElem?_cons_succ, List.getElem?_cons_zero]; rfl) (by kernel_rfl) (by kernel_rfl) (by kernel_rfl) (fun _ _ _ h => h) (Or.inl ⟨by rfl, ?ya1⟩) hHeld ?_
            case ya1 => (intro w hSw; go_simp <;> with_reducible rfl)
            simp only [Act.put, List.setIfInBounds_toArray, List.set_cons_zero, List.set_cons_succ]
            refine wpAnyH_take (i := 2) (v := ?va2) (by simp only [List.getElem?_toArray, List.getElem?_cons_succ, List.getElem?_cons_zero]; rfl) (by kernel_rfl) (by kernel_rfl) (by kernel_rfl) (fun _ _ _ h => h) (Or.inl ⟨by rfl, ?ya2⟩) hHeld ?_
            case ya2 => (intro w hSw; go_simp <;> with_reducible rfl)
            simp only [Act.put, List.setIfInBounds_toArray, List.set_cons_zero, List.set_cons_succ]
            refine wpAnyH_take (i := 3) (v := ?va3) (by simp only [List.getElem?_toArray, List.getElem?_cons_succ, List.getElem?_cons_zero]; rfl) (by kernel_rfl) (by kernel_rfl) (by kernel_rfl) (fun _ _ _ h => h) (Or.inl ⟨by rfl, ?ya3⟩) hHeld ?_
            case ya3 => (intro w hSw; go_simp <;> with_reducible rfl)
            simp only [Act.put, List.setIfInBounds_toArray, List.set_cons_zero, List.set_cons_succ]
            refine wpAnyH_take (i := 4) (v := ?va4) (by simp only [List.getElem?_toArray, List.getElem?_cons_succ, List.getElem?_cons_zero]; rfl) (by kernel_rfl) (by kernel_rfl) (by kernel_rfl) (fun _ _ _ h => h) (Or.inl ⟨by rfl, ?ya4⟩) hHeld ?_
            case ya4 => (intro w hSw; go_simp <;> with_reducible rfl)
            simp only [Act.put, List.setIfInBounds_toArray, List.set_cons_zero, List.set_cons_succ]
            refine wpAnyH_take (i := 5) (v := ?va5) (by simp only [List.getElem?_toArray, List.getElem?_cons_succ, List.getElem?_cons_zero]; rfl) (by kernel_rfl) (by kernel_rfl) (by kernel_rfl) (fun _ _ _ h => h) (Or.inl ⟨by rfl, ?ya5⟩) hHeld ?_
            case ya5 => (intro w hSw; go_simp <;> with_reducible rfl)
            simp only [Act.put, List.setIfInBounds_toArray, List.set_cons_zero, List.set_cons_succ]
            refine wpAnyH_take (i := 6) (v := ?va6) (by simp only [List.getElem?_toArray, List.getElem?_cons_succ, List.getElem?_cons_zero]; rfl) (by kernel_rfl) (by kernel_rfl) (by kernel_rfl) (fun _ _ _ h => h) (Or.inl ⟨by rfl, ?ya6⟩) hHeld ?_
            case ya6 => (intro w hSw; go_simp <;> with_reducible rfl)
            simp only [Act.put, List.setIfInBounds_toArray, List.set_cons_zero, List.set_cons_succ]
            refine wpAnyH_take (i := 7) (v := ?va7) (by simp only [List.getElem?_toArray, List.getElem?_cons_succ, List.getElem?_cons_zero]; rfl) (by kernel_rfl) (by kernel_rfl) (by kernel_rfl) (fun _ _ _ h => h) (Or.inl ⟨by rfl, ?ya7⟩) hHeld ?_
            case ya7 => (intro w hSw; go_simp <;> with_reducible rfl)
            simp only [Act.put, List.setIfInBounds_toArray, List.set_cons_zero, List.set_cons_succ]
            refine wpAnyH_take (i := 8) (v := ?va8) (by simp only [List.getElem?_toArray, List.getElem?_cons_succ, List.getElem?_cons_zero]; rfl) (by kernel_rfl) (by kernel_rfl) (by kernel_rfl) (fun _ _ _ h => h) (Or.inl ⟨by rfl, ?ya8⟩) hHeld ?_
            case ya8 => (intro w hSw; go_simp <;> with_reducible rfl)
            simp only [Act.put, List.setIfInBounds_toArray, List.set_cons_zero, List.set_cons_succ]
            refine wpAnyH_take (i := 9) (v := ?va9) (by simp only [List.getElem?_toArray, List.getElem?_cons_succ, List.getElem?_cons_zero]; rfl) (by kernel_rfl) (by kernel_rfl) (by kernel_rfl) (fun _ _ _ h => h) (Or.inl ⟨by rfl, ?ya9⟩) hHeld ?_
            case ya9 => (intro w hSw; go_simp <;> with_reducible rfl)
            simp only [Act.put, List.setIfInBounds_toArray, List.set_cons_zero, List.set_cons_succ]
            refine wpAnyH_take (i := 10) (v := ?va10) (by simp only [List.getElem?_toArray, List.getElem?_cons_succ, List.getElem?_cons_zero]; rfl) (by kernel_rfl) (by kernel_rfl) (by kernel_rfl) (fun _ _ _ h => h) (Or.inl ⟨by rfl, ?ya10⟩) hHeld ?_
            case ya10 => (intro w hSw; go_simp <;> with_reducible rfl)
            simp only [Act.put, List.setIfInBounds_toArray, List.set_cons_zero, List.set_cons_succ]
            refine wpAnyH_take (i := 11) (v := ?va11) (by simp only [List.getElem?_toArray, List.getElem?_cons_succ, List.getElem?_cons_zero]; rfl) (by kernel_rfl) (by kernel_rfl) (by kernel_rfl) (fun _ _ _ h => h) (Or.inl ⟨by rfl, ?ya11⟩) hHeld ?_
            case ya11 => (intro w hSw; go_simp <;> with_reducible rfl)
            simp only [Act.put, List.setIfInBounds_toArray, List.set_cons_zero, List.set_cons_succ]
            refine wpAnyH_take (i := 12) (v := ?va12) (by simp only [List.getElem?_toArray, List.getElem?_cons_succ, List.getElem?_cons_zero]; rfl) (by kernel_rfl) (by kernel_rfl) (by kernel_rfl) (fun _ _ _ h => h) (Or.inl ⟨by rfl, ?ya12⟩) hHeld ?_
            case ya12 => (intro w hSw; go_simp <;> with_reducible rfl)
            simp only [Act.put, List.setIfInBounds_toArray, List.set_cons_zero, List.set_cons_succ]
            have bd : Below wr.heap.size wr wr.drew := (Below.refl _ wr).drew
            generalize wr.drew = w0 at *
            refine wpAnyH_ready (rs := [13, 14]) (by kernel_rfl) (by simp) ?_
            refine AllReadyH.cons (by simp only [List.getElem?_toArray, List.getElem?_cons_succ, List.getElem?_cons_zero]; rfl) (fun K hK => ?_) ?_
            · go_simp
              go_at_call 14
              refine (AT.out _).mono ?_
              rintro e w5 ⟨rfl, hb5⟩
              have b5 : Below wr.heap.size wr w5 := bel2 bd hb5
              go_wp2_with fail
              refine hK.out _ _ ?_ (fun hHeld => ?_)
              · exact KS.out _ b5
              clear hK K
              refine wpAnyH_ready (rs := [14]) (by kernel_rfl) (by simp) ?_
              refine AllReadyH.cons (by simp only [List.getElem?_toArray, List.getElem?_cons_succ, List.getElem?_cons_zero]; rfl) (fun K hK => ?_) ?_
              rotate_left
              · exact AllReadyH.nil
              go_simp
              refine hK.out _ _ ?_ (fun hHeld => ?_)
              · exact KS.out _ (bal b5 _)
              clear hK K
              have hq5 : wr.heap.size ≤ w5.heap.size := b5.size
              refine wpAnyH_ready (rs := [15]) (by kernel_rfl) (by simp) ?_
              refine AllReadyH.cons (by simp only [List.getElem?_toArray, List.getElem?_cons_succ, List.getElem?_cons_zero]; rfl) (fun K hK => ?_) ?_
              rotate_left
              · exact AllReadyH.nil
              go_simp
              refine hK.out _ _ ?_ (fun hHeld => ?_)
              · exact KS.out _ (bal b5 _)
              clear hK K
              refine wpAnyH_done (by kernel_rfl) ?_ _
              refine NoPanic.normal ?_
              go_wp2
              go_meet
              exact ⟨w5.heap.size, rfl, bal b5 _, hq5, heap_alloc_new w5 _⟩
            refine AllReadyH.cons (by simp only [List.getElem?_toArray, List.getElem?_cons_succ, List.getElem?_cons_zero]; rfl) (fun K hK => ?_) ?_
            rotate_left
            · exact AllReadyH.nil
            go_simp
            refine hK.out _ _ ?_ (fun hHeld => ?_)
            · exact KS.out _ (bal bd _)
            clear hK K
            have bA : Below wr.heap.size wr (w0.alloc (.cells #[.int .i64 0, .int .u64 0, .int .u64 0, .int .i64 0] 34)) := bal bd _
            have hA : (w0.alloc (.cells #[.int .i64 0, .int .u64 0, .int .u64 0, .int .i64 0] 34)).heap[w0.heap.size]? = some (.cells #[.int .i64 0, .int .u64 0, .int .u64 0, .int .i64 0] 34 (0, 0)) := heap_alloc_new w0 _
            have hQw : wr.heap.size ≤ w0.heap.size := bd.size
            generalize w0.alloc (.cells #[.int .i64 0, .int .u64 0, .int .u64 0, .int .i64 0] 34) = wA at *
            generalize w0.heap.size = Q at *
            refine wpAnyH_ready (rs := [13]) (by kernel_rfl) (by simp) ?_
            refine AllReadyH.cons (by simp only [List.getElem?_toArray, List.getElem?_cons_succ, List.getElem?_cons_zero]; rfl) (fun K hK => ?_) ?_
            rotate_left
            · exact AllReadyH.nil
            go_simp
            go_at_call 14
            refine (AT.out _).mono ?_
            rintro e w5 ⟨rfl, hb5⟩
            have b5 : Below wr.heap.size wr w5 := bel2 bA hb5
            have hR : w5.heap[Q]? = some (.cells #[.int .i64 0, .int .u64 0, .int .u64 0, .int .i64 0] 34 (0, 0)) := b_blk hb5 hA
            go_wp2_with fail
            refine hK.out _ _ ?_ (fun hHeld => ?_)
            · exact KS.out _ b5
            clear hK K
            have r0 := cells_at hR 0
            have r1 := cells_at hR 1
            have r2 := cells_at hR 2
            have r3 := cells_at hR 3
            have g0 := frz hR 0
            have g1 := frz hR 1
            have g2 := frz hR 2
            have g3 := frz hR 3
            have lr := blk_lt hR
            simp only [List.getElem?_toArray, List.getElem?_cons_zero, List.getElem?_cons_succ] at r0 r1 r2 r3
            have HP := r_done hR x.s x.t x.o x.e
            have HB := r_bel (R := Q) b5 hQw x.s x.t x.o x.e
            refine wpAnyH_ready (rs := [15]) (by kernel_rfl) (by simp) ?_
            refine AllReadyH.cons (by simp only [List.getElem?_toArray, List.getElem?_cons_succ, List.getElem?_cons_zero]; rfl) (fun K hK => ?_) ?_
            rotate_left
            · exact AllReadyH.nil
            go_simp
            refine hK.out _ _ ?_ (fun hHeld => ?_)
            · exact KS.out _ HB
            clear hK K
            refine wpAnyH_done (by kernel_rfl) ?_ _
            refine NoPanic.normal ?_
            clear r0 r1 r2 r3 g0 g1 g2 g3
            go_wp2
            go_meet
            exact ⟨Q, rfl, HB, hQw, HP⟩
          case rest =>
            obtain ⟨Q, rfl, hbq, hQ, hQc⟩ := hcut
            generalize wc = w3 at *
            have c0 := (KS.out w3 hbq).1
            have D3 := Lib.hid (D.out.below hbq)
            have y0 := (cells_at hQc 0).trans rfl
            have y1 := (cells_at hQc 1).trans rfl
            have y2 := (cells_at hQc 2).trans rfl
            have y3 := (cells_at hQc 3).trans rfl
            have lQ := blk_lt hQc
            have hb3 : b < w3.heap.size := by have := hbq.size; omega
            have apB : b ≠ s.L ∧ (0 < s.n → b ≠ s.X) ∧ ¬ (b = y.L ∨ b = y.X ∨ b = y.Y) := by
              have := D.out.d.l
              have := D.out.d.x
              have := D.out.l
              have := D.out.x
              have := D.out.y'
              refine ⟨by omega, fun _ => by omega, by omega⟩
            have apQ : Q ≠ s.L ∧ (0 < s.n → Q ≠ s.X) ∧ ¬ (Q = y.L ∨ Q = y.X ∨ Q = y.Y) := by
              have := D.out.d.k.lL
              have := D.out.r.lL
              have := D.out.r.lX
              have := D.out.r.lY
              refine ⟨by omega, fun h0 => by have := D.out.d.k.lX h0; omega, by omega⟩
            have KQ : Hid (∀ (W : World) (F : Nat → Prop), Chg F w3 W → (∀ b : Nat, b ≠ s.L ∧ (0 < s.n → b ≠ s.X) ∧ ¬ (b = y.L ∨ b = y.X ∨ b = y.Y) → ¬ F b) → (∀ b : Nat, b ≠ s.L ∧ (0 < s.n → b ≠ s.X) ∧ ¬ (b = y.L ∨ b = y.X ∨ b = y.Y) → ¬ F b) → w3.heap.size ≤ W.heap.size → W.cell? ⟨b, off + i * 6, none⟩ = some (.int .i64 kd) ∧ W.cell? ⟨Q, 0, none⟩ = some (.int .i64 x.s) ∧ W.cell? ⟨Q, 1, none⟩ = some (.int .u64 x.t) ∧ W.cell? ⟨Q, 2, none⟩ = some (.int .u64 x.o) ∧ W.cell? ⟨Q, 3, none⟩ = some (.int .i64 x.e)) := fun W F hc h1 _ _ => by
              have eb : ∀ j, W.cell? ⟨b, j, none⟩ = w3.cell? ⟨b, j, none⟩ := fun j => World.cell?_of_block (hc.block b hb3 (h1 b apB))
              have eq : ∀ j, W.cell? ⟨Q, j, none⟩ = w3.cell? ⟨Q, j, none⟩ := fun j => World.cell?_of_block (hc.block Q lQ (h1 Q apQ))
              exact ⟨(eb _).trans c0, (eq _).trans y0, (eq _).trans y1, (eq _).trans y2, (eq _).trans y3⟩
            clear KS AT hQc hbq hQ D hbr
            go_upto_region 14 with fail
            refine wp_region_noPanic ?_
            refine wp_region_held_drew (S := fun W => W.cell? ⟨b, off + i * 6, none⟩ = some (.int .i64 kd) ∧ W.cell? ⟨Q, 0, none⟩ = some (.int .i64 x.s) ∧ W.cell? ⟨Q, 1, none⟩ = some (.int .u64 x.t) ∧ W.cell? ⟨Q, 2, none⟩ = some (.int .u64 x.o) ∧ W.cell? ⟨Q, 3, none⟩ = some (.int .i64 x.e)) (by kernel_rfl) (KQ.out _ _ (Chg.of_below (Below.refl _ w3).drew (fun _ => False)) (fun _ _ h => h) (fun _ _ h => h) (Nat.le_refl _)) (fun hHeld => ?_)
            refine wpAnyH_take (i := 0) (v := ?vb0) (by simp only [List.getElem?_toArray, List.getElem?_cons_zero]; rfl) (by kernel_rfl) (by kernel_rfl) (by kernel_rfl) (fun _ _ _ h => h) (Or.inl ⟨by rfl, ?yb0⟩) hHeld ?_
            case yb0 => (intro w hSw; go_simp <;> with_reducible rfl)
            simp only [Act.put, List.setIfInBounds_toArray, List.set_cons_zero, List.set_cons_succ]
            refine wpAnyH_take (i := 1) (v := ?vb1) (by simp only [List.getElem?_toArray, List.getElem?_cons_succ, List.getElem?_cons_zero]; rfl) (by kernel_rfl) (by kernel_rfl) (by kernel_rfl) (fun _ _ _ h => h) (Or.inl ⟨by rfl, ?yb1⟩) hHeld ?_
            case yb1 => (intro w hSw; go_simp <;> with_reducible rfl)
            simp only [Act.put, List.setIfInBounds_toArray, List.set_cons_zero, List.set_cons_succ]
            refine wpAnyH_take (i := 2) (v := ?vb2) (by simp only [List.getElem?_toArray, List.getElem?_cons_succ, List.getElem?_cons_zero]; rfl) (by kernel_rfl) (by kernel_rfl) (by kernel_rfl) (fun _ _ _ h => h) (Or.inl ⟨by rfl, ?yb2⟩) hHeld ?_
            case yb2 => (intro w hSw; go_simp <;> with_reducible rfl)
            simp only [Act.put, List.setIfInBounds_toArray, List.set_cons_zero, List.set_cons_succ]
            refine wpAnyH_take (i := 3) (v := ?vb3) (by simp only [List.getElem?_toArray, List.getElem?_cons_succ, List.getElem?_cons_zero]; rfl) (by kernel_rfl) (by kernel_rfl) (by kernel_rfl) (fun _ _ _ h => h) (Or.inl ⟨by rfl, ?yb3⟩) hHeld ?_
            case yb3 => (intro w hSw; go_simp <;> with_reducible rfl)
            simp only [Act.put, List.setIfInBounds_toArray, List.set_cons_zero, List.set_cons_succ]
            refine wpAnyH_take (i := 4) (v := ?vb4) (by simp only [List.getElem?_toArray, List.getElem?_cons_succ, List.getElem?_cons_zero]; rfl) (by kernel_rfl) (by kernel_rfl) (by kernel_rfl) (fun _ _ _ h => h) (Or.inl ⟨by rfl, ?yb4⟩) hHeld ?_
            case yb4 => (intro w hSw; go_simp <;> with_reducible rfl)
            simp only [Act.put, List.setIfInBounds_toArray, List.set_cons_zero, List.set_cons_succ]
            refine wpAnyH_take (i := 5) (v := ?vb5) (by simp only [List.getElem?_toArray, List.getElem?_cons_succ, List.getElem?_cons_zero]; rfl) (by kernel_rfl) (by kernel_rfl) (by kernel_rfl) (fun _ _ _ h => h) (Or.inl ⟨by rfl, ?yb5⟩) hHeld ?_
            case yb5 => (intro w hSw; go_simp <;> with_reducible rfl)
            simp only [Act.put, List.setIfInBounds_toArray, List.set_cons_zero, List.set_cons_succ]
            refine wpAnyH_take (i := 6) (v := ?vb6) (by simp only [List.getElem?_toArray, List.getElem?_cons_succ, List.getElem?_cons_zero]; rfl) (by kernel_rfl) (by kernel_rfl) (by kernel_rfl) (fun _ _ _ h => h) (Or.inl ⟨by rfl, ?yb6⟩) hHeld ?_
            case yb6 => (intro w hSw; go_simp <;> with_reducible rfl)
            simp only [Act.put, List.setIfInBounds_toArray, List.set_cons_zero, List.set_cons_succ]
            refine wpAnyH_take (i := 8) (v := ?vb8) (by simp only [List.getElem?_toArray, List.getElem?_cons_succ, List.getElem?_cons_zero]; rfl) (by kernel_rfl) (by kernel_rfl) (by kernel_rfl) (fun _ _ _ h => h) (Or.inl ⟨by rfl, ?yb8⟩) hHeld ?_
            case yb8 => (intro w hSw; go_simp <;> with_reducible rfl)
            simp only [Act.put, List.setIfInBounds_toArray, List.set_cons_zero, List.set_cons_succ]
            refine wpAnyH_take (i := 9) (v := ?vb9) (by simp only [List.getElem?_toArray, List.getElem?_cons_succ, List.getElem?_cons_zero]; rfl) (by kernel_rfl) (by kernel_rfl) (by kernel_rfl) (fun _ _ _ h => h) (Or.inl ⟨by rfl, ?yb9⟩) hHeld ?_
            case yb9 => (intro w hSw; go_simp <;> with_reducible rfl)
            simp only [Act.put, List.setIfInBounds_toArray, List.set_cons_zero, List.set_cons_succ]
            refine wpAnyH_take (i := 10) (v := ?vb10) (by simp only [List.getElem?_toArray, List.getElem?_cons_succ, List.getElem?_cons_zero]; rfl) (by kernel_rfl) (by kernel_rfl) (by kernel_rfl) (fun _ _ _ h => h) (Or.inl ⟨by rfl, ?yb10⟩) hHeld ?_
            case yb10 => (intro w hSw; go_simp <;> with_reducible rfl)
            simp only [Act.put, List.setIfInBounds_toArray, List.set_cons_zero, List.set_cons_succ]
            refine wpAnyH_take (i := 11) (v := ?vb11) (by simp only [List.getElem?_toArray, List.getElem?_cons_succ, List.getElem?_cons_zero]; rfl) (by kernel_rfl) (by kernel_rfl) (by kernel_rfl) (fun _ _ _ h => h) (Or.inl ⟨by rfl, ?yb11⟩) hHeld ?_
            case yb11 => (intro w hSw; go_simp <;> with_reducible rfl)
            simp only [Act.put, List.setIfInBounds_toArray, List.set_cons_zero, List.set_cons_succ]
            refine wpAnyH_take (i := 12) (v := ?vb12) (by simp only [List.getElem?_toArray, List.getElem?_cons_succ, List.getElem?_cons_zero]; rfl) (by kernel_rfl) (by kernel_rfl) (by kernel_rfl) (fun _ _ _ h => h) (Or.inl ⟨by rfl, ?yb12⟩) hHeld ?_
            case yb12 => (intro w hSw; go_simp <;> with_reducible rfl)
            simp only [Act.put, List.setIfInBounds_toArray, List.set_cons_zero, List.set_cons_succ]
            refine wpAnyH_take (i := 13) (v := ?vb13) (by simp only [List.getElem?_toArray, List.getElem?_cons_succ, List.getElem?_cons_zero]; rfl) (by kernel_rfl) (by kernel_rfl) (by kernel_rfl) (fun _ _ _ h => h) (Or.inl ⟨by rfl, ?yb13⟩) hHeld ?_
            case yb13 => (intro w hSw; go_simp <;> with_reducible rfl)
            simp only [Act.put, List.setIfInBounds_toArray, List.set_cons_zero, List.set_cons_succ]
            refine wpAnyH_take (i := 14) (v := ?vb14) (by simp only [List.getElem?_toArray, List.getElem?_cons_succ, List.getElem?_cons_zero]; rfl) (by kernel_rfl) (by kernel_rfl) (by kernel_rfl) (fun _ _ _ h => h) (Or.inl ⟨by rfl, ?yb14⟩) hHeld ?_
            case yb14 => (intro w hSw; go_simp <;> with_reducible rfl)
            simp only [Act.put, List.setIfInBounds_toArray, List.set_cons_zero, List.set_cons_succ]
            have D4 := Lib.hid (D3.out.below (Below.refl _ w3).drew)
            have DO := Lib.hid (DOO.out w3.drew x D4.out.d.k)
            have C4 : Chg (fun _ => False) w3 w3.drew := Chg.of_below (Below.refl _ w3).drew _
            refine wpAnyH_ready (rs := [7]) (by kernel_rfl) (by simp) ?_
            refine AllReadyH.cons (by simp only [List.getElem?_toArray, List.getElem?_cons_succ, List.getElem?_cons_zero]; rfl) (fun K hK => ?_) ?_
            rotate_left
            · exact AllReadyH.nil
            go_simp
            go_at_call 15
            refine DO.out.mono ?_
            clear DO
            intro e w5 hp
            have C5 : Chg (fun b => b = s.L ∨ (b = s.X ∧ 0 < s.n)) w3 w5 := by
              obtain ⟨_, _, _, _, _, hc, _⟩ := hp
              exact (C4.mono (fun _ _ h => h.elim)).trans hc
            have K5 := KQ.out _ _ C5 (fun b hb h => by rcases h with h | ⟨h, h0⟩; exact hb.1 h; exact hb.2.1 h0 h) (fun b hb h => by rcases h with h | ⟨h, h0⟩; exact hb.1 h; exact hb.2.1 h0 h) C5.size
            obtain ⟨X', A', c', rfl, M5⟩ := D4.out.op (do_n s mk x) hp
            have M5 := Lib.hid M5
            go_wp2_with fail
            refine hK.out _ _ ?_ (fun hHeld => ?_)
            · exact K5
            clear hK K
            have WO := Lib.hid (WNO.out w5 x M5.out.r hxo)
            refine wpAnyH_ready (rs := [15]) (by kernel_rfl) (by simp) ?_
            refine AllReadyH.cons (by simp only [List.getElem?_toArray, List.getElem?_cons_succ, List.getElem?_cons_zero]; rfl) (fun K hK => ?_) ?_
            rotate_left
            · exact AllReadyH.nil
            go_simp
            go_at_call 16
            refine WO.out.mono ?_
            clear WO
            intro e w6 hp6
            have K6 := KQ.out w6 (fun b => (b = s.L ∨ (b = s.X ∧ 0 < s.n)) ∨ (b = y.L ∨ b = y.X ∨ b = y.Y)) ((C5.mono (fun _ _ h => .inl h)).trans (hp6.2.2.mono (fun _ _ h => .inr h))) (fun b hb h => by rcases h with h | h; rcases h with h | ⟨h, h0⟩; exact hb.1 h; exact hb.2.1 h0 h; exact hb.2.2 h) (fun b hb h => by rcases h with h | h; rcases h with h | ⟨h, h0⟩; exact hb.1 h; exact hb.2.1 h0 h; exact hb.2.2 h) ((Nat.le_trans C5.size hp6.2.2.size))
            obtain ⟨he6, D6⟩ := M5.out.op ⟨s.L, X', A', c', rfl⟩ hp6
            subst he6
            have D6 := Lib.hid D6
            go_wp2_with fail
            refine hK.out _ _ ?_ (fun hHeld => ?_)
            · exact K6
            clear hK K
            refine wpAnyH_take (i := 16) (v := ?vb16) (by simp only [List.getElem?_toArray, List.getElem?_cons_succ, List.getElem?_cons_zero]; rfl) (by kernel_rfl) (by kernel_rfl) (by kernel_rfl) (fun _ _ _ h => h) (Or.inl ⟨by rfl, ?yb16⟩) hHeld ?_
            case yb16 => (intro w hSw; go_simp <;> with_reducible rfl)
            simp only [Act.put, List.setIfInBounds_toArray, List.set_cons_zero, List.set_cons_succ]
            refine wpAnyH_take (i := 17) (v := ?vb17) (by simp only [List.getElem?_toArray, List.getElem?_cons_succ, List.getElem?_cons_zero]; rfl) (by kernel_rfl) (by kernel_rfl) (by kernel_rfl) (fun _ _ _ h => h) (Or.inl ⟨by rfl, ?yb17⟩) hHeld ?_
            case yb17 => (intro w hSw; go_simp <;> with_reducible rfl)
            simp only [Act.put, List.setIfInBounds_toArray]
            refine wpAnyH_done (by kernel_rfl) ?_ _
            refine NoPanic.normal ?_
            have NT : Hid (((doK s mk x).1.loc s.L X' A' c').n = k2) := (do_n s mk x).trans hsn
            clear hp hp6 K5 K6 M5 C5 C4 D4 D3 KQ DOO WNO hHeld c0 y0 y1 y2 y3 apB apQ lQ hb3 hxo
            generalize doK s mk x = r at *
            obtain ⟨t, er⟩ := r
            have D6 : Hid (D2 w w6 (t.loc s.L X' A' c') y) := D6
            have NT : Hid ((t.loc s.L X' A' c').n = k2) := NT
            have PC : Calls Try.prog 17 #[.pointer (some ⟨s.L, 0, none⟩)] w6 (QuP w6 (.tuple #[.int .i64 t.ev, .int .i64 (cnt t)])) := by
              have := cnt_any D6.out.d.k
              rw [cnt_loc] at this
              exact this
            have PR := Lib.hid (fun (W : World) (hW : Rk W (t.loc s.L X' A' c') y) => show Calls Try.prog 18 #[.pointer (some ⟨y.L, 0, none⟩)] W (PuP W (.tuple #[.int .i64 t.ev, .int .i64 (cnt t)])) by
              have := rcnt_any hW
              rw [cnt_loc] at this
              exact this)
            have PM := Lib.hid (fun (W : World) (hW : Wk W (t.loc s.L X' A' c')) => show Calls Try.prog 19 #[.pointer (some ⟨s.L, 0, none⟩)] W (QuP W (.bool (mab (t.loc s.L X' A' c')))) from mab_any hW)
            have PN := Lib.hid (fun (W : World) (hW : Rk W (t.loc s.L X' A' c') y) => rmab_any hW)
            generalize mab (t.loc s.L X' A' c') = mb at *
            generalize cnt t = ct at *
            generalize t.ev = ev' at *
            generalize hT : t.loc s.L X' A' c' = T at *
            have HT := Lib.hid (show T.L = s.L by rw [← hT]; rfl)
            clear hT
            simp only
            go_wp2_with fail
            refine PC.mono ?_
            clear PC
            rintro e w7 ⟨rfl, hb7⟩
            have D7 := Lib.hid (D6.out.below hb7)
            have PR1 := PR.out w7 D7.out.r
            clear D6 hb7 PR
            go_wp2_with fail
            refine PR1.mono ?_
            clear PR1
            rintro e w8 ⟨rfl, rfl⟩
            have PM1 := PM.out w7 D7.out.d.k
            clear PM
            go_wp2_with fail
            refine PM1.mono ?_
            clear PM1
            rintro e w9 ⟨rfl, hb9⟩
            have D9 := Lib.hid (D7.out.below hb9)
            have PN1 := PN.out w9 D9.out.r
            clear D7 hb9 PN
            go_wp2_with fail
            refine PN1.mono ?_
            clear PN1
            rintro e w10 ⟨rfl, rfl⟩
            go_wp2_with fail
            go_roundw
            case rel => exact ⟨i + 1, T, y, by go_num, by omega, D9.out, NT.out, HT.out, rfl⟩
            case measure => simp [intOf]; omega
        · have q1 : ¬ (i : Int) < (m : Int) := by omega
          have F := Lib.hid hD.d.b
          clear hD D
          go_wp2_with (go_at_call 10; refine (AW.out _).mono ?_; rintro e w9 ⟨rfl, hb9⟩)
          go_ret
          exact ⟨rfl, bel2 F.out hb9⟩
end Go.Proofs.Ytmhabdpnakbfpaa
