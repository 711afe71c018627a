/- start: the sources and the reference after some calls. -/
import Derived.Test.YtmhabdpnakbfpaaIvs
namespace Go.Proofs.Ytmhabdpnakbfpaa
open Go.ChangeShapes Go.WideShapes Go.ChangeAt Go.RowKit Go.Deep Go.Joins

def StP (w : World) (k m : Nat) (e : Ending) (w' : World) : Prop := ∃ s y, e = .returned (.tuple #[.pointer (some ⟨s.L, 0, none⟩), .pointer (some ⟨y.L, 0, none⟩), .bool true]) ∧ D2 w w' s y ∧ s.n = k ∧ Iv s m
set_option maxRecDepth 20000 in
set_option maxHeartbeats 16000000 in
theorem sta_any (k : Nat) (A : Option Addr) (m cc : Nat) (g : Nat → Cl) (w : World) (hk : k ≤ 4) (hm : m ≤ 40) (h : Cs w A m g) : Calls Try.prog 21 #[.int .i64 k, .slice A m cc] w (StP w k m) := by
  have HC := Lib.hid h
  clear h
  have NW := new_any k w
  go_enter Try.func21, Try.ntmps21
  go_wp2_with fail
  refine NW.mono ?_
  clear NW
  rintro e w3 (⟨k', hk', hk3, L, X, rfl, hW, hL, hX, hB⟩ | ⟨h, -, -⟩)
  case inr => omega
  obtain rfl : k' = k := by omega
  have D := Lib.hid (D1.mk (w0 := w) hW hL hX hB)
  have NW := rnew_any k' w3
  clear hW hL hX hB hk'
  go_wp2_with fail
  refine NW.mono ?_
  clear NW
  rintro e w4 (⟨k2, hk2, -, y, rfl, hR, hyL, hyX, hyY, hB⟩ | ⟨h, -, -⟩)
  case inr => omega
  obtain rfl : k2 = k' := by omega
  have DD : Hid (D2 w w4 (s0 k2 L X) y) := by
    have hw3 := D.out.b.size
    have lL : L < w3.heap.size := D.out.k.lL
    have lX : 0 < k2 → X < w3.heap.size := D.out.k.lX
    refine ⟨D.out.below hB, hR L X, by omega, by omega, by omega, ?_, fun h0 => ?_⟩
    · show L ≠ y.L ∧ L ≠ y.X ∧ L ≠ y.Y; omega
    · show X ≠ y.L ∧ X ≠ y.X ∧ X ≠ y.Y
      have := lX h0
      omega
  have IV0 : Hid (Iv (s0 k2 L X) 0) := ⟨Int.le_refl _, Int.le_refl _, Int.le_refl _, fun e => by cases e⟩
  clear D hR hyL hyX hyY hB hk2
  generalize hLY : y.L = LY at *
  have HLY := Lib.hid hLY
  clear hLY
  go_wp2_with fail
  go_loopw [11] (fun vi wr => ∃ (i : Nat) (s : WS) (y : Ry), vi = .int .i64 i ∧ i ≤ m ∧ D2 w wr s y ∧ s.n = k2 ∧ Iv s i ∧ s.L = L ∧ y.L = LY) (fun i _ => m - (intOf i).toNat)
  case atStart => exact ⟨0, s0 k2 L X, y, rfl, Nat.zero_le _, DD.out, rfl, IV0.out, rfl, HLY.out⟩
  case round =>
    clear DD HLY IV0
    clear y
    obtain ⟨i, s, y, rfl, hi, hD, hsn, hIv, rfl, rfl⟩ := hrel
    have D := Lib.hid hD
    have IV := Lib.hid hIv
    by_cases hlt : i < m
    · rcases HC.out.row with h0 | ⟨b, off, rfl, hb, hcl⟩
      · omega
      have wf := HC.out.wf i hlt
      obtain ⟨c0, c1, c2, c3, c4, c5⟩ := hcl i hlt
      have B := D.out.d.b
      have hbr : b < wr.heap.size := by have := B.size; omega
      have eb : ∀ j, wr.cell? ⟨b, j, none⟩ = w.cell? ⟨b, j, none⟩ := fun j => B.cell (p := ⟨b, j, none⟩) (by exact hb)
      have c0 := (eb _).trans c0
      have c1 := (eb _).trans c1
      have c2 := (eb _).trans c2
      have c3 := (eb _).trans c3
      have c4 := (eb _).trans c4
      have c5 := (eb _).trans c5
      have hck0 := D.out.r.ck0
      have AT := Lib.hid (fun W => at_any ⟨(g i).k, (g i).s, (g i).t, (g i).h, (g i).e, false⟩ k2 s.ck s.ev W (by omega))
      have hxo := atR_o ⟨(g i).k, (g i).s, (g i).t, (g i).h, (g i).e, false⟩ k2 s.ck s.ev (u64_of_wf wf.2.2.2.1).1
      have IVS := Lib.hid (iv_step hIv (by omega) hck0 (by omega) ⟨(g i).k, (g i).s, (g i).t, (g i).h, (g i).e, false⟩ rfl (u64_of_wf wf.2.2.1).1 (u64_of_wf wf.2.2.2.1).1 k2)
      have DOO := Lib.hid (fun (W : World) (x : Ar) (hw : Wk W s) => do_any hw (g i).k x)
      have WNO := Lib.hid (fun (W : World) (x : Ar) (hw : Rk W s y) (ho : 0 ≤ x.o) => want_any hw (g i).k x ho)
      have b2 : Below wr.heap.size wr (wr.alloc (.cells #[.int .i64 (g i).k, .int .i64 (g i).s, .int .u64 (g i).t, .int .u64 (g i).h, .int .i64 (g i).e, .bool false] 36)) := bal (Below.refl _ _) _
      have D1' := Lib.hid (D.out.below b2)
      have ZC : Hid (∀ j, (wr.alloc (.cells #[.int .i64 (g i).k, .int .i64 (g i).s, .int .u64 (g i).t, .int .u64 (g i).h, .int .i64 (g i).e, .bool false] 36)).cell? ⟨wr.heap.size, j, none⟩ = (#[.int .i64 (g i).k, .int .i64 (g i).s, .int .u64 (g i).t, .int .u64 (g i).h, .int .i64 (g i).e, .bool false] : Array Value)[j]?) := fun j => new_c wr _ 36 j
      have hZ : wr.heap.size < (wr.alloc (.cells #[.int .i64 (g i).k, .int .i64 (g i).s, .int .u64 (g i).t, .int .u64 (g i).h, .int .i64 (g i).e, .bool false] 36)).heap.size := by simp
      have apZ : wr.heap.size ≠ s.L ∧ (0 < s.n → wr.heap.size ≠ s.X) ∧ ¬ (wr.heap.size = y.L ∨ wr.heap.size = y.X ∨ wr.heap.size = y.Y) := by
        have := D.out.d.k.lL
        have := D.out.r.lL
        have := D.out.r.lX
        have := D.out.r.lY
        refine ⟨by omega, fun h0 => by have := D.out.d.k.lX h0; omega, by omega⟩
      clear wf B hcl eb hD hIv IV b2
      unfold Cl.cells Ar.cells at AT
      unfold Ar.cells at DOO WNO
      generalize atR ⟨(g i).k, (g i).s, (g i).t, (g i).h, (g i).e, false⟩ k2 s.ck s.ev = x at *
      simp only at IVS
      generalize modOf (g i).k 9 = mk at *
      generalize (g i).k = kd at *
      generalize (g i).s = ks at *
      generalize (g i).t = kt at *
      generalize (g i).h = kh at *
      generalize (g i).e = ke at *
      generalize (g i).raw = kr at *
      have C7 := Lib.hid D1'.out.r.c7
      have C4 := Lib.hid D1'.out.r.c4
      generalize s.ck = ck at *
      generalize hev : s.ev = ev at *
      clear hev
      have hil : (i : Int) < (m : Int) := by omega
      go_upto_region 10 with fail
      generalize wr.alloc (.cells #[.int .i64 kd, .int .i64 ks, .int .u64 kt, .int .u64 kh, .int .i64 ke, .bool false] 36) = w1 at *
      clear c0 c1 c2 c3 c4 c5 D hbr
      generalize wr.heap.size = Z at *
      have KS : Hid (∀ W, Below w1.heap.size w1 W → W.cell? ⟨Z, 0, none⟩ = some (.int .i64 kd) ∧ W.cell? ⟨Z, 1, none⟩ = some (.int .i64 ks) ∧ W.cell? ⟨Z, 2, none⟩ = some (.int .u64 kt) ∧ W.cell? ⟨Z, 3, none⟩ = some (.int .u64 kh) ∧ W.cell? ⟨Z, 4, none⟩ = some (.int .i64 ke) ∧ W.cell? ⟨Z, 5, none⟩ = some (.bool false) ∧ W.cell? ⟨y.L, 7, none⟩ = some (.int .u64 ck) ∧ W.cell? ⟨y.L, 4, none⟩ = some (.int .i64 ev)) := fun W hW => by
        have e : ∀ j, W.cell? ⟨Z, j, none⟩ = w1.cell? ⟨Z, j, none⟩ := fun j => hW.cell (p := ⟨Z, j, none⟩) (by exact hZ)
        exact ⟨(e _).trans ((ZC.out 0).trans rfl), (e _).trans ((ZC.out 1).trans rfl), (e _).trans ((ZC.out 2).trans rfl), (e _).trans ((ZC.out 3).trans rfl), (e _).trans ((ZC.out 4).trans rfl), (e _).trans ((ZC.out 5).trans rfl), (hW.cell (by exact D1'.out.r.lL)).trans C7.out, (hW.cell (by exact D1'.out.r.lL)).trans C4.out⟩
      go_cut [13] (fun v wx => ∃ Q, v = .pointer (some ⟨Q, 0, none⟩) ∧ Below w1.heap.size w1 wx ∧ w1.heap.size ≤ Q ∧ wx.heap[Q]? = some (.cells #[.int .i64 x.s, .int .u64 x.t, .int .u64 x.o, .int .i64 x.e] 34 (0, 0)))
      case first =>
        refine wp_region_noPanic ?_
        refine wp_region_held_drew (S := fun W => W.cell? ⟨Z, 0, none⟩ = some (.int .i64 kd) ∧ W.cell? ⟨Z, 1, none⟩ = some (.int .i64 ks) ∧ W.cell? ⟨Z, 2, none⟩ = some (.int .u64 kt) ∧ W.cell? ⟨Z, 3, none⟩ = some (.int .u64 kh) ∧ W.cell? ⟨Z, 4, none⟩ = some (.int .i64 ke) ∧ W.cell? ⟨Z, 5, none⟩ = some (.bool false) ∧ W.cell? ⟨y.L, 7, none⟩ = some (.int .u64 ck) ∧ W.cell? ⟨y.L, 4, none⟩ = some (.int .i64 ev)) (by kernel_rfl) (KS.out _ (Below.refl _ w1).drew) (fun hHeld => ?_)
        refine wpAnyH_take (i := 0) (v := ?va0) (by simp only [List.getElem?_toArray, List.getElem?_cons_zero]; rfl) (by kernel_rfl) (by kernel_rfl) (by kernel_rfl) (fun _ _ _ h => h) (Or.inl ⟨by rfl, ?ya0⟩) hHeld ?_
        case ya0 => (intro w hSw; go_simp <;> with_reducible rfl)
        simp only [Act.put, List.setIfInBounds_toArray, List.set_cons_zero, List.set_cons_succ]
        refine wpAnyH_take (i := 1) (v := ?va1) (by simp only [List.getElem?_toArray, List.getElem?_cons_succ, List.getElem?_cons_zero]; rfl) (by kernel_rfl) (by kernel_rfl) (by kernel_rfl) (fun _ _ _ h => h) (Or.inl ⟨by rfl, ?ya1⟩) hHeld ?_
        case ya1 => (intro w hSw; go_simp <;> with_reducible rfl)
        simp only [Act.put, List.setIfInBounds_toArray, List.set_cons_zero, List.set_cons_succ]
        refine wpAnyH_take (i := 2) (v := ?va2) (by simp only [List.getElem?_toArray, List.getElem?_cons_succ, List.getElem?_cons_zero]; rfl) (by kernel_rfl) (by kernel_rfl) (by kernel_rfl) (fun _ _ _ h => h) (Or.inl ⟨by rfl, ?ya2⟩) hHeld ?_
        case ya2 => (intro w hSw; go_simp <;> with_reducible rfl)
        simp only [Act.put, List.setIfInBounds_toArray, List.set_cons_zero, List.set_cons_succ]
        refine wpAnyH_take (i := 3) (v := ?va3) (by simp only [List.getElem?_toArray, List.getElem?_cons_succ, List.getElem?_cons_zero]; rfl) (by kernel_rfl) (by kernel_rfl) (by kernel_rfl) (fun _ _ _ h => h) (Or.inl ⟨by rfl, ?ya3⟩) hHeld ?_
        case ya3 => (intro w hSw; go_simp <;> with_reducible rfl)
        simp only [Act.put, List.setIfInBounds_toArray, List.set_cons_zero, List.set_cons_succ]
        refine wpAnyH_take (i := 4) (v := ?va4) (by simp only [List.getElem?_toArray, List.getElem?_cons_succ, List.getElem?_cons_zero]; rfl) (by kernel_rfl) (by kernel_rfl) (by kernel_rfl) (fun _ _ _ h => h) (Or.inl ⟨by rfl, ?ya4⟩) hHeld ?_
        case ya4 => (intro w hSw; go_simp <;> with_reducible rfl)
        simp only [Act.put, List.setIfInBounds_toArray, List.set_cons_zero, List.set_cons_succ]
        refine wpAnyH_take (i := 5) (v := ?va5) (by simp only [List.getElem?_toArray, List.getElem?_cons_succ, List.getElem?_cons_zero]; rfl) (by kernel_rfl) (by kernel_rfl) (by kernel_rfl) (fun _ _ _ h => h) (Or.inl ⟨by rfl, ?ya5⟩) hHeld ?_
        case ya5 => (intro w hSw; go_simp <;> with_reducible rfl)
        simp only [Act.put, List.setIfInBounds_toArray, List.set_cons_zero, List.set_cons_succ]
        refine wpAnyH_take (i := 6) (v := ?va6) (by simp only [List.getElem?_toArray, List.getElem?_cons_succ, List.getElem?_cons_zero]; rfl) (by kernel_rfl) (by kernel_rfl) (by kernel_rfl) (fun _ _ _ h => h) (Or.inl ⟨by rfl, ?ya6⟩) hHeld ?_
        case ya6 => (intro w hSw; go_simp <;> with_reducible rfl)
        simp only [Act.put, List.setIfInBounds_toArray, List.set_cons_zero, List.set_cons_succ]
        refine wpAnyH_take (i := 7) (v := ?va7) (by simp only [List.getElem?_toArray, List.getElem?_cons_succ, List.getElem?_cons_zero]; rfl) (by kernel_rfl) (by kernel_rfl) (by kernel_rfl) (fun _ _ _ h => h) (Or.inl ⟨by rfl, ?ya7⟩) hHeld ?_
        case ya7 => (intro w hSw; go_simp <;> with_reducible rfl)
        simp only [Act.put, List.setIfInBounds_toArray, List.set_cons_zero, List.set_cons_succ]
        refine wpAnyH_take (i := 8) (v := ?va8) (by simp only [List.getElem?_toArray, List.getElem?_cons_succ, List.getElem?_cons_zero]; rfl) (by kernel_rfl) (by kernel_rfl) (by kernel_rfl) (fun _ _ _ h => h) (Or.inl ⟨by rfl, ?ya8⟩) hHeld ?_
        case ya8 => (intro w hSw; go_simp <;> with_reducible rfl)
        simp only [Act.put, List.setIfInBounds_toArray, List.set_cons_zero, List.set_cons_succ]
        refine wpAnyH_take (i := 9) (v := ?va9) (by simp only [List.getElem?_toArray, List.getElem?_cons_succ, List.getElem?_cons_zero]; rfl) (by kernel_rfl) (by kernel_rfl) (by kernel_rfl) (fun _ _ _ h => h) (Or.inl ⟨by rfl, ?ya9⟩) hHeld ?_
        case ya9 => (intro w hSw; go_simp <;> with_reducible rfl)
        simp only [Act.put, List.setIfInBounds_toArray, List.set_cons_zero, List.set_cons_succ]
        have bd : Below w1.heap.size w1 w1.drew := (Below.refl _ w1).drew
        generalize w1.drew = w0 at *
        refine wpAnyH_ready (rs := [10, 11]) (by kernel_rfl) (by simp) ?_
        refine AllReadyH.cons (by simp only [List.getElem?_toArray, List.getElem?_cons_succ, List.getElem?_cons_zero]; rfl) (fun K hK => ?_) ?_
        · go_simp
          go_at_call 14
          refine (AT.out _).mono ?_
          rintro e w5 ⟨rfl, hb5⟩
          have b5 : Below w1.heap.size w1 w5 := bel2 bd hb5
          go_wp2_with fail
          refine hK.out _ _ ?_ (fun hHeld => ?_)
          · exact KS.out _ b5
          clear hK K
          refine wpAnyH_ready (rs := [11]) (by kernel_rfl) (by simp) ?_
          refine AllReadyH.cons (by simp only [List.getElem?_toArray, List.getElem?_cons_succ, List.getElem?_cons_zero]; rfl) (fun K hK => ?_) ?_
          rotate_left
          · exact AllReadyH.nil
          go_simp
          refine hK.out _ _ ?_ (fun hHeld => ?_)
          · exact KS.out _ (bal b5 _)
          clear hK K
          have hq5 : w1.heap.size ≤ w5.heap.size := b5.size
          refine wpAnyH_ready (rs := [12]) (by kernel_rfl) (by simp) ?_
          refine AllReadyH.cons (by simp only [List.getElem?_toArray, List.getElem?_cons_succ, List.getElem?_cons_zero]; rfl) (fun K hK => ?_) ?_
          rotate_left
          · exact AllReadyH.nil
          go_simp
          refine hK.out _ _ ?_ (fun hHeld => ?_)
          · exact KS.out _ (bal b5 _)
          clear hK K
          refine wpAnyH_done (by kernel_rfl) ?_ _
          refine NoPanic.normal ?_
          go_wp2
          go_meet
          exact ⟨w5.heap.size, rfl, bal b5 _, hq5, heap_alloc_new w5 _⟩
        refine AllReadyH.cons (by simp only [List.getElem?_toArray, List.getElem?_cons_succ, List.getElem?_cons_zero]; rfl) (fun K hK => ?_) ?_
        rotate_left
        · exact AllReadyH.nil
        go_simp
        refine hK.out _ _ ?_ (fun hHeld => ?_)
        · exact KS.out _ (bal bd _)
        clear hK K
        have bA : Below w1.heap.size w1 (w0.alloc (.cells #[.int .i64 0, .int .u64 0, .int .u64 0, .int .i64 0] 34)) := bal bd _
        have hA : (w0.alloc (.cells #[.int .i64 0, .int .u64 0, .int .u64 0, .int .i64 0] 34)).heap[w0.heap.size]? = some (.cells #[.int .i64 0, .int .u64 0, .int .u64 0, .int .i64 0] 34 (0, 0)) := heap_alloc_new w0 _
        have hQw : w1.heap.size ≤ w0.heap.size := bd.size
        generalize w0.alloc (.cells #[.int .i64 0, .int .u64 0, .int .u64 0, .int .i64 0] 34) = wA at *
        generalize w0.heap.size = Q at *
        refine wpAnyH_ready (rs := [10]) (by kernel_rfl) (by simp) ?_
        refine AllReadyH.cons (by simp only [List.getElem?_toArray, List.getElem?_cons_succ, List.getElem?_cons_zero]; rfl) (fun K hK => ?_) ?_
        rotate_left
        · exact AllReadyH.nil
        go_simp
        go_at_call 14
        refine (AT.out _).mono ?_
        rintro e w5 ⟨rfl, hb5⟩
        have b5 : Below w1.heap.size w1 w5 := bel2 bA hb5
        have hR : w5.heap[Q]? = some (.cells #[.int .i64 0, .int .u64 0, .int .u64 0, .int .i64 0] 34 (0, 0)) := b_blk hb5 hA
        go_wp2_with fail
        refine hK.out _ _ ?_ (fun hHeld => ?_)
        · exact KS.out _ b5
        clear hK K
        have r0 := cells_at hR 0
        have r1 := cells_at hR 1
        have r2 := cells_at hR 2
        have r3 := cells_at hR 3
        have g0 := frz hR 0
        have g1 := frz hR 1
        have g2 := frz hR 2
        have g3 := frz hR 3
        have lr := blk_lt hR
        simp only [List.getElem?_toArray, List.getElem?_cons_zero, List.getElem?_cons_succ] at r0 r1 r2 r3
        have HP := r_done hR x.s x.t x.o x.e
        have HB := r_bel (R := Q) b5 hQw x.s x.t x.o x.e
        refine wpAnyH_ready (rs := [12]) (by kernel_rfl) (by simp) ?_
        refine AllReadyH.cons (by simp only [List.getElem?_toArray, List.getElem?_cons_succ, List.getElem?_cons_zero]; rfl) (fun K hK => ?_) ?_
        rotate_left
        · exact AllReadyH.nil
        go_simp
        refine hK.out _ _ ?_ (fun hHeld => ?_)
        · exact KS.out _ HB
        clear hK K
        refine wpAnyH_done (by kernel_rfl) ?_ _
        refine NoPanic.normal ?_
        clear r0 r1 r2 r3 g0 g1 g2 g3
        go_wp2
        go_meet
        exact ⟨Q, rfl, HB, hQw, HP⟩
      case rest =>
        obtain ⟨Q, rfl, hbq, hQ, hQc⟩ := hcut
        generalize wc = w3 at *
        have D3 := Lib.hid (D1'.out.below hbq)
        have c0 := (KS.out w3 hbq).1
        have y0 := (cells_at hQc 0).trans rfl
        have y1 := (cells_at hQc 1).trans rfl
        have y2 := (cells_at hQc 2).trans rfl
        have y3 := (cells_at hQc 3).trans rfl
        have lQ := blk_lt hQc
        have lZ : Z < w3.heap.size := by have := hbq.size; omega
        have apQ : Q ≠ s.L ∧ (0 < s.n → Q ≠ s.X) ∧ ¬ (Q = y.L ∨ Q = y.X ∨ Q = y.Y) := by
          have := D1'.out.d.k.lL
          have := D1'.out.r.lL
          have := D1'.out.r.lX
          have := D1'.out.r.lY
          refine ⟨by omega, fun h0 => by have := D1'.out.d.k.lX h0; omega, by omega⟩
        have DO := Lib.hid (DOO.out w3 x D3.out.d.k)
        clear KS AT hQc hbq hQ D1' ZC C7 C4 hZ DOO
        go_wp2_with fail
        refine DO.out.mono ?_
        clear DO
        intro e w5 hp
        have K5 : w5.cell? ⟨Z, 0, none⟩ = some (.int .i64 kd) ∧ w5.cell? ⟨Q, 0, none⟩ = some (.int .i64 x.s) ∧ w5.cell? ⟨Q, 1, none⟩ = some (.int .u64 x.t) ∧ w5.cell? ⟨Q, 2, none⟩ = some (.int .u64 x.o) ∧ w5.cell? ⟨Q, 3, none⟩ = some (.int .i64 x.e) ∧ Z < w5.heap.size ∧ Q < w5.heap.size := by
          obtain ⟨_, _, _, _, _, hc, _⟩ := hp
          have ez : ∀ j, w5.cell? ⟨Z, j, none⟩ = w3.cell? ⟨Z, j, none⟩ := fun j => World.cell?_of_block (hc.block Z lZ (fun e => by rcases e with e | ⟨e, h0⟩; exact apZ.1 e; exact apZ.2.1 h0 e))
          have eq : ∀ j, w5.cell? ⟨Q, j, none⟩ = w3.cell? ⟨Q, j, none⟩ := fun j => World.cell?_of_block (hc.block Q lQ (fun e => by rcases e with e | ⟨e, h0⟩; exact apQ.1 e; exact apQ.2.1 h0 e))
          have := hc.size
          exact ⟨(ez _).trans c0, (eq _).trans y0, (eq _).trans y1, (eq _).trans y2, (eq _).trans y3, by omega, by omega⟩
        obtain ⟨X', A', c', rfl, M5⟩ := D3.out.op (do_n s mk x) hp
        have M5 := Lib.hid M5
        have WO := Lib.hid (WNO.out w5 x M5.out.r hxo)
        clear hp D3 c0 y0 y1 y2 y3 lQ lZ WNO
        obtain ⟨c0, y0, y1, y2, y3, lZ, lQ⟩ := K5
        have NT : Hid (((doK s mk x).1.loc s.L X' A' c').n = k2) := (do_n s mk x).trans hsn
        have IV2 := Lib.hid (IVS.out.loc s.L X' A' c')
        clear IVS
        generalize hr : doK s mk x = r at *
        have HR := Lib.hid hr
        clear hr
        go_wp2_with fail
        refine WO.out.mono ?_
        clear WO
        intro e w6 hp6
        obtain ⟨he6, D6⟩ := M5.out.op ⟨s.L, X', A', c', rfl⟩ hp6
        subst he6
        have D6 := Lib.hid D6
        generalize hT : r.1.loc s.L X' A' c' = T at *
        have HT := Lib.hid (show T.L = s.L by rw [← hT]; rfl)
        clear hT hp6 M5 c0 y0 y1 y2 y3 lZ lQ
        go_wp2_with fail
        go_roundw
        case rel => exact ⟨i + 1, T, y, by go_num, by omega, D6.out, NT.out, IV2.out, HT.out, rfl⟩
        case measure => simp [intOf]; omega
    · have q1 : ¬ (i : Int) < (m : Int) := by omega
      have him : i = m := by omega
      subst him
      have F : Hid (StP w k2 i (.returned (.tuple #[.pointer (some ⟨s.L, 0, none⟩), .pointer (some ⟨y.L, 0, none⟩), .bool true])) wr) := ⟨s, y, rfl, hD, hsn, hIv⟩
      clear hD hIv D IV
      go_wp2
      refine bodyPost_ret (results_tmp3 rfl _ _ _) rfl ?_
      exact F.out
end Go.Proofs.Ytmhabdpnakbfpaa
