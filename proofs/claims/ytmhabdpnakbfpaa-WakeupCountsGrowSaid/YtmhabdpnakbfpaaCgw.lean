/- WakeupCountsGrow: the walk. -/
import Derived.Test.YtmhabdpnakbfpaaAwk
import Derived.Test.YtmhabdpnakbfpaaOpn
namespace Go.Proofs.Ytmhabdpnakbfpaa
open Go.ChangeShapes Go.WideShapes Go.ChangeAt Go.RowKit Go.Deep Go.Joins

set_option maxRecDepth 20000 in
set_option maxHeartbeats 16000000 in
theorem cgw_any (n : Int) (A : Option Addr) (m cc : Nat) (g : Nat → Cl) (w : World) (_hn : (Lit.int .i64 n).wf = true) (h : Cs w A m g) : Calls Try.prog 8 #[.int .i64 n, .slice A m cc] w (LawPost w) := by
  have AW := Lib.hid (fun W => awake_any W)
  by_cases hm : 40 < m
  · have q : (40 : Int) < (m : Int) := by omega
    clear h
    go_enter Try.func8, Try.ntmps8
    go_wp2_with (go_at_call 10; refine (AW.out _).mono ?_; rintro e w9 ⟨rfl, hb9⟩)
    go_ret
    exact ⟨rfl, hb9⟩
  have q : ¬ (40 : Int) < (m : Int) := by omega
  have MN := mod_any n 5 (by decide) (by decide) w
  have hk5 := (modOf_spec n 5 (by decide) (by decide)).2
  generalize modOf n 5 = k at *
  have NW := new_any k w
  have HC := Lib.hid h
  clear h
  go_enter Try.func8, Try.ntmps8
  go_wp2_with fail
  refine MN.mono ?_
  clear MN
  rintro e w2 ⟨rfl, rfl⟩
  go_wp2_with fail
  refine NW.mono ?_
  clear NW
  rintro e w1 (⟨k', hk', -, L, X, rfl, hW, hL, hX, hB⟩ | ⟨h, -, -⟩)
  case inr => omega
  obtain rfl : k' = k := by omega
  have D := Lib.hid (D1.mk hW hL hX hB)
  clear hW hL hX hB hk'
  go_wp2_with fail
  go_loopw [10, 8, 9] (fun vi vn vl wr => ∃ (i : Nat) (s : WS) (nw : Int), vi = .int .i64 i ∧ vn = .int .u64 nw ∧ vl = .int .i64 s.ev ∧ i ≤ m ∧ D1 w wr s ∧ s.n = k' ∧ s.L = L ∧ 0 ≤ s.ev ∧ s.ev ≤ 6 * (i : Int)) (fun i _ _ _ => m - (intOf i).toNat)
  case atStart => exact ⟨0, s0 k' L X, 0, rfl, rfl, rfl, Nat.zero_le _, D.out, rfl, rfl, Int.le_refl _, by show (0 : Int) ≤ 6 * ((0 : Nat) : Int); omega⟩
  case round =>
    clear D
    obtain ⟨i, s, nw, rfl, rfl, rfl, hi, hD, hsn, rfl, he0, he1⟩ := hrel
    have D := Lib.hid hD
    by_cases hlt : i < m
    · rcases HC.out.row with h0 | ⟨b, off, rfl, hb, hcl⟩
      · omega
      obtain ⟨c0, c1, c2, c3, c4, c5⟩ := hcl i hlt
      have B := Lib.hid hD.b
      have c0 := (B.out.cell (p := ⟨b, off + i * 6, none⟩) (by exact hb)).trans c0
      have c1 := (B.out.cell (p := ⟨b, off + i * 6 + 1, none⟩) (by exact hb)).trans c1
      have c2 := (B.out.cell (p := ⟨b, off + i * 6 + 2, none⟩) (by exact hb)).trans c2
      have c3 := (B.out.cell (p := ⟨b, off + i * 6 + 3, none⟩) (by exact hb)).trans c3
      have c4 := (B.out.cell (p := ⟨b, off + i * 6 + 4, none⟩) (by exact hb)).trans c4
      have c5 := (B.out.cell (p := ⟨b, off + i * 6 + 5, none⟩) (by exact hb)).trans c5
      have hbr : b < wr.heap.size := by have := B.out.size; omega
      have AT := at_any (g i) k' nw s.ev wr (by omega)
      have GR := Lib.hid (fun x => do_grow s (modOf (g i).k 9) x he0 (by omega) (by omega))
      have MK := Lib.hid (fun W => mod_any (g i).k 9 (by decide) (by decide) W)
      have DOO := Lib.hid (fun (W : World) (x : Ar) (hw : Wk W s) => do_any hw (g i).k x)
      unfold Cl.cells Ar.cells at AT
      unfold Ar.cells at DOO
      generalize atR (g i) k' nw s.ev = x at *
      generalize modOf (g i).k 9 = mk at *
      generalize (g i).k = kd at *
      generalize (g i).s = ks at *
      generalize (g i).t = kt at *
      generalize (g i).h = kh at *
      generalize (g i).e = ke at *
      generalize (g i).raw = kr at *
      have GR := Lib.hid (GR.out x)
      have hil : (i : Int) < (m : Int) := by omega
      clear hD hcl
      go_wp2_with fail
      refine AT.mono ?_
      clear AT
      rintro e w2 ⟨rfl, hb2⟩
      have D2 := D.out.below hb2
      have b3 : Below w2.heap.size w2 (w2.alloc (.cells #[.int .i64 x.s, .int .u64 x.t, .int .u64 x.o, .int .i64 x.e] 34)) := bal (Below.refl _ _) _
      have D3 := Lib.hid (D2.below b3)
      have y0 : (w2.alloc (.cells #[.int .i64 x.s, .int .u64 x.t, .int .u64 x.o, .int .i64 x.e] 34)).cell? ⟨w2.heap.size, 0, none⟩ = some (.int .i64 x.s) := (new_c w2 _ 34 0).trans rfl
      have y1 : (w2.alloc (.cells #[.int .i64 x.s, .int .u64 x.t, .int .u64 x.o, .int .i64 x.e] 34)).cell? ⟨w2.heap.size, 1, none⟩ = some (.int .u64 x.t) := (new_c w2 _ 34 1).trans rfl
      have y2 : (w2.alloc (.cells #[.int .i64 x.s, .int .u64 x.t, .int .u64 x.o, .int .i64 x.e] 34)).cell? ⟨w2.heap.size, 2, none⟩ = some (.int .u64 x.o) := (new_c w2 _ 34 2).trans rfl
      have y3 : (w2.alloc (.cells #[.int .i64 x.s, .int .u64 x.t, .int .u64 x.o, .int .i64 x.e] 34)).cell? ⟨w2.heap.size, 3, none⟩ = some (.int .i64 x.e) := (new_c w2 _ 34 3).trans rfl
      have c0 := ((hb2.trans (b3.mono hb2.size)).cell (p := ⟨b, off + i * 6, none⟩) (by exact hbr)).trans c0
      have hQ : w2.heap.size < (w2.alloc (.cells #[.int .i64 x.s, .int .u64 x.t, .int .u64 x.o, .int .i64 x.e] 34)).heap.size := by simp
      have hQL : w2.heap.size ≠ s.L := by have := D2.k.lL; omega
      have hQX : 0 < s.n → w2.heap.size ≠ s.X := fun h0 => by have := D2.k.lX h0; omega
      have hbL : b ≠ s.L := by have := D2.l; omega
      have hbX : b ≠ s.X := by have := D2.x; omega
      clear hb2 b3 D2 c1 c2 c3 c4 c5 D B hbr
      go_upto_region 12 with fail
      generalize w2.alloc (.cells #[.int .i64 x.s, .int .u64 x.t, .int .u64 x.o, .int .i64 x.e] 34) = w3 at *
      generalize w2.heap.size = Q at *
      have bd : Below w3.heap.size w3 w3.drew := (Below.refl _ w3).drew
      have D4 := Lib.hid (D3.out.below bd)
      have DO := Lib.hid (DOO.out w3.drew x D4.out.k)
      have hb3 : b < w3.drew.heap.size := by have := D4.out.b.size; omega
      have hQ3 : Q < w3.drew.heap.size := hQ
      have KQ := Lib.hid (fun (e : Ending) (w5 : World) (hp : OpQ w3.drew s (doK s mk x) e w5) => show w5.cell? ⟨b, off + i * 6, none⟩ = some (.int .i64 kd) ∧ w5.cell? ⟨Q, 0, none⟩ = some (.int .i64 x.s) ∧ w5.cell? ⟨Q, 1, none⟩ = some (.int .u64 x.t) ∧ w5.cell? ⟨Q, 2, none⟩ = some (.int .u64 x.o) ∧ w5.cell? ⟨Q, 3, none⟩ = some (.int .i64 x.e) by
        obtain ⟨_, _, _, _, _, hc, _⟩ := hp
        have eb : ∀ j, w5.cell? ⟨b, j, none⟩ = w3.cell? ⟨b, j, none⟩ := fun j => World.cell?_of_block (hc.block b hb3 (fun e => by rcases e with e | ⟨e, _⟩; exact hbL e; exact hbX e))
        have eq : ∀ j, w5.cell? ⟨Q, j, none⟩ = w3.cell? ⟨Q, j, none⟩ := fun j => World.cell?_of_block (hc.block Q hQ3 (fun e => by rcases e with e | ⟨e, h0⟩; exact hQL e; exact hQX h0 e))
        exact ⟨(eb _).trans c0, (eq _).trans y0, (eq _).trans y1, (eq _).trans y2, (eq _).trans y3⟩)
      have DP := Lib.hid (fun (e : Ending) (w5 : World) (hp : OpQ w3.drew s (doK s mk x) e w5) => D4.out.op hp)
      have SZ := Lib.hid (fun (e : Ending) (w5 : World) (hp : OpQ w3.drew s (doK s mk x) e w5) => show b < w5.heap.size ∧ Q < w5.heap.size by
        obtain ⟨_, _, _, _, _, hc, _⟩ := hp
        have := hc.size
        omega)
      generalize doK s mk x = r at *
      obtain ⟨t, er⟩ := r
      obtain ⟨g1, g2, g3, g4⟩ := GR.out
      simp only at g1 g2 g3 g4
      clear D3 bd DOO GR D4
      refine wp_region_noPanic ?_
      refine wp_region_held_drew (S := fun W => W.cell? ⟨b, off + i * 6, none⟩ = some (.int .i64 kd) ∧ W.cell? ⟨Q, 0, none⟩ = some (.int .i64 x.s) ∧ W.cell? ⟨Q, 1, none⟩ = some (.int .u64 x.t) ∧ W.cell? ⟨Q, 2, none⟩ = some (.int .u64 x.o) ∧ W.cell? ⟨Q, 3, none⟩ = some (.int .i64 x.e)) (by kernel_rfl) (⟨c0, y0, y1, y2, y3⟩) (fun hHeld => ?_)
      refine wpAnyH_take (i := 0) (v := ?va0) (by simp only [List.getElem?_toArray, List.getElem?_cons_zero]; rfl) (by kernel_rfl) (by kernel_rfl) (by kernel_rfl) (fun _ _ _ h => h) (Or.inl ⟨by rfl, ?ya0⟩) hHeld ?_
      case ya0 => (intro w hSw; go_simp <;> with_reducible rfl)
      simp only [Act.put, List.setIfInBounds_toArray, List.set_cons_zero, List.set_cons_succ]
      refine wpAnyH_take (i := 1) (v := ?va1) (by simp only [List.getElem?_toArray, List.getElem?_cons_succ, List.getElem?_cons_zero]; rfl) (by kernel_rfl) (by kernel_rfl) (by kernel_rfl) (fun _ _ _ h => h) (Or.inl ⟨by rfl, ?ya1⟩) hHeld ?_
      case ya1 => (intro w hSw; go_simp <;> with_reducible rfl)
      simp only [Act.put, List.setIfInBounds_toArray, List.set_cons_zero, List.set_cons_succ]
      refine wpAnyH_take (i := 2) (v := ?va2) (by simp only [List.getElem?_toArray, List.getElem?_cons_succ, List.getElem?_cons_zero]; rfl) (by kernel_rfl) (by kernel_rfl) (by kernel_rfl) (fun _ _ _ h => h) (Or.inl ⟨by rfl, ?ya2⟩) hHeld ?_
      case ya2 => (intro w hSw; go_simp <;> with_reducible rfl)
      simp only [Act.put, List.setIfInBounds_toArray, List.set_cons_zero, List.set_cons_succ]
      refine wpAnyH_take (i := 3) (v := ?va3) (by simp only [List.getElem?_toArray, List.getElem?_cons_succ, List.getElem?_cons_zero]; rfl) (by kernel_rfl) (by kernel_rfl) (by kernel_rfl) (fun _ _ _ h => h) (Or.inl ⟨by rfl, ?ya3⟩) hHeld ?_
      case ya3 => (intro w hSw; go_simp <;> with_reducible rfl)
      simp only [Act.put, List.setIfInBounds_toArray, List.set_cons_zero, List.set_cons_succ]
      refine wpAnyH_take (i := 4) (v := ?va4) (by simp only [List.getElem?_toArray, List.getElem?_cons_succ, List.getElem?_cons_zero]; rfl) (by kernel_rfl) (by kernel_rfl) (by kernel_rfl) (fun _ _ _ h => h) (Or.inl ⟨by rfl, ?ya4⟩) hHeld ?_
      case ya4 => (intro w hSw; go_simp <;> with_reducible rfl)
      simp only [Act.put, List.setIfInBounds_toArray, List.set_cons_zero, List.set_cons_succ]
      refine wpAnyH_take (i := 5) (v := ?va5) (by simp only [List.getElem?_toArray, List.getElem?_cons_succ, List.getElem?_cons_zero]; rfl) (by kernel_rfl) (by kernel_rfl) (by kernel_rfl) (fun _ _ _ h => h) (Or.inl ⟨by rfl, ?ya5⟩) hHeld ?_
      case ya5 => (intro w hSw; go_simp <;> with_reducible rfl)
      simp only [Act.put, List.setIfInBounds_toArray, List.set_cons_zero, List.set_cons_succ]
      refine wpAnyH_take (i := 6) (v := ?va6) (by simp only [List.getElem?_toArray, List.getElem?_cons_succ, List.getElem?_cons_zero]; rfl) (by kernel_rfl) (by kernel_rfl) (by kernel_rfl) (fun _ _ _ h => h) (Or.inl ⟨by rfl, ?ya6⟩) hHeld ?_
      case ya6 => (intro w hSw; go_simp <;> with_reducible rfl)
      simp only [Act.put, List.setIfInBounds_toArray, List.set_cons_zero, List.set_cons_succ]
      refine wpAnyH_ready (rs := [7]) (by kernel_rfl) (by simp) ?_
      refine AllReadyH.cons (by simp only [List.getElem?_toArray, List.getElem?_cons_succ, List.getElem?_cons_zero]; rfl) (fun K hK => ?_) ?_
      rotate_left
      · exact AllReadyH.nil
      go_simp
      go_at_call 15
      refine DO.out.mono ?_
      clear DO
      intro e w5 hp
      have KK := KQ.out e w5 hp
      have ZZ := SZ.out e w5 hp
      obtain ⟨X', A', c', rfl, D5⟩ := DP.out e w5 hp
      go_wp2_with fail
      refine hK.out _ _ ?_ (fun hHeld => ?_)
      · exact KK
      clear hK K
      refine wpAnyH_take (i := 8) (v := ?va8) (by simp only [List.getElem?_toArray, List.getElem?_cons_succ, List.getElem?_cons_zero]; rfl) (by kernel_rfl) (by kernel_rfl) (by kernel_rfl) (fun _ _ _ h => h) (Or.inl ⟨by rfl, ?ya8⟩) hHeld ?_
      case ya8 => (intro w hSw; go_simp <;> with_reducible rfl)
      simp only [Act.put, List.setIfInBounds_toArray]
      refine wpAnyH_done (by kernel_rfl) ?_ _
      refine NoPanic.normal ?_
      have D5 : Hid (D1 w w5 (t.loc s.L X' A' c')) := D5
      clear DP KQ SZ hp hHeld c0 y0 y1 y2 y3
      obtain ⟨c0, -, y1, -, -⟩ := KK
      obtain ⟨hb5, hQ5⟩ := ZZ
      have NT : Hid ((t.loc s.L X' A' c').n = k') := g4.trans hsn
      have EV6 : Hid (Value.int .i64 t.ev = .int .i64 (t.loc s.L X' A' c').ev) := rfl
      have PC0 : Hid (Calls Try.prog 17 #[.pointer (some ⟨s.L, 0, none⟩)] w5 (QuP w5 (.tuple #[.int .i64 t.ev, .int .i64 (cnt t)]))) := by
        have := cnt_any D5.out.k
        rw [cnt_loc] at this
        exact this
      generalize hct0 : cnt t = ct0 at *
      have hct : ct0 ≤ k' := by rw [← hct0, ← hsn, ← g4]; exact cntK_le t t.n
      clear hct0
      have hsn2 : (s.n : Int) = (k' : Int) := by omega
      have w1e : wrap64 (s.ev + (k' : Int)) = s.ev + (k' : Int) := IntWalk.wrap64_in _ (by omega)
      have w2e : wrap64 (s.ev + (k' : Int) + 2) = s.ev + (k' : Int) + 2 := IntWalk.wrap64_in _ (by omega)
      have k1 : ¬ t.ev < s.ev := by omega
      have k2 : ¬ s.ev + (k' : Int) + 2 < t.ev := by omega
      have k3 : ¬ (ct0 : Int) < 0 := by omega
      have k4 : ¬ (k' : Int) < (ct0 : Int) := by omega
      by_cases her : er = 0
      · have q0 : (er == 0) = true := by rw [her]; rfl
        have q0' : (er != 0) = false := by rw [her]; rfl
        clear her
        go_wp2_with fail
        refine (MK.out _).mono ?_
        rintro e w7 ⟨rfl, rfl⟩
        by_cases h8 : mk < 8
        · have q8 : (mk : Int) < 8 := by omega
          go_wp2_with fail
          refine PC0.out.mono ?_
          clear PC0
          rintro e w6 ⟨rfl, hb6⟩
          have D6 := Lib.hid (D5.out.below hb6)
          clear hb6 D5
          go_wp2_with fail
          go_roundw
          case rel => exact ⟨i + 1, t.loc s.L X' A' c', x.t, by go_num, rfl, rfl, by omega, D6.out, NT.out, rfl, (by show 0 ≤ t.ev; omega), (by show t.ev ≤ 6 * ((i + 1 : Nat) : Int); omega)⟩
          case measure => simp [intOf]; omega
        · have q8 : ¬ (mk : Int) < 8 := by omega
          go_wp2_with fail
          refine PC0.out.mono ?_
          clear PC0
          rintro e w6 ⟨rfl, hb6⟩
          have D6 := Lib.hid (D5.out.below hb6)
          clear hb6 D5
          go_wp2_with fail
          go_roundw
          case rel => exact ⟨i + 1, t.loc s.L X' A' c', nw, by go_num, rfl, rfl, by omega, D6.out, NT.out, rfl, (by show 0 ≤ t.ev; omega), (by show t.ev ≤ 6 * ((i + 1 : Nat) : Int); omega)⟩
          case measure => simp [intOf]; omega
      · have q0 : (er == 0) = false := beq_eq_false_iff_ne.2 her
        have q0' : (er != 0) = true := by simp [her]
        have q9 : (t.ev != s.ev) = false := by rw [g3 her]; exact bne_self_eq_false _
        clear her
        go_wp2_with fail
        refine PC0.out.mono ?_
        clear PC0
        rintro e w6 ⟨rfl, hb6⟩
        have D6 := Lib.hid (D5.out.below hb6)
        clear hb6 D5
        go_wp2_with fail
        go_roundw
        case rel => exact ⟨i + 1, t.loc s.L X' A' c', nw, by go_num, rfl, rfl, by omega, D6.out, NT.out, rfl, (by show 0 ≤ t.ev; omega), (by show t.ev ≤ 6 * ((i + 1 : Nat) : Int); omega)⟩
        case measure => simp [intOf]; omega
    · have q1 : ¬ (i : Int) < (m : Int) := by omega
      have F := Lib.hid hD.b
      clear hD D
      go_wp2_with (go_at_call 10; refine (AW.out _).mono ?_; rintro e w9 ⟨rfl, hb9⟩)
      go_ret
      exact ⟨rfl, bel2 F.out hb9⟩
end Go.Proofs.Ytmhabdpnakbfpaa
