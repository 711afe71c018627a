/- Some: the walk. -/
import Derived.Test.YtidegjinfacjjaaSom
import Derived.Deep.CutBlock
namespace Go.Proofs.Ytidegjinfacjjaa
open Go.ChangeShapes Go.WideShapes Go.ChangeAt Go.RowKit Go.Deep Go.Joins

def zeros (n : Nat) : Array Value := madeCells #[.int .i64 0, .int .i64 0] (n * 2)
theorem mk31 (n : Nat) (hn : n ≤ 32) (w : World) : (Instr.makeSlice 22 (.int .i64 (n : Int)) (.int .i64 (n : Int))).run Try.prog w = .ok (.slice (some ⟨w.heap.size, 0, none⟩) n n) (w.alloc (.cells (zeros n) 31)) := by
  obtain ⟨i, hi, hzz⟩ := Option.map_eq_some_iff.1 info31
  simp only [Prod.mk.injEq] at hzz
  obtain ⟨hz, hs, hb⟩ := hzz
  have hr := run_make (P := Try.prog) w 22 31 i _ Try.underlying22 hi hz .i64 .i64 n n (by omega) (Int.le_refl _) (by rw [hb]; omega) (by omega)
  simp only [Int.toNat_natCast, hs] at hr
  exact hr
theorem zeros_at (n j : Nat) (h : j < n * 2) : (zeros n)[j]? = some (dV (fun _ => ⟨0, 0⟩) j) := by
  unfold zeros dV
  rcases (show j % 2 = 0 ∨ j % 2 = 1 by omega) with e | e <;> simp [madeCells, h, e]
theorem sy_new (w : World) (n : Nat) (amb : Int) (K : Nat → Lk) : Sy w (((w.alloc (.cells #[.slice none 0 0, .slice none 0 0, .int .i64 0] 27)).alloc (.cells (zeros n) 31)).alloc (.cells #[.slice (some ⟨w.heap.size + 1, 0, none⟩) n n, .slice none 0 0, .int .i64 amb] 27)) w.heap.size (w.heap.size + 1) (w.heap.size + 2) n 0 (fun _ => ⟨0, 0⟩) K amb (.slice none 0 0) := by
  have s1 : (w.alloc (.cells #[.slice none 0 0, .slice none 0 0, .int .i64 0] 27)).heap.size = w.heap.size + 1 := by simp
  have b1 : Below w.heap.size w (w.alloc (.cells #[.slice none 0 0, .slice none 0 0, .int .i64 0] 27)) := bal (Below.refl _ _) _
  have k1 := heap_alloc_new w (.cells #[.slice none 0 0, .slice none 0 0, .int .i64 0] 27)
  have c2 := fun j => new_c (w.alloc (.cells #[.slice none 0 0, .slice none 0 0, .int .i64 0] 27)) (zeros n) 31 j
  have f2 := fun j => frozen_of_row _ _ j _ _ (heap_alloc_new (w.alloc (.cells #[.slice none 0 0, .slice none 0 0, .int .i64 0] 27)) (.cells (zeros n) 31))
  have b2 : Below (w.alloc (.cells #[.slice none 0 0, .slice none 0 0, .int .i64 0] 27)).heap.size (w.alloc (.cells #[.slice none 0 0, .slice none 0 0, .int .i64 0] 27)) ((w.alloc (.cells #[.slice none 0 0, .slice none 0 0, .int .i64 0] 27)).alloc (.cells (zeros n) 31)) := bal (Below.refl _ _) _
  have s2 : ((w.alloc (.cells #[.slice none 0 0, .slice none 0 0, .int .i64 0] 27)).alloc (.cells (zeros n) 31)).heap.size = w.heap.size + 2 := by simp
  have k2 := b_blk b2 k1
  rw [s1] at c2 f2
  have B2 := bel2 b1 b2
  generalize (w.alloc (.cells #[.slice none 0 0, .slice none 0 0, .int .i64 0] 27)).alloc (.cells (zeros n) 31) = w2 at *
  have b3 : Below w2.heap.size w2 (w2.alloc (.cells #[.slice (some ⟨w.heap.size + 1, 0, none⟩) n n, .slice none 0 0, .int .i64 amb] 27)) := bal (Below.refl _ _) _
  have c3 := fun j => new_c w2 #[.slice (some ⟨w.heap.size + 1, 0, none⟩) n n, .slice none 0 0, .int .i64 amb] 27 j
  have f3 := fun j => frozen_of_row _ _ j _ _ (heap_alloc_new w2 (.cells #[.slice (some ⟨w.heap.size + 1, 0, none⟩) n n, .slice none 0 0, .int .i64 amb] 27))
  rw [s2] at c3 f3
  exact ⟨c3 0, c3 1, c3 2, f3, fun j => (b3.frozen (p := ⟨_, j, none⟩) (by show w.heap.size + 1 < _; omega)).trans (f2 j), by simp; omega, fun j hj => (b3.cell (p := ⟨_, j, none⟩) (by show w.heap.size + 1 < _; omega)).trans ((c2 j).trans (zeros_at n j hj)), ⟨rfl, .inl ⟨rfl, rfl⟩⟩, bel2 B2 b3, Nat.le_refl _, by omega, by omega, b_blk b3 k2⟩
def L2P (w wr : World) (R Y X n j : Nat) (amb : Int) : Prop := ∃ m K D v, m ≤ j ∧ Sy w wr R Y X n m D K amb v ∧ Gd n m D K
def ok1 (x : Dm) : Prop := 1 ≤ x.a ∧ x.a ≤ 6 ∧ x.a ≤ x.c ∧ x.c ≤ x.a + 7
theorem gd0 {n : Nat} {D : Nat → Dm} (K : Nat → Lk) (h : ∀ j, j < n → ok1 (D j)) : Gd n 0 D K := ⟨fun j hj => by have := h j hj; unfold ok1 at this; show _ ∧ _ ∧ (D j).a ≤ _ ∧ _; omega, fun l hl => by omega, fun l l2 h1 h2 => by omega⟩
set_option maxRecDepth 20000 in
set_option maxHeartbeats 16000000 in
theorem som_any (A : Option Addr) (l c : Nat) (D0 : Nat → Dm) (B : Option Addr) (lk c2 : Nat) (K0 : Nat → Lk) (am : Int) (w : World) (hA : Fl w A 2 l (dV D0)) (hB : Fl w B 3 lk (lV K0)) : Calls Try.prog 12 #[.slice A l c, .slice B lk c2, .int .i64 am] w (SoP w) := by
  have HA := Lib.hid hA
  have HB := Lib.hid hB
  have hl := hA.len
  have hl2 := hB.len
  clear hA hB
  obtain ⟨n, hn⟩ : ∃ n : Nat, ((l = 0 ∧ n = 1) ∨ (1 ≤ l ∧ l < 5 ∧ n = l) ∨ (5 ≤ l ∧ n = 5)) := by
    rcases (show l = 0 ∨ (1 ≤ l ∧ l < 5) ∨ 5 ≤ l by omega) with h | h | h
    · exact ⟨1, .inl ⟨h, rfl⟩⟩
    · exact ⟨l, .inr (.inl ⟨h.1, h.2, rfl⟩)⟩
    · exact ⟨5, .inr (.inr ⟨h, rfl⟩)⟩
  have HN := Lib.hid hn
  have n1 : 1 ≤ n := by omega
  have n5 : n ≤ 5 := by omega
  have PA3 := (pl_spec am 201 (by omega) (by omega)).2
  have PAH := Lib.hid (pl_spec am 201 (by omega) (by omega)).1
  obtain ⟨amb, hamb⟩ : ∃ amb : Int, amb = (pl am 201 : Nat) - 100 := ⟨_, rfl⟩
  have PBH := Lib.hid (both (x := (pl am 201 : Nat) - 100) (y := amb) (by omega) hamb.symm)
  have ab1 : -100 ≤ amb := by omega
  have ab2 : amb ≤ 100 := by omega
  have hmk := mk31 n (by omega)
  have SY := Lib.hid (sy_new w n amb K0)
  generalize pl am 201 = pa at *
  clear hn hamb PA3
  go_enter Try.func12, Try.ntmps12
  go_upto_region 1 with fail
  go_cut [7] (fun v wx => v = .int .i64 n ∧ wx = w.alloc (.cells #[.slice none 0 0, .slice none 0 0, .int .i64 0] 27))
  case first =>
    clear PAH PBH hmk
    have hw : (l = 0 ∧ n = 1) ∨ (l = 1 ∧ n = 1) ∨ (l = 5 ∧ n = 5) ∨ (2 ≤ l ∧ l < 5 ∧ n = l) ∨ (6 ≤ l ∧ n = 5) := by have := HN.out; omega
    rcases hw with ⟨h1, h2⟩ | ⟨h1, h2⟩ | ⟨h1, h2⟩ | ⟨h1, h2, h3⟩ | ⟨h1, h2⟩
    · subst h1 h2
      go_wp2
      go_meet
      exact ⟨rfl, rfl⟩
    · subst h1 h2
      go_wp2
      go_meet
      exact ⟨rfl, rfl⟩
    · subst h1 h2
      go_wp2
      go_meet
      exact ⟨rfl, rfl⟩
    · have h3' : (l : Int) < 5 := by omega
      have h4' : (1 : Int) < (l : Int) := by omega
      subst h3
      go_wp2
      go_meet
      exact ⟨rfl, rfl⟩
    · have h3' : (5 : Int) < (l : Int) := by omega
      subst h2
      go_wp2
      go_meet
      exact ⟨rfl, rfl⟩
  case rest =>
    obtain ⟨rfl, rfl⟩ := hcut
    have PA2 : wrap64 ((IntKind.u64.wrap am).tmod 201) = (pa : Int) := PAH.out.2
    have PB2 : wrap64 ((pa : Int) - 100) = amb := PBH.out.2
    clear PAH PBH
    go_wp2_with fail
    clear hmk PA2 PB2
    generalize ((w.alloc (.cells #[.slice none 0 0, .slice none 0 0, .int .i64 0] 27)).alloc (.cells (zeros n) 31)).alloc (.cells #[.slice (some ⟨w.heap.size + 1, 0, none⟩) n n, .slice none 0 0, .int .i64 amb] 27) = w1 at *
    generalize hX : w.heap.size + 2 = X at *
    generalize hY : w.heap.size + 1 = Y at *
    generalize hRR : w.heap.size = R at *
    have HR := Lib.hid hRR
    clear hX hY hRR
    go_loopw [9] (fun vi wr => ∃ (i : Nat) (D : Nat → Dm), vi = .int .i64 i ∧ i ≤ n ∧ Sy w wr R Y X n 0 D K0 amb (.slice none 0 0) ∧ ∀ j, j < i → ok1 (D j)) (fun vi _ => n - (intOf vi).toNat)
    case atStart => exact ⟨0, _, rfl, Nat.zero_le _, SY.out, fun j hj => by omega⟩
    case round =>
      clear SY
      obtain ⟨i, D, rfl, hi, hS, ho⟩ := hrel
      have S := Lib.hid hS
      have HO := Lib.hid ho
      by_cases hlt : i < n
      · have x0 := hS.x0
        have y0 := hS.dm (i * 2) (by omega)
        have y1 := hS.dm (i * 2 + 1) (by omega)
        have fY0 := hS.fY (i * 2)
        have fY1 := hS.fY (i * 2 + 1)
        have YX := hS.YX
        have lX := hS.lX
        have lY : Y < wr.heap.size := by omega
        rw [dV0] at y0
        rw [dV1] at y1
        have S1 := Lib.hid ((hS.setC i hlt 1).setA i hlt 1)
        clear hS S ho
        by_cases hd : i < l
        · obtain ⟨b, off, rfl, -⟩ := HA.out.addr (show 0 < l by omega)
          go_upto_region 8 with fail
          generalize (wr.setCell ⟨Y, i * 2, none⟩ (.int .i64 1)).setCell ⟨Y, i * 2 + 1, none⟩ (.int .i64 1) = w2 at *
          clear x0 y0 y1 fY0 fY1 lX lY
          obtain ⟨hb, d0, d1⟩ := (HA.out.below S1.out.bel (Nat.le_refl _)).dat' rfl hd
          have x0 := S1.out.x0
          have y1 := S1.out.dm (i * 2 + 1) (by omega)
          have fY1 := S1.out.fY (i * 2 + 1)
          have lX := S1.out.lX
          have lY : Y < w2.heap.size := by omega
          rw [dV1] at y1
          have P3 := (pl_spec (D0 i).a 6 (by omega) (by omega)).2
          have PH := Lib.hid (pl_spec (D0 i).a 6 (by omega) (by omega)).1
          have Q3 := (pl_spec (D0 i).c 8 (by omega) (by omega)).2
          have QH := Lib.hid (pl_spec (D0 i).c 8 (by omega) (by omega)).1
          generalize hpa : pl (D0 i).a 6 = p6 at *
          generalize hpc : pl (D0 i).c 8 = p8 at *
          clear hpa hpc
          obtain ⟨aa, haa⟩ : ∃ aa : Int, aa = 1 + (p6 : Int) := ⟨_, rfl⟩
          obtain ⟨cc, hcc⟩ : ∃ cc : Int, cc = aa + (p8 : Int) := ⟨_, rfl⟩
          have WH1 := Lib.hid (both (x := 1 + (p6 : Int)) (y := aa) (by omega) haa.symm)
          have WH2 := Lib.hid (both (x := aa + (p8 : Int)) (y := cc) (by omega) hcc.symm)
          have OK : Hid (∀ j, j < i + 1 → ok1 (putC (putA (putA (putC D i 1) i 1) i aa) i cc j)) := fun j hj => by
            by_cases e : j = i
            · subst e
              have : putC (putA (putA (putC D j 1) j 1) j aa) j cc j = ⟨cc, aa⟩ := by simp [putC, putA]
              rw [this]
              show 1 ≤ aa ∧ aa ≤ 6 ∧ aa ≤ cc ∧ cc ≤ aa + 7
              omega
            · have : putC (putA (putA (putC D i 1) i 1) i aa) i cc j = D j := by simp [putC, putA, e]
              rw [this]
              exact HO.out j (by omega)
          have S2 := Lib.hid (((S1.out.setA i hlt aa)).below (Below.refl _ _).drew)
          clear haa hcc P3 Q3 HO
          generalize (D0 i).a = ra at *
          generalize hrc : (D0 i).c = rc at *
          have D0c := Lib.hid d0
          have P1 : IntKind.i64.wrap ((IntKind.u64.wrap ra).tmod 6) = (p6 : Int) := PH.out.1
          have P2 : wrap64 ((IntKind.u64.wrap ra).tmod 6) = (p6 : Int) := PH.out.2
          obtain ⟨W1, W1w⟩ := WH1.out
          clear PH WH1
          go_still_tail 14, (by kernel_rfl)
          go_upto_region 9 with fail
          generalize (w2.setCell ⟨Y, i * 2 + 1, none⟩ (.int .i64 aa)).drew = w3 at *
          clear x0 y1 fY1 lX lY d0 d1 S1 P1 P2 W1 W1w hb D0c
          clear w2
          obtain ⟨hb, d0, d1⟩ := (HA.out.below S2.out.bel (Nat.le_refl _)).dat' rfl hd
          have x0 := S2.out.x0
          have y0 := S2.out.dm (i * 2) (by omega)
          have y1 := S2.out.dm (i * 2 + 1) (by omega)
          have fY0 := S2.out.fY (i * 2)
          have lX := S2.out.lX
          have lY : Y < w3.heap.size := by omega
          rw [dV0] at y0
          rw [dV1, show (putA (putA (putC D i 1) i 1) i aa i).a = aa by simp [putA]] at y1
          have S3 := Lib.hid ((S2.out.setC i hlt cc).below (Below.refl _ _).drew)
          rw [hrc] at d0
          clear S2 d1
          obtain ⟨W2, W2w⟩ := WH2.out
          have Q1 : IntKind.i64.wrap ((IntKind.u64.wrap rc).tmod 8) = (p8 : Int) := QH.out.1
          have Q2 : wrap64 ((IntKind.u64.wrap rc).tmod 8) = (p8 : Int) := QH.out.2
          clear QH WH2 hrc
          go_still_tail 20, (by kernel_rfl)
          go_wp2
          go_roundw
          case rel => exact ⟨i + 1, _, by go_num, by omega, S3.out, OK.out⟩
          case measure => simp [intOf]; omega
        · have OK : Hid (∀ j, j < i + 1 → ok1 (putA (putC D i 1) i 1 j)) := fun j hj => by
            by_cases e : j = i
            · subst e
              have : putA (putC D j 1) j 1 j = ⟨1, 1⟩ := by simp [putC, putA]
              rw [this]
              exact ⟨Int.le_refl _, by decide, Int.le_refl _, by decide⟩
            · have : putA (putC D i 1) i 1 j = D j := by simp [putC, putA, e]
              rw [this]
              exact HO.out j (by omega)
          have hdn : ¬ (i : Int) < (l : Int) := by omega
          clear HO
          go_wp2
          go_roundw
          case rel => exact ⟨i + 1, _, by go_num, by omega, S1.out, OK.out⟩
          case measure => simp [intOf]; omega
      · obtain rfl : i = n := by omega
        have hq : ¬ (i : Int) < (i : Int) := by omega
        have G0 := Lib.hid (gd0 (n := i) K0 HO.out)
        clear ho HO
        have S0 := Lib.hid hS
        clear hS S
        go_wp2_with fail
        generalize wr = w1 at *
        go_loopw [10] (fun vi wr => ∃ j : Nat, vi = .int .i64 j ∧ j ≤ lk ∧ j ≤ 12 ∧ L2P w wr R Y X i j amb) (fun vi _ => 12 - (intOf vi).toNat)
        case atStart => exact ⟨0, rfl, Nat.zero_le _, by omega, 0, K0, D, _, Nat.le_refl _, S0.out, G0.out⟩
        case round =>
          clear S0 G0
          clear D
          obtain ⟨j, rfl, hj, hj2, m, K, D, v, hmj, hS, hG⟩ := hrel
          obtain ⟨LA, lc, rfl, hF, hlc, -, hab, hnn, -⟩ := fl_of_own hS.own (by omega)
          have S := Lib.hid hS
          have GD := Lib.hid hG
          have HF := Lib.hid hF
          have HAB := Lib.hid hab
          have HNN := Lib.hid hnn
          have YX := hS.YX
          have RY := hS.RY
          have wR := hS.wR
          have lX := hS.lX
          have x0 := hS.x0
          have x1 := hS.x1
          by_cases hlt : j < lk ∧ j < 12
          · obtain ⟨h1, h2⟩ := hlt
            obtain ⟨lb, lo, rfl, -⟩ := HB.out.addr (show 0 < lk by omega)
            obtain ⟨hb, r0, r1, r2⟩ := (HB.out.below hS.bel (Nat.le_refl _)).lat' rfl h1
            have hbw := hb
            have M1 := Lib.hid (fun W => mod_any (K0 j).a i n1 (by omega) W)
            have M2 := Lib.hid (fun W => mod_any (K0 j).b i n1 (by omega) W)
            have hp := (modOf_spec (K0 j).a i n1 (by omega)).2
            have hq := (modOf_spec (K0 j).b i n1 (by omega)).2
            have P3 := (pl_spec (K0 j).c 5 (by omega) (by omega)).2
            have PH := Lib.hid (pl_spec (K0 j).c 5 (by omega) (by omega)).1
            generalize modOf (K0 j).a i = p at *
            generalize modOf (K0 j).b i = q at *
            generalize pl (K0 j).c 5 = p5 at *
            generalize (K0 j).a = ra at *
            generalize (K0 j).b = rb at *
            generalize (K0 j).c = rc at *
            obtain ⟨cc, hcc⟩ : ∃ cc : Int, cc = 1 + (p5 : Int) := ⟨_, rfl⟩
            have WH1 := Lib.hid (both (x := 1 + (p5 : Int)) (y := cc) (by omega) hcc.symm)
            have cc1 : 1 ≤ cc ∧ cc ≤ 5 := by omega
            have CC1 := Lib.hid cc1
            clear hcc P3 cc1 hS hG hF hab hnn
            have P1 : IntKind.i64.wrap ((IntKind.u64.wrap rc).tmod 5) = (p5 : Int) := PH.out.1
            have P2 : wrap64 ((IntKind.u64.wrap rc).tmod 5) = (p5 : Int) := PH.out.2
            obtain ⟨W1, W1w⟩ := WH1.out
            clear PH WH1
            go_upto_region 13 with fail
            have S2 := Lib.hid (S.out.below (Below.refl _ wr).drew)
            have HAB : Hid (∀ a, LA = some a → X + 1 ≤ a.block ∧ a.block < wr.drew.heap.size) := HAB
            have F2 := Lib.hid (HF.out.below (Below.refl wr.heap.size wr).drew (Nat.le_refl _))
            go_cut [11] (fun v wx => v = .pointer (some ⟨wr.drew.heap.size, 0, none⟩) ∧ wx = wr.drew.alloc (.cells #[.int .i64 (p : Nat), .int .i64 (q : Nat), .int .i64 cc] 34))
            case first =>
              refine wp_region_noPanic ?_
              refine wp_region_held_drew (S := fun W => W.cell? ⟨lb, lo + j * 3, none⟩ = some (.int .i64 ra) ∧ W.cell? ⟨lb, lo + j * 3 + 1, none⟩ = some (.int .i64 rb) ∧ W.cell? ⟨lb, lo + j * 3 + 2, none⟩ = some (.int .i64 rc)) (by kernel_rfl) (⟨r0, r1, r2⟩) (fun hHeld => ?_)
              refine wpAnyH_take (i := 0) (v := ?vm0) (by simp only [List.getElem?_toArray, List.getElem?_cons_zero]; rfl) (by kernel_rfl) (by kernel_rfl) (by kernel_rfl) (fun _ _ _ h => h) (Or.inl ⟨by rfl, ?ym0⟩) hHeld ?_
              case ym0 => (intro w hSw; go_simp <;> with_reducible rfl)
              simp only [Act.put, List.setIfInBounds_toArray, List.set_cons_zero, List.set_cons_succ]
              refine wpAnyH_take (i := 1) (v := ?vm1) (by simp only [List.getElem?_toArray, List.getElem?_cons_succ, List.getElem?_cons_zero]; rfl) (by kernel_rfl) (by kernel_rfl) (by kernel_rfl) (fun _ _ _ h => h) (Or.inl ⟨by rfl, ?ym1⟩) hHeld ?_
              case ym1 => (intro w hSw; go_simp <;> with_reducible rfl)
              simp only [Act.put, List.setIfInBounds_toArray, List.set_cons_zero, List.set_cons_succ]
              refine wpAnyH_take (i := 2) (v := ?vm2) (by simp only [List.getElem?_toArray, List.getElem?_cons_succ, List.getElem?_cons_zero]; rfl) (by kernel_rfl) (by kernel_rfl) (by kernel_rfl) (fun _ _ _ h => h) (Or.inl ⟨by rfl, ?ym2⟩) hHeld ?_
              case ym2 => (intro w hSw; go_simp <;> with_reducible rfl)
              simp only [Act.put, List.setIfInBounds_toArray, List.set_cons_zero, List.set_cons_succ]
              refine wpAnyH_take (i := 3) (v := ?vm3) (by simp only [List.getElem?_toArray, List.getElem?_cons_succ, List.getElem?_cons_zero]; rfl) (by kernel_rfl) (by kernel_rfl) (by kernel_rfl) (fun _ _ _ h => h) (Or.inl ⟨by rfl, ?ym3⟩) hHeld ?_
              case ym3 => (intro w hSw; go_simp <;> with_reducible rfl)
              simp only [Act.put, List.setIfInBounds_toArray, List.set_cons_zero, List.set_cons_succ]
              refine wpAnyH_take (i := 4) (v := ?vm4) (by simp only [List.getElem?_toArray, List.getElem?_cons_succ, List.getElem?_cons_zero]; rfl) (by kernel_rfl) (by kernel_rfl) (by kernel_rfl) (fun _ _ _ h => h) (Or.inl ⟨by rfl, ?ym4⟩) hHeld ?_
              case ym4 => (intro w hSw; go_simp <;> with_reducible rfl)
              simp only [Act.put, List.setIfInBounds_toArray, List.set_cons_zero, List.set_cons_succ]
              refine wpAnyH_take (i := 5) (v := ?vm5) (by simp only [List.getElem?_toArray, List.getElem?_cons_succ, List.getElem?_cons_zero]; rfl) (by kernel_rfl) (by kernel_rfl) (by kernel_rfl) (fun _ _ _ h => h) (Or.inl ⟨by rfl, ?ym5⟩) hHeld ?_
              case ym5 => (intro w hSw; go_simp <;> with_reducible rfl)
              simp only [Act.put, List.setIfInBounds_toArray, List.set_cons_zero, List.set_cons_succ]
              refine wpAnyH_call (i := 6) (v := .int .i64 (p : Nat)) (f := 13) (args := #[.int .i64 ra, .int .i64 i]) (by simp only [List.getElem?_toArray, List.getElem?_cons_succ, List.getElem?_cons_zero]; rfl) (by kernel_rfl) (by kernel_rfl) (by kernel_rfl) (fun _ _ _ h => h) (by rfl) ?ym6 ?cm6 hHeld ?_
              case ym6 => (intro w hSw; go_simp <;> (first | with_reducible rfl | decide))
              case cm6 => exact fun W _ => M1.out W
              simp only [Act.put, List.setIfInBounds_toArray, List.set_cons_zero, List.set_cons_succ]
              refine wpAnyH_take (i := 7) (v := ?vm7) (by simp only [List.getElem?_toArray, List.getElem?_cons_succ, List.getElem?_cons_zero]; rfl) (by kernel_rfl) (by kernel_rfl) (by kernel_rfl) (fun _ _ _ h => h) (Or.inl ⟨by rfl, ?ym7⟩) hHeld ?_
              case ym7 => (intro w hSw; go_simp <;> with_reducible rfl)
              simp only [Act.put, List.setIfInBounds_toArray, List.set_cons_zero, List.set_cons_succ]
              refine wpAnyH_take (i := 8) (v := ?vm8) (by simp only [List.getElem?_toArray, List.getElem?_cons_succ, List.getElem?_cons_zero]; rfl) (by kernel_rfl) (by kernel_rfl) (by kernel_rfl) (fun _ _ _ h => h) (Or.inl ⟨by rfl, ?ym8⟩) hHeld ?_
              case ym8 => (intro w hSw; go_simp <;> with_reducible rfl)
              simp only [Act.put, List.setIfInBounds_toArray, List.set_cons_zero, List.set_cons_succ]
              refine wpAnyH_take (i := 9) (v := ?vm9) (by simp only [List.getElem?_toArray, List.getElem?_cons_succ, List.getElem?_cons_zero]; rfl) (by kernel_rfl) (by kernel_rfl) (by kernel_rfl) (fun _ _ _ h => h) (Or.inl ⟨by rfl, ?ym9⟩) hHeld ?_
              case ym9 => (intro w hSw; go_simp <;> with_reducible rfl)
              simp only [Act.put, List.setIfInBounds_toArray, List.set_cons_zero, List.set_cons_succ]
              refine wpAnyH_take (i := 10) (v := ?vm10) (by simp only [List.getElem?_toArray, List.getElem?_cons_succ, List.getElem?_cons_zero]; rfl) (by kernel_rfl) (by kernel_rfl) (by kernel_rfl) (fun _ _ _ h => h) (Or.inl ⟨by rfl, ?ym10⟩) hHeld ?_
              case ym10 => (intro w hSw; go_simp <;> with_reducible rfl)
              simp only [Act.put, List.setIfInBounds_toArray, List.set_cons_zero, List.set_cons_succ]
              refine wpAnyH_take (i := 11) (v := ?vm11) (by simp only [List.getElem?_toArray, List.getElem?_cons_succ, List.getElem?_cons_zero]; rfl) (by kernel_rfl) (by kernel_rfl) (by kernel_rfl) (fun _ _ _ h => h) (Or.inl ⟨by rfl, ?ym11⟩) hHeld ?_
              case ym11 => (intro w hSw; go_simp <;> with_reducible rfl)
              simp only [Act.put, List.setIfInBounds_toArray, List.set_cons_zero, List.set_cons_succ]
              refine wpAnyH_take (i := 12) (v := ?vm12) (by simp only [List.getElem?_toArray, List.getElem?_cons_succ, List.getElem?_cons_zero]; rfl) (by kernel_rfl) (by kernel_rfl) (by kernel_rfl) (fun _ _ _ h => h) (Or.inl ⟨by rfl, ?ym12⟩) hHeld ?_
              case ym12 => (intro w hSw; go_simp <;> with_reducible rfl)
              simp only [Act.put, List.setIfInBounds_toArray, List.set_cons_zero, List.set_cons_succ]
              refine wpAnyH_call (i := 13) (v := .int .i64 (q : Nat)) (f := 13) (args := #[.int .i64 rb, .int .i64 i]) (by simp only [List.getElem?_toArray, List.getElem?_cons_succ, List.getElem?_cons_zero]; rfl) (by kernel_rfl) (by kernel_rfl) (by kernel_rfl) (fun _ _ _ h => h) (by rfl) ?ym13 ?cm13 hHeld ?_
              case ym13 => (intro w hSw; go_simp <;> (first | with_reducible rfl | decide))
              case cm13 => exact fun W _ => M2.out W
              simp only [Act.put, List.setIfInBounds_toArray, List.set_cons_zero, List.set_cons_succ]
              refine wpAnyH_take (i := 14) (v := ?vm14) (by simp only [List.getElem?_toArray, List.getElem?_cons_succ, List.getElem?_cons_zero]; rfl) (by kernel_rfl) (by kernel_rfl) (by kernel_rfl) (fun _ _ _ h => h) (Or.inl ⟨by rfl, ?ym14⟩) hHeld ?_
              case ym14 => (intro w hSw; go_simp <;> with_reducible rfl)
              simp only [Act.put, List.setIfInBounds_toArray, List.set_cons_zero, List.set_cons_succ]
              refine wpAnyH_take (i := 15) (v := ?vm15) (by simp only [List.getElem?_toArray, List.getElem?_cons_succ, List.getElem?_cons_zero]; rfl) (by kernel_rfl) (by kernel_rfl) (by kernel_rfl) (fun _ _ _ h => h) (Or.inl ⟨by rfl, ?ym15⟩) hHeld ?_
              case ym15 => (intro w hSw; go_simp <;> with_reducible rfl)
              simp only [Act.put, List.setIfInBounds_toArray, List.set_cons_zero, List.set_cons_succ]
              refine wpAnyH_take (i := 16) (v := ?vm16) (by simp only [List.getElem?_toArray, List.getElem?_cons_succ, List.getElem?_cons_zero]; rfl) (by kernel_rfl) (by kernel_rfl) (by kernel_rfl) (fun _ _ _ h => h) (Or.inl ⟨by rfl, ?ym16⟩) hHeld ?_
              case ym16 => (intro w hSw; go_simp <;> with_reducible rfl)
              simp only [Act.put, List.setIfInBounds_toArray, List.set_cons_zero, List.set_cons_succ]
              refine wpAnyH_take (i := 17) (v := ?vm17) (by simp only [List.getElem?_toArray, List.getElem?_cons_succ, List.getElem?_cons_zero]; rfl) (by kernel_rfl) (by kernel_rfl) (by kernel_rfl) (fun _ _ _ h => h) (Or.inl ⟨by rfl, ?ym17⟩) hHeld ?_
              case ym17 => (intro w hSw; go_simp <;> with_reducible rfl)
              simp only [Act.put, List.setIfInBounds_toArray, List.set_cons_zero, List.set_cons_succ]
              refine wpAnyH_take (i := 18) (v := ?vm18) (by simp only [List.getElem?_toArray, List.getElem?_cons_succ, List.getElem?_cons_zero]; rfl) (by kernel_rfl) (by kernel_rfl) (by kernel_rfl) (fun _ _ _ h => h) (Or.inl ⟨by rfl, ?ym18⟩) hHeld ?_
              case ym18 => (intro w hSw; go_simp <;> with_reducible rfl)
              simp only [Act.put, List.setIfInBounds_toArray, List.set_cons_zero, List.set_cons_succ]
              refine wpAnyH_take (i := 19) (v := ?vm19) (by simp only [List.getElem?_toArray, List.getElem?_cons_succ, List.getElem?_cons_zero]; rfl) (by kernel_rfl) (by kernel_rfl) (by kernel_rfl) (fun _ _ _ h => h) (Or.inl ⟨by rfl, ?ym19⟩) hHeld ?_
              case ym19 => (intro w hSw; go_simp <;> with_reducible rfl)
              simp only [Act.put, List.setIfInBounds_toArray, List.set_cons_zero, List.set_cons_succ]
              refine wpAnyH_take (i := 20) (v := ?vm20) (by simp only [List.getElem?_toArray, List.getElem?_cons_succ, List.getElem?_cons_zero]; rfl) (by kernel_rfl) (by kernel_rfl) (by kernel_rfl) (fun _ _ _ h => h) (Or.inl ⟨by rfl, ?ym20⟩) hHeld ?_
              case ym20 => (intro w hSw; go_simp <;> with_reducible rfl)
              simp only [Act.put, List.setIfInBounds_toArray, List.set_cons_zero, List.set_cons_succ]
              refine wpAnyH_take (i := 21) (v := ?vm21) (by simp only [List.getElem?_toArray, List.getElem?_cons_succ, List.getElem?_cons_zero]; rfl) (by kernel_rfl) (by kernel_rfl) (by kernel_rfl) (fun _ _ _ h => h) (Or.inl ⟨by rfl, ?ym21⟩) hHeld ?_
              case ym21 => (intro w hSw; go_simp <;> with_reducible rfl)
              simp only [Act.put, List.setIfInBounds_toArray, List.set_cons_zero, List.set_cons_succ]
              refine wpAnyH_take (i := 22) (v := ?vm22) (by simp only [List.getElem?_toArray, List.getElem?_cons_succ, List.getElem?_cons_zero]; rfl) (by kernel_rfl) (by kernel_rfl) (by kernel_rfl) (fun _ _ _ h => h) (Or.inl ⟨by rfl, ?ym22⟩) hHeld ?_
              case ym22 => (intro w hSw; go_simp <;> with_reducible rfl)
              simp only [Act.put, List.setIfInBounds_toArray, List.set_cons_zero, List.set_cons_succ]
              refine wpAnyH_take (i := 23) (v := ?vm23) (by simp only [List.getElem?_toArray, List.getElem?_cons_succ, List.getElem?_cons_zero]; rfl) (by kernel_rfl) (by kernel_rfl) (by kernel_rfl) (fun _ _ _ h => h) (Or.inl ⟨by rfl, ?ym23⟩) hHeld ?_
              case ym23 => (intro w hSw; go_simp <;> with_reducible rfl)
              simp only [Act.put, List.setIfInBounds_toArray, List.set_cons_zero, List.set_cons_succ]
              refine wpAnyH_ready (rs := [24]) (by kernel_rfl) (by simp) ?_
              refine AllReadyH.cons (by simp only [List.getElem?_toArray, List.getElem?_cons_succ, List.getElem?_cons_zero]; rfl) (fun K hK => ?_) ?_
              rotate_left
              · exact AllReadyH.nil
              go_simp
              refine hK.out _ _ ?_ (fun hHeld => ?_)
              · exact ⟨((bal (Below.refl _ wr.drew) _ : Below wr.drew.heap.size wr.drew _).cell (p := ⟨lb, lo + j * 3, none⟩) hb).trans r0, ((bal (Below.refl _ wr.drew) _ : Below wr.drew.heap.size wr.drew _).cell (p := ⟨lb, lo + j * 3 + 1, none⟩) hb).trans r1, ((bal (Below.refl _ wr.drew) _ : Below wr.drew.heap.size wr.drew _).cell (p := ⟨lb, lo + j * 3 + 2, none⟩) hb).trans r2⟩
              clear hK K hHeld
              refine wpAnyH_ready (rs := [25]) (by kernel_rfl) (by simp) ?_
              refine AllReadyH.cons (by simp only [List.getElem?_toArray, List.getElem?_cons_succ, List.getElem?_cons_zero]; rfl) (fun K hK => ?_) ?_
              rotate_left
              · exact AllReadyH.nil
              go_simp
              refine hK.out _ _ ?_ (fun hHeld => ?_)
              · exact ⟨((bal (Below.refl _ wr.drew) _ : Below wr.drew.heap.size wr.drew _).cell (p := ⟨lb, lo + j * 3, none⟩) hb).trans r0, ((bal (Below.refl _ wr.drew) _ : Below wr.drew.heap.size wr.drew _).cell (p := ⟨lb, lo + j * 3 + 1, none⟩) hb).trans r1, ((bal (Below.refl _ wr.drew) _ : Below wr.drew.heap.size wr.drew _).cell (p := ⟨lb, lo + j * 3 + 2, none⟩) hb).trans r2⟩
              clear hK K hHeld
              refine wpAnyH_done (by kernel_rfl) ?_ _
              refine NoPanic.normal ?_
              go_wp2
              go_meet
              exact ⟨rfl, rfl⟩
            case rest =>
              obtain ⟨rfl, rfl⟩ := hcut
              have bx : Below wr.drew.heap.size wr.drew (wr.drew.alloc (.cells #[.int .i64 (p : Nat), .int .i64 (q : Nat), .int .i64 cc] 34)) := bal (Below.refl _ _) _
              have S3 := Lib.hid (S2.out.below bx)
              have F3 := Lib.hid (F2.out.below bx (Nat.le_refl _))
              have QR := heap_alloc_new wr.drew (.cells #[.int .i64 (p : Nat), .int .i64 (q : Nat), .int .i64 cc] 34)
              have hQX : X < wr.drew.heap.size := lX
              have QRH := Lib.hid QR
              clear bx QR S2 F2 S HF M1 M2 P1 P2 W1 W1w r0 r1 r2 hb hbw x0 x1 lX
              generalize wr.drew.alloc (.cells #[.int .i64 (p : Nat), .int .i64 (q : Nat), .int .i64 cc] 34) = w2 at *
              generalize wr.drew.heap.size = Q at *
              have q0 : w2.cell? ⟨Q, 0, none⟩ = some (.int .i64 (p : Nat)) := cells_at QRH.out 0
              have q1 : w2.cell? ⟨Q, 1, none⟩ = some (.int .i64 (q : Nat)) := cells_at QRH.out 1
              have lQ := blk_lt QRH.out
              go_wp2_with fail
              go_loopw [12, 13] (fun v12 v13 wx => ∃ k : Nat, v12 = .bool (okK K (p : Int) (q : Int) k) ∧ v13 = .int .i64 k ∧ k ≤ m ∧ Below w2.heap.size w2 wx) (fun v12 v13 _ => m - (intOf v13).toNat)
              case atStart => exact ⟨0, rfl, rfl, Nat.zero_le _, Below.refl _ _⟩
              case round =>
                clear q0 q1
                obtain ⟨k, rfl, rfl, hk, hB⟩ := hrel
                have S4 := Lib.hid (S3.out.below hB)
                have F4 := Lib.hid (F3.out.below hB (Nat.le_refl _))
                have QR4 := Lib.hid (b_blk hB QRH.out)
                have hBs := hB.size
                have BB := Lib.hid hB
                have x0 := S4.out.x0
                have x1 := S4.out.x1
                have lX := S4.out.lX
                have lQ4 : Q < wr.heap.size := by omega
                have q0 : wr.cell? ⟨Q, 0, none⟩ = some (.int .i64 (p : Nat)) := cells_at QR4.out 0
                have q1 : wr.cell? ⟨Q, 1, none⟩ = some (.int .i64 (q : Nat)) := cells_at QR4.out 1
                by_cases hk2 : k < m
                · obtain ⟨g, go, rfl, -⟩ := F4.out.addr (show 0 < m by omega)
                  obtain ⟨hg, d0, d1, d2⟩ := F4.out.lat' rfl hk2
                  have hx : Below wr.heap.size wr (wr.alloc (.cells #[.int .i64 (K k).a, .int .i64 (K k).b, .int .i64 (K k).c] 34)) := bal (Below.refl _ wr) _
                  have NB := Lib.hid (bel2 hB hx)
                  have EK : Hid (okK K (p : Int) (q : Int) (k + 1) = (okK K (p : Int) (q : Int) k && !(((K k).a == (p : Int) && (K k).b == (q : Int)) || ((K k).a == (q : Int) && (K k).b == (p : Int))))) := rfl
                  clear hB BB
                  generalize (K k).a = ka at *
                  generalize (K k).b = kb at *
                  generalize (K k).c = kc at *
                  generalize okK K (p : Int) (q : Int) k = ok0 at *
                  obtain ⟨z0, z1, -⟩ := bx3 wr (.int .i64 ka) (.int .i64 kb) (.int .i64 kc) 34
                  rw [← hx.cell (p := ⟨Q, 0, none⟩) lQ4] at q0
                  rw [← hx.cell (p := ⟨Q, 1, none⟩) lQ4] at q1
                  go_upto_region 19 with fail
                  clear d0 d1 d2 x0 x1 S4 F4 QR4 hx
                  generalize wr.alloc (.cells #[.int .i64 ka, .int .i64 kb, .int .i64 kc] 34) = w4 at *
                  generalize hQ5 : wr.heap.size = Q5 at *
                  have E1 := Lib.hid EK.out
                  clear EK
                  cases ok0
                  · go_wp2
                    go_roundw
                    case rel => exact ⟨k + 1, by rw [E1.out]; rfl, by go_num, by omega, NB.out⟩
                    case measure => simp [intOf]; omega
                  rcases Bool.eq_false_or_eq_true (ka == (p : Int)) with u1 | u1
                  · rcases Bool.eq_false_or_eq_true (kb == (q : Int)) with u2 | u2
                    · have V := Lib.hid (show okK K (p : Int) (q : Int) (k + 1) = false by rw [E1.out, u1, u2]; rfl)
                      clear E1
                      go_wp2
                      go_roundw
                      case rel => exact ⟨k + 1, by rw [V.out], by go_num, by omega, NB.out⟩
                      case measure => simp [intOf]; omega
                    · rcases Bool.eq_false_or_eq_true (ka == (q : Int)) with u3 | u3
                      · rcases Bool.eq_false_or_eq_true (kb == (p : Int)) with u4 | u4
                        · have V := Lib.hid (show okK K (p : Int) (q : Int) (k + 1) = false by rw [E1.out, u1, u2, u3, u4]; rfl)
                          clear E1
                          go_wp2
                          go_roundw
                          case rel => exact ⟨k + 1, by rw [V.out], by go_num, by omega, NB.out⟩
                          case measure => simp [intOf]; omega
                        · have V := Lib.hid (show okK K (p : Int) (q : Int) (k + 1) = true by rw [E1.out, u1, u2, u3, u4]; rfl)
                          clear E1
                          go_wp2
                          go_roundw
                          case rel => exact ⟨k + 1, by rw [V.out], by go_num, by omega, NB.out⟩
                          case measure => simp [intOf]; omega
                      · have V := Lib.hid (show okK K (p : Int) (q : Int) (k + 1) = true by rw [E1.out, u1, u2, u3]; rfl)
                        clear E1
                        go_wp2
                        go_roundw
                        case rel => exact ⟨k + 1, by rw [V.out], by go_num, by omega, NB.out⟩
                        case measure => simp [intOf]; omega
                  · rcases Bool.eq_false_or_eq_true (ka == (q : Int)) with u3 | u3
                    · rcases Bool.eq_false_or_eq_true (kb == (p : Int)) with u4 | u4
                      · have V := Lib.hid (show okK K (p : Int) (q : Int) (k + 1) = false by rw [E1.out, u1, u3, u4]; rfl)
                        clear E1
                        go_wp2
                        go_roundw
                        case rel => exact ⟨k + 1, by rw [V.out], by go_num, by omega, NB.out⟩
                        case measure => simp [intOf]; omega
                      · have V := Lib.hid (show okK K (p : Int) (q : Int) (k + 1) = true by rw [E1.out, u1, u3, u4]; rfl)
                        clear E1
                        go_wp2
                        go_roundw
                        case rel => exact ⟨k + 1, by rw [V.out], by go_num, by omega, NB.out⟩
                        case measure => simp [intOf]; omega
                    · have V := Lib.hid (show okK K (p : Int) (q : Int) (k + 1) = true by rw [E1.out, u1, u3]; rfl)
                      clear E1
                      go_wp2
                      go_roundw
                      case rel => exact ⟨k + 1, by rw [V.out], by go_num, by omega, NB.out⟩
                      case measure => simp [intOf]; omega
                · obtain rfl : k = m := by omega
                  have hq2 : ¬ (k : Int) < (k : Int) := by omega
                  clear hB BB
                  by_cases hok : okK K (p : Int) (q : Int) k = true
                  case neg =>
                    have hok : okK K (p : Int) (q : Int) k = false := by simpa using hok
                    go_wp2
                    go_roundw
                    case rel => exact ⟨j + 1, by go_num, by omega, by omega, k, K, D, _, by omega, S4.out, GD.out⟩
                    case measure => simp [intOf]; omega
                  case pos =>
                  have OKH0 := Lib.hid hok
                  generalize okK K (p : Int) (q : Int) k = okv at hok ⊢
                  subst hok
                  have hok := OKH0.out
                  have HOK := Lib.hid hok
                  clear hok
                  have q2 : wr.cell? ⟨Q, 2, none⟩ = some (.int .i64 cc) := cells_at QR4.out 2
                  obtain ⟨i0, hi0, hzz⟩ := Option.map_eq_some_iff.1 info34
                  simp only [Prod.mk.injEq] at hzz
                  obtain ⟨hz, hs0, hb0⟩ := hzz
                  have hx : Below wr.heap.size wr (wr.alloc (.cells #[.int .i64 (p : Nat), .int .i64 (q : Nat), .int .i64 cc] 34)) := bal (Below.refl _ wr) _
                  have S5 := Lib.hid (S4.out.below hx)
                  have OWN := S5.out.own
                  have QR5 := Lib.hid (b_blk hx QR4.out)
                  have NEW : Hid (∀ j' u, [Value.int .i64 (p : Nat), .int .i64 (q : Nat), .int .i64 cc][j']? = some u → (wr.alloc (.cells #[.int .i64 (p : Nat), .int .i64 (q : Nat), .int .i64 cc] 34)).cell? (Addr.add ⟨wr.heap.size, 0, none⟩ j') = some u) := fun j' u hu => by
                    rw [add_plain, Nat.zero_add, new_c]
                    simpa using hu
                  have ONE : Hid (∀ u, u ∈ [Value.int .i64 (p : Nat), .int .i64 (q : Nat), .int .i64 cc] → u.oneCell' = true) := fun u hu => by
                    simp only [List.mem_cons, List.not_mem_nil, or_false] at hu
                    rcases hu with rfl | rfl | rfl <;> rfl
                  have hsz5 : X + 1 ≤ (wr.alloc (.cells #[.int .i64 (p : Nat), .int .i64 (q : Nat), .int .i64 cc] 34)).heap.size := by simp; omega
                  have LA1 : ∀ b', (Value.slice LA k lc).ownBlock = some b' → X < b' ∧ b' < Q := fun b' hb' => by
                    have o1 := own_lo S4.out.own b' hb'
                    cases LA with
                    | none => cases hb'
                    | some a =>
                      injection hb' with hb'
                      subst hb'
                      have := (HAB.out a rfl).2
                      omega
                  have LA1 := Lib.hid LA1
                  have hlx : X < (wr.alloc (.cells #[.int .i64 (p : Nat), .int .i64 (q : Nat), .int .i64 cc] 34)).heap.size := by omega
                  have hlq : Q < (wr.alloc (.cells #[.int .i64 (p : Nat), .int .i64 (q : Nat), .int .i64 cc] 34)).heap.size := by simp; omega
                  clear S4 QR4 hx
                  go_wp2_with (at_builtin; refine wpList_append_own _ rfl (.tmp 158) (.tmp 160) 23 rfl (X + 1) 34 i0 _ 3 24 Try.underlying23 hi0 hz hs0 hb0 rfl (by decide) _ k (vsL (lV K) (k * 3)) rfl OWN ⟨wr.heap.size, 0, none⟩ 1 1 [.int .i64 (p : Nat), .int .i64 (q : Nat), .int .i64 cc] rfl rfl NEW.out ONE.out ?c3 ?c4 ?c5 ?_)
                  case c3 => unfold maxLen; omega
                  case c4 => omega
                  case c5 => first | exact hsz5 | omega
                  intro v' w5 hown hgr hiff
                  have hown : w5.ownsRow (X + 1) 34 3 v' (k + 1) (vsL (lV (addK K k ⟨p, q, cc⟩)) ((k + 1) * 3)) := by
                    have e : vsL (lV (addK K k ⟨p, q, cc⟩)) ((k + 1) * 3) = vsL (lV K) (k * 3) ++ [.int .i64 (p : Nat), .int .i64 (q : Nat), .int .i64 cc] := by
                      rw [show (k + 1) * 3 = k * 3 + 1 + 1 + 1 by omega, vsL_succ, vsL_succ, vsL_succ, lV0, show k * 3 + 1 + 1 = k * 3 + 2 by omega, lV1, lV2]
                      have e0 : vsL (lV (addK K k ⟨p, q, cc⟩)) (k * 3) = vsL (lV K) (k * 3) := by
                        unfold vsL
                        refine List.map_congr_left fun x hx => ?_
                        have hx := List.mem_range.1 hx
                        unfold lV addK
                        rw [if_neg (show ¬ x / 3 = k by omega)]
                      rw [e0]
                      unfold addK
                      rw [if_pos rfl]
                      simp
                    rw [e]
                    exact hown
                  obtain ⟨A', cap', rfl, -⟩ := fl_of_own hown (by omega)
                  have OKH := HOK
                  have S6 := Lib.hid (S5.out.app hgr hown)
                  have CG := Chg.of_grown hgr
                  have cc2 := Chg.set w5 X 1 (.slice A' (k + 1) cap')
                  have eQ := (CG.block Q hlq (fun h => by have := (LA1.out Q h).2; omega)).trans QR5.out
                  have x1' : w5.cell? ⟨X, 1, none⟩ = _ := (blk_cell (CG.block X hlx (fun h => by have := (LA1.out X h).1; omega)) 1).trans S5.out.x1
                  have fX1 : w5.frozen? ⟨X, 1, none⟩ = false := (blk_frz (CG.block X hlx (fun h => by have := (LA1.out X h).1; omega)) 1).trans (S5.out.fX 1)
                  have lX5 : X < w5.heap.size := Nat.lt_of_lt_of_le hlx CG.size
                  have lQ5 : Q < w5.heap.size := Nat.lt_of_lt_of_le hlq CG.size
                  have eQ6 := Lib.hid ((cc2.block Q lQ5 (show ¬ Q = X by omega)).trans eQ)
                  clear OWN NEW ONE hsz5 hi0 hz hs0 hb0 q0 q1 q2 x0 x1 hown hgr hiff CG cc2 eQ S5
                  go_upto_region 22 with fail
                  generalize w5.setCell ⟨X, 1, none⟩ (.slice A' (k + 1) cap') = w6 at *
                  clear x1' fX1 lX5 lQ5 QR5
                  have q0 : w6.cell? ⟨Q, 0, none⟩ = some (.int .i64 (p : Nat)) := cells_at eQ6.out 0
                  have q1 : w6.cell? ⟨Q, 1, none⟩ = some (.int .i64 (q : Nat)) := cells_at eQ6.out 1
                  have q2 : w6.cell? ⟨Q, 2, none⟩ = some (.int .i64 cc) := cells_at eQ6.out 2
                  have lQ6 : Q < w6.heap.size := blk_lt eQ6.out
                  have x0 := S6.out.x0
                  have lX := S6.out.lX
                  have lY : Y < w6.heap.size := by omega
                  have y0 := S6.out.dm (p * 2) (by omega)
                  have fY0 := S6.out.fY (p * 2)
                  rw [dV0] at y0
                  have bp := (GD.out.va (s := 0) n1 n5 (by omega) (by omega) (by omega)).b k p (Nat.le_refl _) hp
                  have bq := (GD.out.va (s := 0) n1 n5 (by omega) (by omega) (by omega)).b k q (Nat.le_refl _) hq
                  have gp := GD.out.d p hp
                  have gq := GD.out.d q hq
                  have ccb := CC1.out
                  obtain ⟨cp, hcp⟩ : ∃ cp : Int, cp = (D p).c + cc := ⟨_, rfl⟩
                  obtain ⟨cq, hcq⟩ : ∃ cq : Int, cq = (putC D p cp q).c + cc := ⟨_, rfl⟩
                  have cqb : 0 ≤ (putC D p cp q).c ∧ (putC D p cp q).c ≤ 1000 := by
                    unfold putC
                    split
                    · show 0 ≤ cp ∧ cp ≤ 1000; omega
                    · omega
                  have WH1 := Lib.hid (both (x := (D p).c + cc) (y := cp) (by omega) hcp.symm)
                  have WH2 := Lib.hid (both (x := (putC D p cp q).c + cc) (y := cq) (by omega) hcq.symm)
                  have GA : Hid (Gd i (k + 1) (putC (putC D p cp) q cq) (addK K k ⟨p, q, cc⟩)) := by
                    have := GD.out.add hp hq ccb OKH.out
                    rw [← hcp, ← hcq] at this
                    exact this
                  have S7 := Lib.hid ((S6.out.setC p hp cp).below (Below.refl _ _).drew)
                  have QYne : Q ≠ Y := by omega
                  clear bp bq gp gq ccb hcp hcq cqb S6 GD OKH LA1
                  obtain ⟨W1, W1w⟩ := WH1.out
                  clear WH1
                  generalize (D p).c = dpc at *
                  go_still_tail 16, (by kernel_rfl)
                  have hS7 : Chg (fun b => b = Y) w6 (w6.setCell ⟨Y, p * 2, none⟩ (.int .i64 cp)).drew := (Chg.set w6 Y (p * 2) (.int .i64 cp)).drew
                  have eQ7 := Lib.hid ((hS7.block Q lQ6 QYne).trans eQ6.out)
                  go_upto_region 23 with fail
                  clear W1 W1w
                  generalize (w6.setCell ⟨Y, p * 2, none⟩ (.int .i64 cp)).drew = w7 at *
                  clear x0 y0 fY0 q0 q1 q2 lQ6 lX lY hS7 eQ6
                  have q1 : w7.cell? ⟨Q, 1, none⟩ = some (.int .i64 (q : Nat)) := cells_at eQ7.out 1
                  have q2 : w7.cell? ⟨Q, 2, none⟩ = some (.int .i64 cc) := cells_at eQ7.out 2
                  have lQ7 : Q < w7.heap.size := blk_lt eQ7.out
                  have x0 := S7.out.x0
                  have lX := S7.out.lX
                  have lY : Y < w7.heap.size := by omega
                  have y0 := S7.out.dm (q * 2) (by omega)
                  have fY0 := S7.out.fY (q * 2)
                  rw [dV0] at y0
                  obtain ⟨W2, W2w⟩ := WH2.out
                  clear WH2
                  have S8 := Lib.hid ((S7.out.setC q hq cq).below (Below.refl _ _).drew)
                  clear S7
                  generalize (putC D p cp q).c = dqc at *
                  go_still_tail 16, (by kernel_rfl)
                  go_wp2
                  go_roundw
                  case rel => exact ⟨j + 1, by go_num, by omega, by omega, k + 1, addK K k ⟨p, q, cc⟩, putC (putC D p cp) q cq, .slice A' (k + 1) cap', by omega, S8.out, GA.out⟩
                  case measure => simp [intOf]; omega
          · have lR : R < wr.heap.size := by omega
            have r0 := hS.r0
            have x2 := hS.x2
            have hp1 := heap_setCell_same _ R 0 _ _ (.slice (some ⟨Y, 0, none⟩) i i) r0
            have hp2 := heap_setCell_same _ R 1 _ _ (.slice LA m lc) hp1
            have hp3 := heap_setCell_same _ R 2 _ _ (.int .i64 amb) hp2
            have HP := Lib.hid hp3
            have c3 : Chg (fun b => b = R) wr (((wr.setCell ⟨R, 0, none⟩ (.slice (some ⟨Y, 0, none⟩) i i)).setCell ⟨R, 1, none⟩ (.slice LA m lc)).setCell ⟨R, 2, none⟩ (.int .i64 amb)) := ((Chg.set _ R 0 _).trans (Chg.set _ R 1 _)).trans (Chg.set _ R 2 _)
            have F : Hid (SoP w (.returned (.agg #[.slice (some ⟨Y, 0, none⟩) i i, .slice LA m lc, .int .i64 amb])) (((wr.setCell ⟨R, 0, none⟩ (.slice (some ⟨Y, 0, none⟩) i i)).setCell ⟨R, 1, none⟩ (.slice LA m lc)).setCell ⟨R, 2, none⟩ (.int .i64 amb))) := by
              refine ⟨i, D, m, K, amb, ⟨Y, 0, none⟩, LA, lc, rfl, ?_, hF.chg c3 (fun a e _ => by have := (hab a e).1; show ¬ a.block = R; omega), hnn, hG, n1, n5, by omega, ab1, ab2, Below.chg hS.bel c3 hS.bel.size (fun b e => by omega)⟩
              have hFD : Fl wr (some ⟨Y, 0, none⟩) 2 i (dV D) := ⟨by omega, .inr ⟨Y, 0, rfl, by omega, fun x hx => by rw [Nat.zero_add]; exact hS.dm x hx⟩⟩
              exact hFD.chg c3 (fun a e _ => by injection e with e; subst e; show ¬ Y = R; omega)
            have f0 : ∀ x, wr.frozen? ⟨R, x, none⟩ = false := fun x => frozen_of_row _ _ x _ _ r0
            have f00 := f0 0
            have f01 := f0 1
            have f02 := f0 2
            have k0 := cells_at r0 0
            have k1 := cells_at r0 1
            have k2 := cells_at r0 2
            have k0 : wr.cell? ⟨R, 0, none⟩ = some (.slice none 0 0) := k0
            have k1 : wr.cell? ⟨R, 1, none⟩ = some (.slice none 0 0) := k1
            have k2 : wr.cell? ⟨R, 2, none⟩ = some (.int .i64 0) := k2
            have RXne : R ≠ X := by omega
            have hw2 : ¬ (j : Int) < (lk : Int) ∨ ((j : Int) < (lk : Int) ∧ ¬ (j : Int) < 12) := by omega
            clear hp1 hp2 hp3 c3 f0 r0 hS hG hF hab hnn S GD HF HAB HNN hlt
            rcases hw2 with h1 | ⟨h1, h2⟩
            all_goals
              go_wp2
              (try simp only [Exit.inBlock, Exit.then])
              refine bodyPost_ret (results_cell_row rfl _ _ R 27 _ _ _ rfl HP.out Try.underlying27 rfl (by kernel_rfl)) rfl ?_
              exact F.out
end Go.Proofs.Ytidegjinfacjjaa
