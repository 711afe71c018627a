/- The walk of PerfGovernorAgrees. -/
import Derived.Test.YtfmaadfccnjnjaaGag
namespace Go.Proofs.Ytfmaadfccnjnjaa
open Go.RowKit

set_option maxRecDepth 100000 in
set_option maxHeartbeats 8000000 in
theorem gaw_walk (A : Option Addr) (m c : Nat) (g : Nat → St) (X : GP) (E : Option Addr) (q d : Nat) (Z : Nat → Int) (w : World) (h : SlS w A m g) (_hp : True) (hZ' : Ns .i64 w E q Z ∧ q ≤ d ∧ d ≤ 9223372036854775807) :
    Calls Try.prog 7 #[.slice A m c, .agg #[.int .i64 X.up, .int .i64 X.dn, .int .i64 X.sp], .slice E q d] w (LawPost w) := by
  obtain ⟨up, dn, sp⟩ := X
  simp only
  have LP : Hid (∀ w', Below w.heap.size w w' → LawPost w (.returned (.bool true)) w') := fun _ h => ⟨rfl, h⟩
  have hm := h.len
  obtain ⟨hZ, -⟩ := hZ'
  have hq := hZ.len
  have B1 := bal (Below.refl w.heap.size w) (Obj.cells #[.int .i64 up, .int .i64 dn, .int .i64 sp] 44)
  have x0 : (w.alloc (Obj.cells #[.int .i64 up, .int .i64 dn, .int .i64 sp] 44)).cell? ⟨w.heap.size, 0, none⟩ = some (.int .i64 up) := by simp [go_sem]
  have x1 : (w.alloc (Obj.cells #[.int .i64 up, .int .i64 dn, .int .i64 sp] 44)).cell? ⟨w.heap.size, 1, none⟩ = some (.int .i64 dn) := by simp [go_sem]
  have x2 : (w.alloc (Obj.cells #[.int .i64 up, .int .i64 dn, .int .i64 sp] 44)).cell? ⟨w.heap.size, 2, none⟩ = some (.int .i64 sp) := by simp [go_sem]
  have hsz : w.heap.size < (w.alloc (Obj.cells #[.int .i64 up, .int .i64 dn, .int .i64 sp] 44)).heap.size := by simp
  have S1 := h.below B1 (Nat.le_refl _)
  have HZ := Lib.hid hZ
  clear h hZ
  by_cases h20 : 20 < m
  · clear x0 x1 x2
    go_enter Try.func7, Try.ntmps7
    go_wp2_with fail
    generalize w.alloc (Obj.cells #[.int .i64 up, .int .i64 dn, .int .i64 sp] 44) = w1 at *
    refine (awake_any _).mono ?_
    rintro e w2 ⟨rfl, hb1⟩
    go_wp2
    go_ret
    exact LP.out _ (bel2 B1 hb1)
  by_cases h60 : 60 < q
  · clear x0 x1 x2
    go_enter Try.func7, Try.ntmps7
    go_wp2_with fail
    generalize w.alloc (Obj.cells #[.int .i64 up, .int .i64 dn, .int .i64 sp] 44) = w1 at *
    refine (awake_any _).mono ?_
    rintro e w2 ⟨rfl, hb1⟩
    go_wp2
    go_ret
    exact LP.out _ (bel2 B1 hb1)
  have X0 := Lib.hid (And.intro x0 (And.intro x1 x2))
  have S1 := Lib.hid S1
  have HS := Lib.hid hsz
  have B1 := Lib.hid B1
  clear x0 x1 x2 hsz
  go_enter Try.func7, Try.ntmps7
  go_upto_region 3 with fail
  generalize w.alloc (Obj.cells #[.int .i64 up, .int .i64 dn, .int .i64 sp] 44) = w1 at *
  obtain ⟨x0, x1, x2⟩ := X0.out
  have N1 := Lib.hid (ne_a A m c g up dn sp w1 S1.out)
  go_wp2_with fail
  refine N1.out.mono ?_
  rintro e w2 ⟨p1, rfl, b⟩
  clear x0 x1 x2 N1
  have X0 := Lib.hid (⟨(b.cell (by exact HS.out)).trans X0.out.1, (b.cell (by exact HS.out)).trans X0.out.2.1, (b.cell (by exact HS.out)).trans X0.out.2.2⟩ : w2.cell? ⟨w.heap.size, 0, none⟩ = some (.int .i64 up) ∧ w2.cell? ⟨w.heap.size, 1, none⟩ = some (.int .i64 dn) ∧ w2.cell? ⟨w.heap.size, 2, none⟩ = some (.int .i64 sp))
  have HS : Hid (w.heap.size < w2.heap.size) := Nat.lt_of_lt_of_le HS.out b.size
  have B1 := Lib.hid (bel2 B1.out b)
  have S1 := Lib.hid (S1.out.below b (Nat.le_refl _))
  clear b
  obtain ⟨x0, x1, x2⟩ := X0.out
  have N1 := Lib.hid (ne_b A m c g up dn sp w2 S1.out)
  go_wp2_with fail
  refine N1.out.mono ?_
  rintro e w3 ⟨p2, rfl, b⟩
  clear x0 x1 x2 N1
  have X0 := Lib.hid (⟨(b.cell (by exact HS.out)).trans X0.out.1, (b.cell (by exact HS.out)).trans X0.out.2.1, (b.cell (by exact HS.out)).trans X0.out.2.2⟩ : w3.cell? ⟨w.heap.size, 0, none⟩ = some (.int .i64 up) ∧ w3.cell? ⟨w.heap.size, 1, none⟩ = some (.int .i64 dn) ∧ w3.cell? ⟨w.heap.size, 2, none⟩ = some (.int .i64 sp))
  have HS : Hid (w.heap.size < w3.heap.size) := Nat.lt_of_lt_of_le HS.out b.size
  have B1 := Lib.hid (bel2 B1.out b)
  have S1 := Lib.hid (S1.out.below b (Nat.le_refl _))
  clear b
  generalize nE m g up dn sp = x1e at *
  have TB := Lib.hid (tab_any A m c g w3 S1.out)
  go_wp2_with fail
  refine TB.out.mono ?_
  rintro e w4 ⟨G, ct, rfl, hG, S2, b⟩
  clear TB S1 hG
  have X0 := Lib.hid (⟨(b.cell (by exact HS.out)).trans X0.out.1, (b.cell (by exact HS.out)).trans X0.out.2.1, (b.cell (by exact HS.out)).trans X0.out.2.2⟩ : w4.cell? ⟨w.heap.size, 0, none⟩ = some (.int .i64 up) ∧ w4.cell? ⟨w.heap.size, 1, none⟩ = some (.int .i64 dn) ∧ w4.cell? ⟨w.heap.size, 2, none⟩ = some (.int .i64 sp))
  have HS : Hid (w.heap.size < w4.heap.size) := Nat.lt_of_lt_of_le HS.out b.size
  have B1 := Lib.hid (bel2 B1.out b)
  clear b
  obtain ⟨hn1, hn8, -, -⟩ := tbN_bd m
  have HV := Lib.hid (tbF_vld m g)
  have FB := Lib.hid (fun i => tbF_bd m g i)
  have PK := Lib.hid (p_ok (tbN m) up dn sp hn1)
  generalize tbF m g = f at *
  generalize tbN m = n at *
  have S2 := Lib.hid S2
  obtain ⟨x0, x1, x2⟩ := X0.out
  have N1 := Lib.hid (ne_a (some ⟨G, 0, none⟩) n ct f up dn sp w4 S2.out)
  go_wp2_with fail
  refine N1.out.mono ?_
  rintro e w5 ⟨p3, rfl, b⟩
  clear x0 x1 x2 N1
  have X0 := Lib.hid (⟨(b.cell (by exact HS.out)).trans X0.out.1, (b.cell (by exact HS.out)).trans X0.out.2.1, (b.cell (by exact HS.out)).trans X0.out.2.2⟩ : w5.cell? ⟨w.heap.size, 0, none⟩ = some (.int .i64 up) ∧ w5.cell? ⟨w.heap.size, 1, none⟩ = some (.int .i64 dn) ∧ w5.cell? ⟨w.heap.size, 2, none⟩ = some (.int .i64 sp))
  have HS : Hid (w.heap.size < w5.heap.size) := Nat.lt_of_lt_of_le HS.out b.size
  have B1 := Lib.hid (bel2 B1.out b)
  have S2 := Lib.hid (S2.out.below b (Nat.le_refl _))
  clear b
  obtain ⟨x0, x1, x2⟩ := X0.out
  have N1 := Lib.hid (ne_b (some ⟨G, 0, none⟩) n ct f up dn sp w5 S2.out)
  go_wp2_with fail
  refine N1.out.mono ?_
  rintro e w6 ⟨p4, rfl, b⟩
  clear x0 x1 x2 N1
  have X0 := Lib.hid (⟨(b.cell (by exact HS.out)).trans X0.out.1, (b.cell (by exact HS.out)).trans X0.out.2.1, (b.cell (by exact HS.out)).trans X0.out.2.2⟩ : w6.cell? ⟨w.heap.size, 0, none⟩ = some (.int .i64 up) ∧ w6.cell? ⟨w.heap.size, 1, none⟩ = some (.int .i64 dn) ∧ w6.cell? ⟨w.heap.size, 2, none⟩ = some (.int .i64 sp))
  have HS : Hid (w.heap.size < w6.heap.size) := Nat.lt_of_lt_of_le HS.out b.size
  have B1 := Lib.hid (bel2 B1.out b)
  have S2 := Lib.hid (S2.out.below b (Nat.le_refl _))
  clear b
  generalize nE n f up dn sp = x2e at *
  obtain ⟨x0, x1, x2⟩ := X0.out
  have PA := Lib.hid (par_any up dn sp w6)
  go_wp2_with fail
  refine PA.out.mono ?_
  rintro e w7 ⟨rfl, b⟩
  clear x0 x1 x2 PA
  have X0 := Lib.hid (⟨(b.cell (by exact HS.out)).trans X0.out.1, (b.cell (by exact HS.out)).trans X0.out.2.1, (b.cell (by exact HS.out)).trans X0.out.2.2⟩ : w7.cell? ⟨w.heap.size, 0, none⟩ = some (.int .i64 up) ∧ w7.cell? ⟨w.heap.size, 1, none⟩ = some (.int .i64 dn) ∧ w7.cell? ⟨w.heap.size, 2, none⟩ = some (.int .i64 sp))
  have HS : Hid (w.heap.size < w7.heap.size) := Nat.lt_of_lt_of_le HS.out b.size
  have B1 := Lib.hid (bel2 B1.out b)
  have S2 := Lib.hid (S2.out.below b (Nat.le_refl _))
  clear b
  have NG := Lib.hid (new_o G 0 n ct f ⟨pup up, pdn up dn, psp sp, 0, n - 1, 0, 0⟩ w7 S2.out HV.out PK.out)
  go_wp2_with fail
  refine NG.out.mono ?_
  rintro e w8 ⟨L1, T1, c1, rfl, hL1, hT1, hTL1, ST1, R1, b⟩
  clear NG
  have hww : w.heap.size < w7.heap.size := HS.out
  have X0 := Lib.hid (⟨(b.cell (by exact HS.out)).trans X0.out.1, (b.cell (by exact HS.out)).trans X0.out.2.1, (b.cell (by exact HS.out)).trans X0.out.2.2⟩ : w8.cell? ⟨w.heap.size, 0, none⟩ = some (.int .i64 up) ∧ w8.cell? ⟨w.heap.size, 1, none⟩ = some (.int .i64 dn) ∧ w8.cell? ⟨w.heap.size, 2, none⟩ = some (.int .i64 sp))
  have HS : Hid (w.heap.size < w8.heap.size) := Nat.lt_of_lt_of_le HS.out b.size
  have B1 := Lib.hid (bel2 B1.out b)
  have S2 := Lib.hid (S2.out.below b (Nat.le_refl _))
  clear b
  have hLs := R1.lt
  have hTs := ST1.lt hn1
  have ST1 := Lib.hid ST1
  have R1 := Lib.hid R1
  obtain ⟨x0, x1, x2⟩ := X0.out
  have PA := Lib.hid (par_any up dn sp w8)
  go_wp2_with fail
  refine PA.out.mono ?_
  rintro e w9 ⟨rfl, b⟩
  clear x0 x1 x2 PA
  have X0 := Lib.hid (⟨(b.cell (by exact HS.out)).trans X0.out.1, (b.cell (by exact HS.out)).trans X0.out.2.1, (b.cell (by exact HS.out)).trans X0.out.2.2⟩ : w9.cell? ⟨w.heap.size, 0, none⟩ = some (.int .i64 up) ∧ w9.cell? ⟨w.heap.size, 1, none⟩ = some (.int .i64 dn) ∧ w9.cell? ⟨w.heap.size, 2, none⟩ = some (.int .i64 sp))
  have HS : Hid (w.heap.size < w9.heap.size) := Nat.lt_of_lt_of_le HS.out b.size
  have B1 := Lib.hid (bel2 B1.out b)
  have S2 := Lib.hid (S2.out.below b (Nat.le_refl _))
  have ST1 := Lib.hid (ST1.out.below b (Nat.le_refl _))
  have R1 := Lib.hid (row_below R1.out b (Nat.le_refl _))
  have hw89 := b.size
  clear b
  have NG := Lib.hid (rnew_o G 0 n ct f ⟨pup up, pdn up dn, psp sp, 0, n - 1, 0, 0⟩ w9 S2.out HV.out PK.out)
  go_wp2_with fail
  refine NG.out.mono ?_
  rintro e w10 ⟨L2, T2, c2, rfl, hL2, hT2, hTL2, ST2, R2, b⟩
  clear NG
  have GI0 : Gv2 w.heap.size L1 L2 T1 T2 n c1 c2 f w w10 ⟨pup up, pdn up dn, psp sp, 0, n - 1, 0, 0⟩ :=
    ⟨row_below R1.out b (Nat.le_refl _), R2, PK.out, ST1.out.below b (Nat.le_refl _), ST2, bel2 B1.out b, ⟨by omega, hTL1, by omega, by omega, hTL2⟩, ⟨by omega, by omega, by have := b.size; omega⟩⟩
  have hv := Lib.hid (show ∀ i, i < n → (f i).l ≤ 1099511627776 from fun i hi => by have := FB.out i; omega)
  have hmono := Lib.hid (fun i j a b => vld_mono HV.out i j a b)
  have GI0 := Lib.hid GI0
  clear b R2 ST2 R1 ST1 S2 B1 X0 HS hw89 hLs hTs hww hL1 hL2 hT1 hT2
  generalize (⟨pup up, pdn up dn, psp sp, 0, n - 1, 0, 0⟩ : GV) = s0 at *
  go_wp2_with fail
  go_loopw [20] (fun i wr => ∃ (j : Nat) (s : GV), j ≤ q ∧ i = .int .i64 j ∧ Gv2 w.heap.size L1 L2 T1 T2 n c1 c2 f w wr s) (fun i _ => q - (intOf i).toNat)
  case atStart => exact ⟨0, s0, by omega, rfl, GI0.out⟩
  case round =>
    clear GI0
    obtain ⟨j, s, hj, rfl, GI⟩ := hrel
    by_cases hlt : j < q
    · obtain ⟨b, off, rfl, d0⟩ := HZ.out.at GI.bel (Nat.le_refl _) hlt
      generalize Z j = z at *
      have j1 : (j : Int) < q := by omega
      have M7 := Lib.hid (fun W => mod_any z 7 (by omega) (by omega) W)
      have M13 := Lib.hid (fun W => mod_any z 13 (by omega) (by omega) W)
      have M101 := Lib.hid (fun W => mod_any z 101 (by omega) (by omega) W)
      have M2 := Lib.hid (fun W => mod_any z 2 (by omega) (by omega) W)
      have MN : Hid (∀ v W, Calls Try.prog 14 #[.int .i64 v, .int .i64 ((n : Int) + 1)] W fun e w' => ∃ la : Nat, la ≤ n ∧ e = .returned (.int .i64 (la : Nat)) ∧ W = w') := fun v W =>
        (mod_any v (n + 1) (by omega) (by omega) W).mono fun e w' hh => ⟨modOf v (n + 1), by have := (modOf_spec v (n + 1) (by omega) (by omega)).2; omega, hh⟩
      have b2 := (modOf_spec z 2 (by omega) (by omega)).2
      have b101 := (modOf_spec z 101 (by omega) (by omega)).2
      have GI := Lib.hid GI
      by_cases h7 : modOf z 7 = 0
      · have h7' : ((modOf z 7 : Int) == 0) = true := by simp [h7]
        have H7 := Lib.hid h7
        generalize modOf z 7 = r7 at *
        clear h7
        go_wp2_with fail
        refine (M7.out _).mono ?_
        rintro e w5 ⟨rfl, rfl⟩
        clear b101 M13 M101
        generalize modOf z 2 = lb at *
        go_wp2_with fail
        refine (MN.out _ _).mono ?_
        rintro e w5 ⟨la, hla, rfl, rfl⟩
        go_wp2_with fail
        refine (M2.out _).mono ?_
        rintro e w5 ⟨rfl, rfl⟩
        go_wp2_with fail
        refine (MN.out _ _).mono ?_
        rintro e w5 ⟨lc, hlc, rfl, rfl⟩
        obtain ⟨xe, s', CX⟩ := gv2_lim GI.out (by omega) ((la : Int) - (lb : Int)) (lc : Int)
        have CC := Lib.hid CX
        clear GI
        unfold Twice at CC
        go_wp2_with fail
        refine CC.out.mono ?_
        rintro e w5 ⟨rfl, C2⟩
        have C2 := Lib.hid C2
        clear CC
        go_wp2_with fail
        refine C2.out.mono ?_
        rintro e w6 ⟨rfl, I5⟩
        have I5 := Lib.hid I5
        clear C2
        have RA := I5.out.ra
        have RB := I5.out.rb
        have CA := Lib.hid (cur_any L1 T1 n c1 s' w6 RA)
        have CB := Lib.hid (rcur_any L2 T2 n c2 s' w6 RB)
        clear RA RB
        go_wp2_with fail
        refine CA.out.mono ?_
        rintro e w7 ⟨rfl, rfl⟩
        go_wp2_with fail
        refine CB.out.mono ?_
        rintro e w7 ⟨rfl, rfl⟩
        go_wp2
        go_roundw
        case rel => exact ⟨j + 1, s', by omega, by go_num, I5.out⟩
        case measure => simp [intOf]; omega
      · have h7' : ((modOf z 7 : Int) == 0) = false := by simp; omega
        generalize modOf z 7 = r7 at *
        clear h7
        by_cases h13 : modOf z 13 = 0
        · have h13' : ((modOf z 13 : Int) == 0) = true := by simp [h13]
          have H13 := Lib.hid h13
          generalize modOf z 13 = r13 at *
          clear h13
          by_cases hz : z < 0 ∨ 100 < z
          · go_wp2_with fail
            refine (M7.out _).mono ?_
            rintro e w5 ⟨rfl, rfl⟩
            go_wp2_with fail
            refine (M13.out _).mono ?_
            rintro e w5 ⟨rfl, rfl⟩
            have CC := Lib.hid (gv2_bad GI.out z hz)
            clear GI
            unfold Twice at CC
            go_wp2_with fail
            refine CC.out.mono ?_
            rintro e w5 ⟨rfl, C2⟩
            have C2 := Lib.hid C2
            clear CC
            go_wp2_with fail
            refine C2.out.mono ?_
            rintro e w6 ⟨rfl, I5⟩
            have I5 := Lib.hid I5
            clear C2
            have RA := I5.out.ra
            have RB := I5.out.rb
            have CA := Lib.hid (cur_any L1 T1 n c1 s w6 RA)
            have CB := Lib.hid (rcur_any L2 T2 n c2 s w6 RB)
            clear RA RB
            go_wp2_with fail
            refine CA.out.mono ?_
            rintro e w7 ⟨rfl, rfl⟩
            go_wp2_with fail
            refine CB.out.mono ?_
            rintro e w7 ⟨rfl, rfl⟩
            go_wp2
            go_roundw
            case rel => exact ⟨j + 1, s, by omega, by go_num, I5.out⟩
            case measure => simp [intOf]; omega
          · obtain ⟨x, rfl⟩ : ∃ x : Nat, z = x := ⟨z.toNat, by omega⟩
            have hx : x ≤ 100 := by omega
            clear hz
            go_wp2_with fail
            refine (M7.out _).mono ?_
            rintro e w5 ⟨rfl, rfl⟩
            go_wp2_with fail
            refine (M13.out _).mono ?_
            rintro e w5 ⟨rfl, rfl⟩
            have CX := gv2_smp GI.out hv.out hmono.out x hx
            generalize smpS f s x = s' at *
            have CC := Lib.hid CX
            clear GI
            unfold Twice at CC
            go_wp2_with fail
            refine CC.out.mono ?_
            rintro e w5 ⟨rfl, C2⟩
            have C2 := Lib.hid C2
            clear CC
            go_wp2_with fail
            refine C2.out.mono ?_
            rintro e w6 ⟨rfl, I5⟩
            have I5 := Lib.hid I5
            clear C2
            have RA := I5.out.ra
            have RB := I5.out.rb
            have CA := Lib.hid (cur_any L1 T1 n c1 s' w6 RA)
            have CB := Lib.hid (rcur_any L2 T2 n c2 s' w6 RB)
            clear RA RB
            go_wp2_with fail
            refine CA.out.mono ?_
            rintro e w7 ⟨rfl, rfl⟩
            go_wp2_with fail
            refine CB.out.mono ?_
            rintro e w7 ⟨rfl, rfl⟩
            go_wp2
            go_roundw
            case rel => exact ⟨j + 1, s', by omega, by go_num, I5.out⟩
            case measure => simp [intOf]; omega
        · have h13' : ((modOf z 13 : Int) == 0) = false := by simp; omega
          generalize modOf z 13 = r13 at *
          clear h13
          have hx : modOf z 101 ≤ 100 := by omega
          generalize modOf z 101 = x at *
          go_wp2_with fail
          refine (M7.out _).mono ?_
          rintro e w5 ⟨rfl, rfl⟩
          go_wp2_with fail
          refine (M13.out _).mono ?_
          rintro e w5 ⟨rfl, rfl⟩
          go_wp2_with fail
          refine (M101.out _).mono ?_
          rintro e w5 ⟨rfl, rfl⟩
          have CX := gv2_smp GI.out hv.out hmono.out x hx
          generalize smpS f s x = s' at *
          have CC := Lib.hid CX
          clear GI CX
          unfold Twice at CC
          go_wp2_with fail
          refine CC.out.mono ?_
          rintro e w5 ⟨rfl, C2⟩
          have C2 := Lib.hid C2
          clear CC
          go_wp2_with fail
          refine (M101.out _).mono ?_
          rintro e w6 ⟨rfl, rfl⟩
          go_wp2_with fail
          refine C2.out.mono ?_
          rintro e w6 ⟨rfl, I5⟩
          have I5 := Lib.hid I5
          clear C2
          have RA := I5.out.ra
          have RB := I5.out.rb
          have CA := Lib.hid (cur_any L1 T1 n c1 s' w6 RA)
          have CB := Lib.hid (rcur_any L2 T2 n c2 s' w6 RB)
          clear RA RB
          go_wp2_with fail
          refine CA.out.mono ?_
          rintro e w7 ⟨rfl, rfl⟩
          go_wp2_with fail
          refine CB.out.mono ?_
          rintro e w7 ⟨rfl, rfl⟩
          go_wp2
          go_roundw
          case rel => exact ⟨j + 1, s', by omega, by go_num, I5.out⟩
          case measure => simp [intOf]; omega
    · go_wp2_with fail
      refine (awake_any _).mono ?_
      rintro e w8 ⟨rfl, b8⟩
      go_wp2
      go_ret
      exact LP.out _ (bel2 GI.bel b8)
end Go.Proofs.Ytfmaadfccnjnjaa
