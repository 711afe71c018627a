/- The reference's Sample. -/
import Derived.Test.YtfmaadfccnjnjaaRgl
namespace Go.Proofs.Ytfmaadfccnjnjaa
open Go.RowKit

set_option maxRecDepth 100000 in
set_option maxHeartbeats 4000000 in
theorem rsmp_good (L T n c : Nat) (s : GV) (f : Nat → St) (x : Nat) (w : World) (hR : w.rowIs L 67 8 (gcell T n c s)) (hS : SlS w (some ⟨T, 0, none⟩) n f) (hk : GOk n s) (hx : x ≤ 100) (hTL : T ≠ L)
    (hv : ∀ i, i < n → (f i).l ≤ 1099511627776) (hm : ∀ i j, i ≤ j → j < n → (f i).l ≤ (f j).l) :
    Calls Try.prog 30 #[.pointer (some ⟨L, 0, none⟩), .int .i64 (x : Nat)] w (GPost 67 L T n c (smpS f s x) (.tuple #[.int .i64 ((smpS f s x).cu : Nat), .int .i64 0]) w) := by
  have c0 := rg_tb hR
  have c1 := rg_up hR
  have c2 := rg_dn hR
  have c3 := rg_sp hR
  have c5 := rg_hi hR
  have c6 := rg_cu hR
  have c7 := rg_lz hR
  have z6 := hR.frozen 6
  have z7 := hR.frozen 7
  have hLw := hR.lt
  have E := Lib.hid (show smpS f s x = if s.up < x then { s with cu := s.hi, lz := 0 } else if x < s.dn then (if s.sp ≤ s.lz + 1 then { s with lz := 0, cu := suf f s.up (x * (f s.cu).l) s.lo s.cu } else { s with lz := s.lz + 1 }) else { s with lz := 0 } from rfl)
  have HR := Lib.hid hR
  have HS := Lib.hid hS
  have HM := Lib.hid hm
  have HVV := Lib.hid hv
  obtain ⟨⟨k1, k2⟩, k3, ⟨k4, k5⟩, k6, k7, k8, k9⟩ := hk
  have hn := hS.len
  clear hR hS hm hv
  generalize smpS f s x = s1 at *
  obtain ⟨up, dn, sp, lo, hi, cu, lz⟩ := s
  simp only at *
  by_cases h1 : up < x
  · rw [if_pos h1] at E
    have HR2 := Lib.hid (row_lz 0 (row_cu hi HR.out))
    have HG2 := Lib.hid (g_then (g_store w L 6 (.int .i64 (hi : Nat))) (g_store _ L 7 (.int .i64 (0 : Nat))))
    go_enter Try.func30, Try.ntmps30
    go_wp2
    go_ret2
    exact ⟨by rw [E.out]; rfl, by rw [E.out]; exact HR2.out, HG2.out⟩
  · rw [if_neg h1] at E
    by_cases h2 : x < dn
    · rw [if_pos h2] at E
      by_cases h3 : sp ≤ lz + 1
      · rw [if_pos h3] at E
        have i1 : (sp : Int) ≤ (lz : Int) + 1 := by omega
        have HR1 := row_lz (lz + 1) HR.out
        have HG1 := g_store w L 7 (.int .i64 (lz + 1 : Nat))
        have HS1 := HS.out.grown HG1 hTL
        rw [show ((lz + 1 : Nat) : Int) = (lz : Int) + 1 from by omega] at HR1 HG1 HS1
        have HR1 := Lib.hid HR1
        have HG1 := Lib.hid HG1
        have HS1 := Lib.hid HS1
        go_enter Try.func30, Try.ntmps30
        go_wp2_with fail
        go_quiet (fail)
        have HR1 := row_below HR1.out (below_drewN (Below.refl _ _) nq) (Nat.le_refl _)
        have HG1 := g_drewN HG1.out nq
        have HS1 := HS1.out.below (below_drewN (Below.refl _ _) nq) (Nat.le_refl _)
        generalize (w.setCell ⟨L, 7, none⟩ (.int .i64 ((lz : Int) + 1))).drewN nq = W1 at *
        clear c0 c1 c2 c3 c5 c6 c7 z6 z7
        have z7 := HR1.frozen 7
        have c7 := rg_lz HR1
        have hL1 := HR1.lt
        have HR2 := row_lz 0 HR1
        have HG2 := g_then HG1 (g_store W1 L 7 (.int .i64 (0 : Nat)))
        have HS2 := HS1.grown (g_store W1 L 7 (.int .i64 (0 : Nat))) hTL
        rw [show ((0 : Nat) : Int) = 0 from rfl] at HR2 HG2 HS2
        have HR2 := Lib.hid HR2
        have HG2 := Lib.hid HG2
        have HS2 := Lib.hid HS2
        clear HR1 HG1 HS1
        go_upto_region 10 with fail
        have HR2 := HR2.out
        have HG2 := HG2.out
        have HS2 := HS2.out
        generalize W1.setCell ⟨L, 7, none⟩ (.int .i64 0) = W2 at *
        clear z7 c7 hL1
        have c6 := rg_cu HR2
        have HR2 := Lib.hid HR2
        have HG2 := Lib.hid HG2
        have HS2 := Lib.hid HS2
        have hcu : cu < n := by omega
        have u0 := ((HS2.out.wf cu hcu).1).1
        obtain ⟨m1, m2⟩ := mul_bd (show x ≤ 100 by omega) u0 (HVV.out cu hcu)
        have SS := Lib.hid (fun q (a : lo ≤ q) (b : q ≤ cu) (cc : 1 ≤ q) d e => suf_stop (f := f) (up := up) (W := x * (f cu).l) HM.out hcu a b cc d e)
        have SA := Lib.hid (fun e => suf_all (f := f) (up := up) (W := x * (f cu).l) k7 e)
        have WCU : Hid ((x : Int) * (f cu).l ≤ up * (f cu).l) := mul_le (by omega) u0
        generalize hW : (x : Int) * (f cu).l = W at *
        go_wp2_with fail
        clear c6
        go_loopw [6] (fun i wr => ∃ q nn : Nat, lo ≤ q ∧ q ≤ cu + 1 ∧ i = .int .i64 ((q : Int) - 1) ∧ wr = W2.drewN nn ∧ Hid (∀ j, q ≤ j → j ≤ cu → W ≤ up * (f j).l)) (fun i _ => (intOf i + 1).toNat)
        case atStart => exact ⟨cu + 1, 0, by omega, by omega, congrArg (Value.int .i64) (by omega), rfl, fun j a b => by omega⟩
        case round =>
          obtain ⟨q, nn, q1, q2, rfl, rfl, GD⟩ := hrel
          have RR := HR2.out
          have c0 := rg_tb RR
          have c1 := rg_up RR
          have c4 := rg_lo RR
          have c6 := rg_cu RR
          have z6 := RR.frozen 6
          have hLr := RR.lt
          have RR := Lib.hid RR
          by_cases hq : lo + 1 ≤ q
          · obtain ⟨p, rfl⟩ : ∃ p, q = p + 1 := ⟨q - 1, by omega⟩
            rw [show ((p + 1 : Nat) : Int) - 1 = (p : Int) by omega]
            have hp : p < n := by omega
            have SSr := HS2.out
            obtain ⟨d0, -, -⟩ := SSr.cells hcu
            obtain ⟨e0, -, -⟩ := SSr.cells hp
            have up0 := ((HS2.out.wf p hp).1).1
            obtain ⟨m3, m4⟩ := mul_bd k2 up0 (HVV.out p hp)
            have i2 : (cu : Int) < n := by omega
            have i3 : (p : Int) < n := by omega
            have i4 : (0 : Int) ≤ p := by omega
            have i5 : (lo : Int) ≤ p := by omega
            have hpc : p ≤ cu := by omega
            have ST : Hid (up * (f p).l < W → suf f up W lo cu = p + 1) := fun hb => by
              have : p < cu := by
                rcases Nat.lt_or_ge p cu with h | h
                · exact h
                · have e : p = cu := by omega
                  subst e; have := WCU.out; omega
              exact SS.out (p + 1) (by omega) (by omega) (by omega) (by rw [Nat.add_sub_cancel]; exact hb) GD.out
            have GN : Hid (W ≤ up * (f p).l → ∀ j, p ≤ j → j ≤ cu → W ≤ up * (f j).l) := fun hb j a b => by
              rcases Nat.lt_or_ge p j with h | h
              · exact GD.out j h b
              · have e : j = p := by omega
                subst e; exact hb
            generalize hF : (f cu).l = F at *
            generalize hV : (up : Int) * (f p).l = V at *
            generalize hE : (f p).l = E' at *
            clear SSr
            by_cases hWV : W ≤ V
            · have G2 := Lib.hid (GN.out hWV)
              have t1 : ¬ V < W := by omega
              go_upto_region 13 with fail
              have y1 : IntKind.u64.wrap (x : Int) = (x : Int) := IntWalk.u64_in _ (by omega)
              have y2 : IntKind.u64.wrap (up : Int) = (up : Int) := IntWalk.u64_in _ (by omega)
              have y3 : IntKind.u64.wrap W = W := IntWalk.u64_in _ (by omega)
              have y4 : IntKind.u64.wrap V = V := IntWalk.u64_in _ (by omega)
              go_quiet (fail)
              clear y1 y2 y3 y4
              go_wp2
              go_roundw
              case rel => exact ⟨p, nn + nq, by omega, by omega, by go_num, rfl, G2⟩
              case measure => (simp [intOf] <;> omega)
            · have G2 := Lib.hid (ST.out (by omega))
              go_upto_region 13 with fail
              have y1 : IntKind.u64.wrap (x : Int) = (x : Int) := IntWalk.u64_in _ (by omega)
              have y2 : IntKind.u64.wrap (up : Int) = (up : Int) := IntWalk.u64_in _ (by omega)
              have y3 : IntKind.u64.wrap W = W := IntWalk.u64_in _ (by omega)
              have y4 : IntKind.u64.wrap V = V := IntWalk.u64_in _ (by omega)
              go_quiet (fail)
              clear y1 y2 y3 y4
              go_wp2
              go_ret2
              have R3 : (W2.setCell ⟨L, 6, none⟩ (.int .i64 ((p : Int) + 1))).rowIs L 67 8 (gcell T n c ⟨up, dn, sp, lo, hi, (p + 1), 0⟩) := by
                have := row_cu (p + 1) HR2.out
                rw [show ((p + 1 : Nat) : Int) = (p : Int) + 1 by omega] at this; exact this
              have G3 := g_then HG2.out (g_store W2 L 6 (.int .i64 ((p : Int) + 1)))
              rw [E.out, G2.out]
              exact ⟨congrArg (fun z : Int => Ending.returned (.tuple #[.int .i64 z, .int .i64 0])) (by first | rfl | (simp only; omega)), R3, ⟨G3.os, G3.tape, G3.output, G3.size, G3.block⟩⟩
          · obtain rfl : q = lo := by omega
            have G2 := Lib.hid (SA.out GD.out)
            go_wp2
            go_ret2
            have R3 : (W2.setCell ⟨L, 6, none⟩ (.int .i64 (q : Int))).rowIs L 67 8 (gcell T n c ⟨up, dn, sp, q, hi, q, 0⟩) := by
              have := row_cu q HR2.out
              exact this
            have G3 := g_then HG2.out (g_store W2 L 6 (.int .i64 (q : Int)))
            rw [E.out, G2.out]
            exact ⟨congrArg (fun z : Int => Ending.returned (.tuple #[.int .i64 z, .int .i64 0])) (by first | rfl | (simp only; omega)), R3, ⟨G3.os, G3.tape, G3.output, G3.size, G3.block⟩⟩
      · rw [if_neg h3] at E
        have HR2 := Lib.hid (row_lz (lz + 1) HR.out)
        have HG2 := Lib.hid (g_store w L 7 (.int .i64 (lz + 1 : Nat)))
        have i1 : (lz : Int) + 1 < sp := by omega
        go_enter Try.func30, Try.ntmps30
        go_wp2_with fail
        go_quiet (fail)
        go_wp2
        go_ret2
        exact ⟨by rw [E.out]; rfl, by rw [E.out]; exact HR2.out, g_drewN HG2.out _⟩
    · rw [if_neg h2] at E
      have HR2 := Lib.hid (row_lz 0 HR.out)
      have HG2 := Lib.hid (g_store w L 7 (.int .i64 (0 : Nat)))
      go_enter Try.func30, Try.ntmps30
      go_wp2
      go_ret2
      exact ⟨by rw [E.out]; rfl, by rw [E.out]; exact HR2.out, HG2.out⟩
end Go.Proofs.Ytfmaadfccnjnjaa
