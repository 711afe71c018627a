/- The walk of IdlePredictorBounds. -/
import Derived.Test.YtfbgkdjjfjlhhaaPbm
import Derived.Test.YtfbgkdjjfjlhhaaBrk
namespace Go.Proofs.Ytfbgkdjjfjlhhaa
open Go.RowKit

def dl (Z : Nat → Int) (k : Nat) : List Int := (List.range k).map (fun i => Z i % 1125899906842624)
theorem dl_succ (Z : Nat → Int) (k : Nat) : dl Z (k + 1) = dl Z k ++ [Z k % 1125899906842624] := by simp [dl, List.range_succ]
def rl (g : Nat → Int) (k : Nat) : List Int := (List.range k).map g
theorem rl_succ (g : Nat → Int) (k : Nat) : rl g (k + 1) = rl g k ++ [g k] := by simp [rl, List.range_succ]
theorem rl_last (g : Nat → Int) (k : Nat) (hk : k < 8) : last8 (rl g k ++ [g k]) = rl g (k + 1) := by
  rw [rl_succ]
  unfold last8
  rw [show (rl g k ++ [g k]).length - 8 = 0 by simp [rl]; omega]
  rfl
theorem dl_get (Z : Nat → Int) (m i : Nat) (hm : 8 ≤ m) (hi : i < 8) : (last8 (dl Z m)).getD i 0 = Z (m - 8 + i) % 1125899906842624 := by
  have hl : (dl Z m).length = m := by simp [dl]
  unfold last8
  rw [hl, List.getD_eq_getElem?_getD, List.getElem?_drop]
  unfold dl
  rw [List.getElem?_map, List.getElem?_range (by omega)]
  rfl
theorem dl_len (Z : Nat → Int) (m : Nat) (hm : 8 ≤ m) : (last8 (dl Z m)).length = 8 := by simp [last8, dl]; omega
theorem rl_get (g : Nat → Int) (n i : Nat) (hi : i < n) : (rl g n).getD i 0 = g i := by
  unfold rl
  rw [List.getD_eq_getElem?_getD, List.getElem?_map, List.getElem?_range hi]
  rfl
set_option maxRecDepth 100000 in
set_option maxHeartbeats 4000000 in
theorem pbd_walk (A : Option Addr) (m c : Nat) (Z : Nat → Int) (sh t : Int) (w : World) (h : Zs w A m Z ∧ m ≤ c ∧ c ≤ 9223372036854775807) (_hs : (Lit.int .i64 sh).wf = true) (ht : (Lit.int .u64 t).wf = true) :
    Calls Try.prog 11 #[.slice A m c, .int .i64 sh, .int .u64 t] w (LawPost w) := by
  have LP : Hid (∀ w', Below w.heap.size w w' → LawPost w (.returned (.bool true)) w') := fun _ h => ⟨rfl, h⟩
  obtain ⟨h, hmc, hc⟩ := h
  have hm := h.len
  have ht0 := (u64_of_wf ht).1
  clear ht
  by_cases h8 : m < 8
  · go_enter Try.func11, Try.ntmps11
    go_wp2_with fail
    refine (awake_any _).mono ?_
    rintro e w1 ⟨rfl, hb1⟩
    go_wp2
    go_ret
    exact ⟨rfl, hb1⟩
  by_cases h30 : 30 < m
  · go_enter Try.func11, Try.ntmps11
    go_wp2_with fail
    refine (awake_any _).mono ?_
    rintro e w1 ⟨rfl, hb1⟩
    go_wp2
    go_ret
    exact ⟨rfl, hb1⟩
  have TW := Lib.hid (duo_new w)
  have B2 : Below w.heap.size w ((w.alloc (.cells #[.slice none 0 0] 73)).alloc (.cells #[.slice none 0 0] 73)) := ((Below.refl _ _).alloc (Nat.le_refl _) _).alloc (by simp) _
  obtain ⟨b, off, rfl, hbw, hcell⟩ : ∃ b off, A = some ⟨b, off, none⟩ ∧ b < w.heap.size ∧ ∀ i, i < m → w.cell? ⟨b, off + i, none⟩ = some (.int .u64 (Z i)) := by
    rcases h.row with h0 | h0
    · omega
    · exact h0
  have HC := Lib.hid hcell
  have HW := Lib.hid h.wf
  clear h hcell
  go_enter Try.func11, Try.ntmps11
  go_wp2_with fail
  refine (new_a w).mono ?_
  rintro e w1 ⟨rfl, rfl⟩
  go_wp2_with fail
  refine (new_a _).mono ?_
  rintro e w1 ⟨rfl, rfl⟩
  have e : (w.alloc (.cells #[.slice none 0 0] 73)).heap.size = w.heap.size + 1 := by simp
  rw [e]
  clear e
  generalize ((w.alloc (.cells #[.slice none 0 0] 73)).alloc (.cells #[.slice none 0 0] 73)) = w2 at *
  generalize hB : w.heap.size = B at *
  have HB := Lib.hid hB
  clear hB
  have HM : Hid (m = m - 8 + 8) := by show _ = _; omega
  have hcm : ¬ c = m - 8 := by omega
  go_upto_region 6 with fail
  go_wp2_with fail
  go_loopw [12] (fun i wr => ∃ (k : Nat), k ≤ m ∧ i = .int .i64 k ∧ Duo wr B B (B + 1) (last8 (dl Z k)) [] ∧ Below B w wr) (fun i _ => m - (intOf i).toNat)
  case atStart => exact ⟨0, by omega, rfl, TW.out, B2⟩
  case round =>
    clear B2 TW
    obtain ⟨k, hk, rfl, TW, BW⟩ := hrel
    by_cases hlt : k < m
    · have d0 := HC.out k hlt
      rw [← BW.cell hbw] at d0
      obtain ⟨z0, z1⟩ := HW.out k hlt
      have x1 : Z k % 1125899906842624 ≤ 1152921504606846976 := by omega
      have R2 := duo_rec TW x1 (last8_len _) (by have := BW.size; have := HB.out; omega) (Nat.le_refl _)
      rw [last8_snoc, ← dl_succ] at R2
      have BW := Lib.hid BW
      have R2 := Lib.hid R2
      generalize Z k = d at *
      clear TW x1
      go_wp2_with fail
      refine R2.out.mono ?_
      rintro e w3 ⟨rfl, T3, b3⟩
      have T3 := Lib.hid T3
      have b3 := Lib.hid (BW.out.trans b3)
      clear R2
      go_wp2
      go_roundw
      case rel => exact ⟨k + 1, by omega, by go_num, T3.out, b3.out⟩
      case measure => simp [intOf]; omega
    · obtain rfl : k = m := by omega
      have S8 : Hid (modOf sh 8 < 8) := (modOf_spec sh 8 (by omega) (by omega)).2
      have MD := Lib.hid (fun W => mod_any sh 8 (by omega) (by omega) W)
      generalize hs : modOf sh 8 = s at *
      have F : ∀ i, i < 8 → 0 ≤ Z (k - 8 + i) % 1125899906842624 ∧ Z (k - 8 + i) % 1125899906842624 ≤ 1125899906842624 := fun i _ => by omega
      have GA := Lib.hid (fun (W : World) (T : Duo W B B (B + 1) (last8 (dl Z k)) (rl (rot (fun i => Z (k - 8 + i) % 1125899906842624) s) 8)) t => T.exp (dl_len Z k (by omega)) (fun i => Z (k - 8 + i) % 1125899906842624) (fun i hi => dl_get Z k i (by omega) hi) F t)
      have GB := Lib.hid (fun (W : World) (T : Duo W B B (B + 1) (last8 (dl Z k)) (rl (rot (fun i => Z (k - 8 + i) % 1125899906842624) s) 8)) t => T.swap.exp (by simp [rl]) (rot (fun i => Z (k - 8 + i) % 1125899906842624) s) (fun i hi => rl_get _ 8 i hi) (fun i hi => F ((i + s) % 8) (by omega)) t)
      have RE := Lib.hid (And.intro (sm_rot (fun i => Z (k - 8 + i) % 1125899906842624) s S8.out) (mx_rot (fun i => Z (k - 8 + i) % 1125899906842624) s S8.out))
      have ME := Lib.hid (mean_bd 1152921504606846976 (fun i => Z (k - 8 + i) % 1125899906842624) s S8.out (fun i hi => (F i hi).1))
      have MX : Hid (mx (rot (fun i => Z (k - 8 + i) % 1125899906842624) s) 8 ≤ 1125899906842624) := mx_le (by omega) (fun i hi => (F ((i + s) % 8) (by omega)).2)
      have FD : Hid (∀ j, j < 8 → rot (fun i => Z (k - 8 + i) % 1125899906842624) s j = Z (k - 8 + (j + s) % 8) % 1125899906842624) := fun j _ => rfl
      have CC : Hid (∀ i, i < 8 → w.cell? ⟨b, off + (k - 8) + i, none⟩ = some (.int .u64 (Z (k - 8 + i)))) := fun i hi => by rw [Nat.add_assoc]; exact HC.out (k - 8 + i) (by omega)
      have CW : Hid (∀ i, i < 8 → U64 (Z (k - 8 + i))) := fun i hi => HW.out _ (by omega)
      rw [show k - (k - 8) = 8 by omega]
      generalize rot (fun i => Z (k - 8 + i) % 1125899906842624) s = g at *
      generalize sm (fun i => Z (k - 8 + i) % 1125899906842624) 8 = SM at *
      generalize mx (fun i => Z (k - 8 + i) % 1125899906842624) 8 = MM at *
      generalize last8 (dl Z k) = xs at *
      clear F HC HW hs HM hcm
      have BW := Lib.hid BW
      have TW := Lib.hid TW
      generalize hkk : k - 8 = p at *
      have KK := Lib.hid hkk
      clear hkk
      go_wp2_with fail
      go_loopw [13, 10, 11] (fun i lo hi wq => ∃ (j : Nat), j ≤ 8 ∧ i = .int .i64 j ∧ lo = .int .u64 (mn 1152921504606846976 g j) ∧ hi = .int .u64 (mx g j) ∧ Duo wq B B (B + 1) xs (rl g j) ∧ Below B w wq) (fun i _ _ _ => 8 - (intOf i).toNat)
      case atStart => exact ⟨0, by omega, rfl, rfl, rfl, TW.out, BW.out⟩
      case round =>
        clear TW BW
        obtain ⟨j, hj, rfl, rfl, rfl, TW, BW⟩ := hrel
        by_cases hlt : j < 8
        · have hq8 : (j + s) % 8 < 8 := by omega
          have hs8 := S8.out
          have d0 := CC.out _ hq8
          have hgj := FD.out j hlt
          obtain ⟨z0, z1⟩ := CW.out _ hq8
          rw [← BW.cell hbw] at d0
          have hqe : ((j : Int) + (s : Int)) % 8 = (((j + s) % 8 : Nat) : Int) := by omega
          have NM : Hid (mn 1152921504606846976 g (j + 1) = min (mn 1152921504606846976 g j) (g j)) := rfl
          have XM : Hid (mx g (j + 1) = max (mx g j) (g j)) := rfl
          generalize (j + s) % 8 = q at *
          have x1 : g j ≤ 1152921504606846976 := by omega
          have R2 := duo_rec TW.swap x1 (by simp [rl]; omega) (by have := BW.size; have := HB.out; omega) (by omega)
          rw [rl_last g j hlt] at R2
          have R2 := Lib.hid R2
          have BW := Lib.hid BW
          have HG := Lib.hid hgj
          have i1 : (q : Int) < 8 := by omega
          clear TW x1 hgj
          go_wp2_with fail
          refine (MD.out _).mono ?_
          rintro e w3 ⟨rfl, rfl⟩
          go_upto_region 17 with fail
          rw [← HG.out]
          clear hqe d0 z0 z1 HG
          generalize mn 1152921504606846976 g j = lo at *
          generalize mx g j = hi at *
          generalize g j = d at *
          go_wp2_with fail
          refine R2.out.mono ?_
          rintro e w4 ⟨rfl, T3, b3⟩
          have T3 := Lib.hid T3.swap
          have b3 := Lib.hid (BW.out.trans b3)
          clear R2
          go_wp2
          go_roundw
          case rel => exact ⟨j + 1, by omega, by go_num, by rw [NM.out], by rw [XM.out], T3.out, b3.out⟩
          case measure => simp [intOf]; omega
        · obtain rfl : j = 8 := by omega
          have CA := GA.out wr TW
          have CB := GB.out wr TW
          obtain ⟨re1, re2⟩ := RE.out
          rw [re1, re2] at CB
          obtain ⟨m1, m2⟩ := ME.out
          have m3 := MX.out
          have q0 : (SM - MM) / 7 ≤ 1152921504606846976 := by omega
          generalize (SM - MM) / 7 = Q at *
          generalize mn 1152921504606846976 g 8 = lo at *
          generalize mx g 8 = hi at *
          have C0 : Calls Try.prog 34 #[.pointer (some ⟨B, 0, none⟩), .int .u64 1152921504606846976] wr fun e w' => e = .returned (.int .u64 Q) ∧ wr = w' := by
            have := CA 1152921504606846976
            rwa [show min 1152921504606846976 Q = Q by omega] at this
          have CA := CA t
          have CB := CB t
          rw [Int.min_comm] at CA CB
          have CA := Lib.hid CA
          have CB := Lib.hid CB
          have C0 := Lib.hid C0
          have BW := Lib.hid BW
          clear TW RE ME MX GA GB q0 m3
          go_wp2_with fail
          refine C0.out.mono ?_
          rintro e w3 ⟨rfl, rfl⟩
          go_wp2_with fail
          refine CA.out.mono ?_
          rintro e w3 ⟨rfl, rfl⟩
          go_wp2_with fail
          refine CB.out.mono ?_
          rintro e w3 ⟨rfl, rfl⟩
          go_wp2_with fail
          refine CA.out.mono ?_
          rintro e w3 ⟨rfl, rfl⟩
          go_wp2_with fail
          refine (awake_any _).mono ?_
          rintro e w3 ⟨rfl, hb3⟩
          go_wp2
          go_ret
          exact LP.out _ (BW.out.trans (hb3.mono (by have := BW.out.size; have := HB.out; omega)))
end Go.Proofs.Ytfbgkdjjfjlhhaa
