/- ThermalAllocateIsFair. -/
import Derived.Test.YtopbfnnmgckikaaAfp
namespace Go.Proofs.Ytopbfnnmgckikaa
open Go.RowKit

set_option maxRecDepth 100000 in
set_option maxHeartbeats 8000000 in
theorem aif_any (bud : Int) (A : Option Addr) (m c : Nat) (g : Nat → St) (w : World) (hb0 : (Lit.int .u64 bud).wf = true) (h : SlS .u64 w A m g ∧ m ≤ c ∧ c ≤ 9223372036854775807 ∧ (A = none → c = 0)) : Calls Try.prog 8 #[.int .u64 bud, .slice A m c] w (LawPost w) := by
  obtain ⟨h, _, _, _⟩ := h
  obtain ⟨bu0, bu1⟩ := wf_u64 hb0
  have hm0 : 0 ≤ bud % 200 := Int.emod_nonneg _ (by omega)
  have hm1 : bud % 200 < 200 := Int.emod_lt_of_pos _ (by omega)
  have hl := h.len
  by_cases h40 : 40 < m
  · clear h
    go_enter Try.func8, Try.ntmps8
    go_wp2_with fail
    refine (awake_any w).mono ?_
    rintro e w2 ⟨rfl, hb⟩
    have B2 := Lib.hid hb
    clear hb
    go_wp2
    go_ret
    exact ⟨rfl, B2.out⟩
  have P := actors_q A m c g w h
  have HV : Hid (vA (acN m) (acF g) = true) := acF_ok g m
  clear h
  go_enter Try.func8, Try.ntmps8
  go_wp2_with fail
  refine P.mono ?_
  clear P
  rintro e w1 ⟨A2, c2, rfl, hS, hb⟩
  have T1 := Lib.hid hS
  have B1 := Lib.hid hb
  clear hb hS
  generalize acN m = n2 at *
  generalize acF g = f2 at *
  have hn2 := vA_len HV.out
  have HG := Lib.hid (ga_of T1.out HV.out)
  have P := alc_any (bud % 200) A2 n2 c2 f2 w1 (by omega) T1.out
  go_wp2_with fail
  refine (P.mono fun _ _ => alq_of).mono ?_
  clear P
  rintro e w2 ⟨l2, k2, A2x, c2x, rfl, hR2, hL2, hb⟩
  generalize bud % 200 = bx at *
  have T2 := Lib.hid (T1.out.below hb (Nat.le_refl _))
  have B2 := Lib.hid (bel2 B1.out hb)
  have L2 := Lib.hid hL2
  have AF := alloc_fair hR2 HV.out HG.out
  have AL := (alloc_len hR2).2.1
  clear hb hL2 hR2 T1 B1
  have LP : Hid ((k2 = 0 ∧ ∀ i, i < l2.length → 0 ≤ l2.getD i 0) ∨ k2 ≠ 0) := by
    rcases AF with ⟨e1, _⟩ | ⟨e1, _, F⟩
    · right; omega
    · left
      refine ⟨e1, fun i hi => ?_⟩
      have := F.2.1
      have a := F.2.2.1 i (by omega)
      have b := HG.out.ok i (by omega)
      omega
  have AFH := Lib.hid AF
  have ALH := Lib.hid AL
  clear AF AL
  go_wp2_with fail
  go_loopw [12, 9, 10] (fun i s t wr => ∃ k : Nat, k ≤ n2 ∧ i = .int .i64 k ∧ s = .int .u64 (atS 0 f2 k) ∧ t = .int .u64 (atS 4294967296 f2 k) ∧ Below w2.heap.size w2 wr) (fun i _ _ _ => n2 - (intOf i).toNat)
  case atStart => exact ⟨0, Nat.zero_le _, rfl, rfl, rfl, Below.refl _ _⟩
  case round =>
    obtain ⟨k, hk, rfl, rfl, rfl, hB⟩ := hrel
    by_cases hlt : k < n2
    case pos =>
      rcases T2.out.row with h0 | ⟨b, off, rfl, hb, hc⟩
      · omega
      obtain ⟨c0, c1, c2⟩ := hc k hlt
      rw [← hB.cell hb] at c0 c1 c2
      have hbr : b < wr.heap.size := by have := hB.size; omega
      have okk := HG.out.ok k hlt
      have s0 := atS_bd HG.out 0 k hk
      have s1 := atS_bd HG.out 4294967296 k hk
      have t0 : Hid (atS 0 f2 (k + 1) = atS 0 f2 k + (f2 k).b) := atS0_succ HG.out hlt
      have t1 : Hid (atS 4294967296 f2 (k + 1) = atS 4294967296 f2 k + wI (f2 k)) := atSM_succ HG.out hlt
      have WE : Hid (wI (f2 k) = wantI (f2 k).a (f2 k).b (f2 k).c) := rfl
      have wbd := atG_bd (lv := 0) okk
      have hw0 : 0 ≤ wI (f2 k) ∧ wI (f2 k) ≤ 4294967296 := by have := WE.out; omega
      clear hc wbd
      generalize atS 0 f2 k = sm0 at *
      generalize atS 4294967296 f2 k = sm1 at *
      generalize wI (f2 k) = wi at *
      generalize f2 k = s at *
      obtain ⟨q, y, z⟩ := s
      simp only at c0 c1 c2 okk t0 WE
      have HWN : Hid (wantI q y z = wi) := WE.out.symm
      obtain ⟨hw0, hw1⟩ := hw0
      have HB1 := Lib.hid hB
      go_upto_region 10 with fail
      have KP : Hid (∀ w' : World, Below wr.drew.heap.size wr.drew w' → (w'.cell? ⟨b, off + k * 3, none⟩ = some (.int .u64 q) ∧ w'.cell? ⟨b, off + k * 3 + 1, none⟩ = some (.int .u64 y) ∧ w'.cell? ⟨b, off + k * 3 + 2, none⟩ = some (.int .u64 z))) := fun w' hb' => by
        have hb' : Below wr.heap.size wr w' := (Below.refl _ wr).drew.trans hb'
        exact ⟨(hb'.cell hbr).trans c0, (hb'.cell hbr).trans c1, (hb'.cell hbr).trans c2⟩
      have x0 : sm0 + y < 18446744073709551616 := by omega
      have x1 : sm1 + wi < 18446744073709551616 := by omega
      clear hB c0 c1 c2
      go_region_held3 (fun w' => w'.cell? ⟨b, off + k * 3, none⟩ = some (.int .u64 q) ∧ w'.cell? ⟨b, off + k * 3 + 1, none⟩ = some (.int .u64 y) ∧ w'.cell? ⟨b, off + k * 3 + 2, none⟩ = some (.int .u64 z)) (first | exact KP.out _ hb9 | exact KP.out _ (Below.refl _ _) | go_keep) ((go_at_call 33; refine (lwant_any q y z _).mono ?_; rw [HWN.out]; rintro e w9 ⟨rfl, hb9⟩))
      all_goals
        have BB := Lib.hid (bel2 HB1.out ((Below.refl _ wr).drew.trans hb9))
        clear hb9 KP
        go_wp2
        go_roundw
        case rel => exact ⟨k + 1, by omega, by go_num, by rw [t0.out]; exact congrArg (Value.int .u64) (by rw [IntKind.wrap_u64]; omega), by rw [t1.out]; exact congrArg (Value.int .u64) (by rw [IntKind.wrap_u64]; omega), BB.out⟩
        case measure => simp [intOf]; omega
    case neg =>
    have hkn : k = n2 := by omega
    subst hkn
    have B3 := Lib.hid (bel2 B2.out hB)
    have T3 := Lib.hid (T2.out.below hB (Nat.le_refl _))
    have L3 := Lib.hid (L2.out.below hB)
    clear hB T2 L2 B2
    rcases AFH.out with ⟨e1, hlo⟩ | ⟨e1, hle, F⟩
    · generalize atS 0 f2 k = sm0 at *
      generalize atS 4294967296 f2 k = sm1 at *
      subst e1
      clear LP AFH ALH
      have hd : decide (bx < sm0) = true := decide_eq_true hlo
      go_wp2_with fail
      refine (awake_any wr).mono ?_
      rintro e w4 ⟨rfl, hb⟩
      have B4 := Lib.hid (bel2 B3.out hb)
      clear hb
      go_wp2
      go_ret
      exact ⟨rfl, B4.out⟩
    · have hlen := ALH.out e1
      have HLW : Hid (∀ i, i < l2.length → 0 ≤ l2.getD i 0) := by
        rcases LP.out with h | h
        · exact h.2
        · exact absurd e1 h
      have FP := fair_any bx A2 k c2 f2 A2x c2x l2 wr (by omega) T3.out L3.out HLW.out
      have HLEN := Lib.hid hlen
      have FH := Lib.hid F
      rw [hlen] at FP ⊢
      subst e1
      clear hlen F LP AFH ALH
      have SUM : Hid (sumTo l2 k = min bx (atS 4294967296 f2 k)) := FH.out.2.2.2.1
      have s1 := atS_bd HG.out 4294967296 k (Nat.le_refl _)
      generalize hs0 : atS 0 f2 k = sm0 at *
      generalize hs1 : atS 4294967296 f2 k = sm1 at *
      clear hs0 hs1
      go_wp2_with fail
      refine FP.mono ?_
      clear FP
      rintro e w4 ⟨r, rfl, hr, hb⟩
      have hrt : r = true := hr.2 FH.out
      subst hrt
      have B4 := Lib.hid (bel2 B3.out hb)
      have T4 := Lib.hid (T3.out.below hb (Nat.le_refl _))
      have L4 := Lib.hid (L3.out.below hb)
      clear hb hr T3 L3 B3
      go_wp2_with fail
      go_loopw [13, 11] (fun i s wr => ∃ a : Nat, a ≤ k ∧ i = .int .i64 a ∧ s = .int .u64 (sumTo l2 a) ∧ Below w4.heap.size w4 wr) (fun i _ _ => k - (intOf i).toNat)
      case atStart => exact ⟨0, Nat.zero_le _, rfl, rfl, Below.refl _ _⟩
      case round =>
        obtain ⟨a, ha, rfl, rfl, hB⟩ := hrel
        by_cases hla : a < k
        case pos =>
          rcases T4.out.row with h0 | ⟨b, off, rfl, hb, hc⟩
          · omega
          rcases L4.out.2 with h0 | ⟨bg, og, rfl, hbg, hgc⟩
          · have := HLEN.out; rw [h0] at this; simp at this; omega
          obtain ⟨c0, c1, c2⟩ := hc a hla
          have cg := hgc a (by have := HLEN.out; omega)
          rw [← hB.cell hb] at c0 c1 c2
          rw [← hB.cell (p := ⟨bg, og + a, none⟩) hbg] at cg
          have hbr : b < wr.heap.size := by have := hB.size; omega
          have hbgr : bg < wr.heap.size := by have := hB.size; omega
          have okk := HG.out.ok a hla
          obtain ⟨bd0, bd1⟩ := FH.out.2.2.1 a hla
          have x0 := HLW.out a (by have := HLEN.out; omega)
          have sb := sumTo_bd HG.out ha (fun i hi => FH.out.2.2.1 i (by omega))
          have SN : Hid (sumTo l2 (a + 1) = sumTo l2 a + l2.getD a 0) := rfl
          have WE : Hid (wI (f2 a) = wantI (f2 a).a (f2 a).b (f2 a).c) := rfl
          have wbd := atG_bd (lv := 0) okk
          have hwi : wI (f2 a) ≤ 4294967296 := by have := WE.out; omega
          clear hc hgc wbd
          generalize l2.getD a 0 = x at *
          generalize sumTo l2 a = sm at *
          generalize wI (f2 a) = wi at *
          generalize f2 a = s at *
          obtain ⟨q, y, z⟩ := s
          simp only at c0 c1 c2 okk bd0 WE
          have HWN : Hid (wantI q y z = wi) := WE.out.symm
          have HB1 := Lib.hid hB
          go_upto_region 18 with fail
          clear hB WE
          have KP : Hid (∀ w' : World, Below wr.drew.heap.size wr.drew w' → (w'.cell? ⟨b, off + a * 3, none⟩ = some (.int .u64 q) ∧ w'.cell? ⟨b, off + a * 3 + 1, none⟩ = some (.int .u64 y) ∧ w'.cell? ⟨b, off + a * 3 + 2, none⟩ = some (.int .u64 z) ∧ w'.cell? ⟨bg, og + a, none⟩ = some (.int .u64 x))) := fun w' hb' => by
            have hb' : Below wr.heap.size wr w' := (Below.refl _ wr).drew.trans hb'
            exact ⟨(hb'.cell hbr).trans c0, (hb'.cell hbr).trans c1, (hb'.cell hbr).trans c2, (hb'.cell hbgr).trans cg⟩
          have hd : decide (x < y) = false := decide_eq_false (by omega)
          have hd2 : decide (wi < x) = false := decide_eq_false (by omega)
          have t1 : ¬ x < y := by omega
          have t2 : ¬ wi < x := by omega
          have hsx : sm + x < 18446744073709551616 := by omega
          clear c0 c1 c2 cg
          go_region_held3 (fun w' => w'.cell? ⟨b, off + a * 3, none⟩ = some (.int .u64 q) ∧ w'.cell? ⟨b, off + a * 3 + 1, none⟩ = some (.int .u64 y) ∧ w'.cell? ⟨b, off + a * 3 + 2, none⟩ = some (.int .u64 z) ∧ w'.cell? ⟨bg, og + a, none⟩ = some (.int .u64 x)) (first | exact KP.out _ hb9 | exact KP.out _ (Below.refl _ _) | go_keep) ((go_at_call 33; refine (lwant_any q y z _).mono ?_; rw [HWN.out]; rintro e w9 ⟨rfl, hb9⟩))
          all_goals
            have BB := Lib.hid (bel2 HB1.out ((Below.refl _ wr).drew.trans hb9))
            have cg9 := (KP.out _ hb9).2.2.2
            clear hb9 KP
            go_wp2
            go_roundw
            case rel => exact ⟨a + 1, by omega, by go_num, by rw [SN.out], BB.out⟩
            case measure => simp [intOf]; omega
        case neg =>
        have hak : a = k := by omega
        subst hak
        have B5 := Lib.hid (bel2 B4.out hB)
        have te := SUM.out
        have sb := sumTo_bd HG.out ha (fun i hi => FH.out.2.2.1 i (by omega))
        clear hB B4 T4 L4 SUM
        generalize sumTo l2 a = sm at *
        have hd : decide (sm0 ≤ bx) = true := decide_eq_true hle
        by_cases tm : sm1 < bx
        · have hm : (sm == sm1) = true := by simp; omega
          clear te
          go_wp2_with fail
          refine (awake_any wr).mono ?_
          rintro e w6 ⟨rfl, hb⟩
          have B6 := Lib.hid (bel2 B5.out hb)
          clear hb
          go_wp2
          go_ret
          exact ⟨rfl, B6.out⟩
        · have hm : (sm == bx) = true := by simp; omega
          clear te
          go_wp2_with fail
          refine (awake_any wr).mono ?_
          rintro e w6 ⟨rfl, hb⟩
          have B6 := Lib.hid (bel2 B5.out hb)
          clear hb
          go_wp2
          go_ret
          exact ⟨rfl, B6.out⟩
end Go.Proofs.Ytopbfnnmgckikaa
