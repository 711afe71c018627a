/- EcReadsBack. -/
import Derived.Test.YtdmbmjnobncgjaaFin
namespace Go.Proofs.Ytdmbmjnobncgjaa
open Go.RowKit

theorem ns_nil (w : World) : Ns .u8 w none 0 (fun _ => 0) := ⟨by omega, .inl rfl, fun i hi => by omega⟩
theorem Rest.add {s : EcS} {d : Int} {R : Nat → Int} (h : Rest s d R) (T : Nat) : Rest (addX s T) d R := h
theorem updR_same (f : Nat → Int) (k : Nat) (x : Int) : updR f k x k = x := by unfold updR; rw [if_pos rfl]
theorem updR_other (f : Nat → Int) (k j : Nat) (x : Int) (h : j ≠ k) : updR f k x j = f j := by unfold updR; rw [if_neg h]
set_option maxRecDepth 100000 in
set_option maxHeartbeats 4000000 in
theorem rbk_any (de ad v ot : Int) (A : Option Addr) (len cap : Nat) (Z : Nat → Int) (w : World) (hde : (Lit.int .u64 de).wf = true) (had : (Lit.int .u8 ad).wf = true) (hv : (Lit.int .u8 v).wf = true) (hot : (Lit.int .u8 ot).wf = true) (hz : Ns .u8 w A len Z ∧ len ≤ cap ∧ cap ≤ 9223372036854775807) : Calls Try.prog 6 #[.int .u64 de, .int .u8 ad, .int .u8 v, .int .u8 ot, .slice A len cap] w (LawPost w) := by
  obtain ⟨hd0, hd1⟩ := u64_of_wf hde
  have hm0 : 0 ≤ de % 8 := Int.emod_nonneg _ (by omega)
  have hm1 : de % 8 < 8 := Int.emod_lt_of_pos _ (by omega)
  have UV := bounds_u8 hv
  obtain ⟨ad, rfl, had2⟩ := u8_nat (bounds_u8 had)
  obtain ⟨ot, rfl, hot2⟩ := u8_nat (bounds_u8 hot)
  have HV : Hid (U8 v) := UV
  have HZ := Lib.hid hz.1
  clear hz hde had hv hot UV
  go_enter Try.func6, Try.ntmps6
  go_wp2_with fail
  generalize de % 8 = d at *
  refine (new_good w d (by omega) (by omega)).mono ?_
  rintro e w1 ⟨rfl, k1, b1'⟩
  have K1 := Lib.hid k1
  have B1 := Lib.hid b1'
  have hlt1 : w.heap.size < w1.heap.size := by obtain ⟨A, c, k⟩ := k1; exact k.row.lt
  clear k1 b1'
  generalize hL : w.heap.size = L at *
  have HL := Lib.hid hL
  clear hL
  go_wp2_with fail
  refine (awake_any w1).mono ?_
  rintro e w2 ⟨rfl, b2'⟩
  have K2 := Lib.hid (K1.out.below b2')
  have B2 := Lib.hid (bel2 (HL.out ▸ B1.out : Below w.heap.size w w1) b2')
  have hlt2 : L < w2.heap.size := Nat.lt_of_lt_of_le hlt1 b2'.size
  have HLB : Hid (w.heap.size ≤ L) := by show _ ≤ _; rw [HL.out]; exact Nat.le_refl _
  clear b2' K1 B1 hlt1 HL
  go_wp2_with fail
  refine (setreg_any w2 L _ ot 77 K2.out hot2 (u8_lit 77 (by omega))).mono ?_
  rintro e w3 ⟨rfl, k3, g3⟩
  have R3 : Hid (Rest ({ ({ e0 with dl := d } : EcS) with reg := updR ({ e0 with dl := d } : EcS).reg ot 77 }) d (updR (fun _ => 0) ot 77) ∧ ({ ({ e0 with dl := d } : EcS) with reg := updR ({ e0 with dl := d } : EcS).reg ot 77 }).ck ≤ 0) := ⟨⟨rfl, rfl, rfl, rfl⟩, by show (0 : Int) ≤ 0; omega⟩
  generalize ({ ({ e0 with dl := d } : EcS) with reg := updR ({ e0 with dl := d } : EcS).reg ot 77 }) = s3 at *
  have K3 := Lib.hid k3
  have B3 := Lib.hid (bel_only B2.out g3 HLB.out)
  have hlt3 : L < w3.heap.size := Nat.lt_of_lt_of_le hlt2 g3.size
  clear k3 g3 K2 B2 hlt2
  go_wp2_with fail
  refine (write_new w3 ad v 0 1000 (u64_lit 0 (by omega)) (u64_lit 1000 (by omega))).mono ?_
  rintro e w4 ⟨rfl, t4, b4'⟩
  have hlt4 : w3.heap.size < w4.heap.size := blk_lt t4
  have TT4 : Hid (TrW w4 w3.heap.size ⟨129, ad, v, 1000, 0, 0⟩) := trw_of t4 (u8_lit _ (by omega)) (u8_lit _ (by omega)) HV.out (u64_lit _ (by show (0 : Int) ≤ 1000 ∧ (1000 : Int) < 18446744073709551616; omega)) (u8_lit _ (by omega))
  have K4 := Lib.hid (ecq_add K3.out b4' (Nat.le_refl _) hlt4)
  have B4 : Hid (Below w.heap.size w w4) := bel2 B3.out b4'
  generalize hT : w3.heap.size = T at *
  have hX : Hid ((addX s3 T).xq T) := .inr rfl
  have hne : T ≠ L := by omega
  have hTB : w.heap.size ≤ T := by have := HLB.out; omega
  have R4 : Hid (Rest (addX s3 T) d (updR (fun _ => 0) ot 77) ∧ (addX s3 T).ck ≤ 0) := R3.out
  generalize addX s3 T = s4 at *
  clear t4 b4' hT K3 B3 hlt3
  go_wp2_with fail
  obtain ⟨t5, s5, n5, f1, f2, f3, f4, f5, f6⟩ := fin_write ad v d (updR (fun _ => 0) ot 77) Z len 0 (by omega) (by omega) hm0 hm1 ⟨129, ad, v, 1000, 0, 0⟩ s4 rfl R4.out.1 R4.out.2
  have x5 := finP_xq 200 0 ⟨129, ad, v, 1000, 0, 0⟩ s4 0 Z len
  rw [f1] at x5
  refine (fin_any w4 L T _ t5 s4 s5 0 n5 w A len cap Z HZ.out B4.out hTB HLB.out K4.out TT4.out hne hX.out (by omega) (by omega) (by show (0 : Int) ≤ 0; omega) (by show (0 : Int) ≤ 6; omega) f1 f3).mono ?_
  rintro e w5 ⟨rfl, k5, t5', c5⟩
  have R5 := Lib.hid f2
  have CK5 := Lib.hid f4
  have K5 := Lib.hid k5
  have B5 := Lib.hid (tl_below B4.out c5 hTB HLB.out)
  have hlt5 : L < w5.heap.size := by obtain ⟨A, c, k⟩ := k5; exact k.row.lt
  rw [show (ad : Int).toNat = ad from rfl] at R5
  clear f1 f2 f3 f4 k5 t5' c5 K4 TT4 B4 R4 R3 x5 hX hne hTB hlt4
  generalize t5.vl = z5 at *
  generalize hRG : updR (updR (fun _ => 0) ot 77) ad v = RG at *
  have HRG : Hid (RG ad = v ∧ (ot = ad ∨ RG ot = 77)) := by
    show _ ∧ _
    rw [← hRG]
    refine ⟨updR_same _ _ _, ?_⟩
    by_cases h : ot = ad
    · exact .inl h
    · exact .inr (by rw [updR_other _ _ _ _ h, updR_same])
  clear hRG
  go_wp2_with fail
  refine (read_new w5 ad n5 1000 (by unfold U64; omega) (u64_lit 1000 (by omega))).mono ?_
  rintro e w6 ⟨rfl, t6, b6'⟩
  have hl6 : lat n5 1000 = n5 + 1000 := by unfold lat; rw [if_pos (by omega)]
  rw [hl6] at t6
  have hlt6 : w5.heap.size < w6.heap.size := blk_lt t6
  have TT6 : Hid (TrW w6 w5.heap.size ⟨128, ad, 0, n5 + 1000, 0, 0⟩) := trw_of t6 (u8_lit _ (by omega)) (u8_lit _ (by omega)) (u8_lit _ (by omega)) (by show 0 ≤ n5 + 1000 ∧ n5 + 1000 < 18446744073709551616; omega) (u8_lit _ (by omega))
  have K6 := Lib.hid (ecq_add K5.out b6' (Nat.le_refl _) hlt6)
  have B6 : Hid (Below w.heap.size w w6) := bel2 B5.out b6'
  generalize hT : w5.heap.size = T at *
  have hX : Hid ((addX s5 T).xq T) := .inr rfl
  have hne : T ≠ L := by omega
  have hTB : w.heap.size ≤ T := by have := HLB.out; omega
  have R6 : Hid (Rest (addX s5 T) d RG ∧ (addX s5 T).ck ≤ n5) := ⟨R5.out, by show s5.ck ≤ n5; rw [CK5.out]; omega⟩
  generalize addX s5 T = s6 at *
  clear t6 b6' hT K5 B5 hlt5 hl6
  go_wp2_with fail
  obtain ⟨t7, s7, n7, f1, f2, f3, f4, f5, f6⟩ := fin_read ad d RG Z len n5 (by omega) (by omega) hm0 hm1 ⟨128, ad, 0, n5 + 1000, 0, 0⟩ s6 rfl R6.out.1 R6.out.2
  refine (fin_any w6 L T _ t7 s6 s7 n5 n7 w A len cap Z HZ.out B6.out hTB HLB.out K6.out TT6.out hne hX.out (by omega) (by omega) (by show (0 : Int) ≤ 0; omega) (by show (0 : Int) ≤ 6; omega) f1 f3).mono ?_
  rintro e w7 ⟨rfl, k7, t7', c7⟩
  have R7 := Lib.hid f2.1
  have V7 := Lib.hid f2.2
  have CK7 := Lib.hid f4
  have K7 := Lib.hid k7
  have B7 := Lib.hid (tl_below B6.out c7 hTB HLB.out)
  have hlt7 : L < w7.heap.size := by obtain ⟨A, c, k⟩ := k7; exact k.row.lt
  clear f1 f2 f3 f4 k7 t7' c7 K6 TT6 B6 R6 hX hne hTB hlt6 CK5 R5
  have V7 : Hid (t7.vl = v) := by show _ = _; rw [V7.out, show (ad : Int).toNat = ad from rfl]; exact HRG.out.1
  rw [V7.out]
  go_wp2_with fail
  refine (read_new w7 ot n7 1000 (by unfold U64; omega) (u64_lit 1000 (by omega))).mono ?_
  rintro e w8 ⟨rfl, t8, b8'⟩
  have hl8 : lat n7 1000 = n7 + 1000 := by unfold lat; rw [if_pos (by omega)]
  rw [hl8] at t8
  have hlt8 : w7.heap.size < w8.heap.size := blk_lt t8
  have TT8 : Hid (TrW w8 w7.heap.size ⟨128, ot, 0, n7 + 1000, 0, 0⟩) := trw_of t8 (u8_lit _ (by omega)) (u8_lit _ (by omega)) (u8_lit _ (by omega)) (by show 0 ≤ n7 + 1000 ∧ n7 + 1000 < 18446744073709551616; omega) (u8_lit _ (by omega))
  have K8 := Lib.hid (ecq_add K7.out b8' (Nat.le_refl _) hlt8)
  have B8 : Hid (Below w.heap.size w w8) := bel2 B7.out b8'
  generalize hT : w7.heap.size = T at *
  have hX : Hid ((addX s7 T).xq T) := .inr rfl
  have hne : T ≠ L := by omega
  have hTB : w.heap.size ≤ T := by have := HLB.out; omega
  have R8 : Hid (Rest (addX s7 T) d RG ∧ (addX s7 T).ck ≤ n7) := ⟨R7.out, by show s7.ck ≤ n7; rw [CK7.out]; omega⟩
  generalize addX s7 T = s8 at *
  clear t8 b8' hT K7 B7 hlt7 hl8
  go_wp2_with fail
  obtain ⟨t9, s9, n9, f1, f2, f3, f4, f5, f6⟩ := fin_read ot d RG (fun _ => 0) 0 n7 (by omega) (by omega) hm0 hm1 ⟨128, ot, 0, n7 + 1000, 0, 0⟩ s8 rfl R8.out.1 R8.out.2
  refine (fin_any w8 L T _ t9 s8 s9 n7 n9 w none 0 0 (fun _ => 0) (ns_nil w) B8.out hTB HLB.out K8.out TT8.out hne hX.out (by omega) (by omega) (by show (0 : Int) ≤ 0; omega) (by show (0 : Int) ≤ 6; omega) f1 f3).mono ?_
  rintro e w9 ⟨rfl, k9, t9', c9⟩
  have R9 := Lib.hid f2.1
  have V9 := Lib.hid f2.2
  have CK9 := Lib.hid f4
  have K9 := Lib.hid k9
  have B9 := Lib.hid (tl_below B8.out c9 hTB HLB.out)
  have hlt9 : L < w9.heap.size := by obtain ⟨A, c, k⟩ := k9; exact k.row.lt
  clear f1 f2 f3 f4 k9 t9' c9 K8 TT8 B8 R8 hX hne hTB hlt8 CK7 R7
  have V9 : Hid (t9.vl = RG ot) := V9.out
  rw [V9.out]
  have P := reg_any w9 L s9 ad K9.out had2
  rw [show s9.reg ad = v by rw [R9.out.2.2.2]; exact HRG.out.1] at P
  by_cases hoa : ot = ad
  · subst hoa
    generalize RG ot = y at *
    clear V7 V9 HRG
    go_wp2_with fail
    refine P.mono ?_
    rintro e w10 ⟨rfl, rfl⟩
    go_wp2
    go_ret
    exact ⟨rfl, B9.out⟩
  · have hy : RG ot = 77 := HRG.out.2.resolve_left hoa
    rw [hy]
    have hb : ((ot : Int) == (ad : Int)) = false := beq_f (by omega)
    clear V7 V9 HRG
    go_wp2_with fail
    refine P.mono ?_
    rintro e w10 ⟨rfl, rfl⟩
    go_wp2
    go_ret
    exact ⟨rfl, B9.out⟩
end Go.Proofs.Ytdmbmjnobncgjaa
