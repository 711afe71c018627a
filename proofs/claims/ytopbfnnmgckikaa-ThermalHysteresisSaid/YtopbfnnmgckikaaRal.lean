/- The reference's Allocate. -/
import Derived.Test.YtopbfnnmgckikaaAlw
namespace Go.Proofs.Ytopbfnnmgckikaa
open Go.RowKit

theorem fr_zero (L : Int) (f : Nat → St) (rest : Int) (j : Nat) (h : frR L f rest j = 0) : ∀ i, frR L f rest (j + i) = 0 := by
  intro i
  induction i with
  | zero => exact h
  | succ i ih =>
    have e : frR L f rest (j + i + 1) = if 0 < frR L f rest (j + i) ∧ elg L (f (j + i)) then frR L f rest (j + i) - 1 else frR L f rest (j + i) := rfl
    rw [← Nat.add_assoc, e, ih, if_neg (fun x => by have := x.1; omega)]
theorem mix_end (L : Int) (f : Nat → St) (rest : Int) (n j : Nat) (h : frR L f rest j = 0) : mixL L f rest n j = filL L f rest n := by
  unfold mixL filL
  apply List.map_congr_left
  intro i _
  by_cases hi : i < j
  · rw [if_pos hi]
  · rw [if_neg hi]
    have := fr_zero L f rest j h (i - j)
    rw [show j + (i - j) = i by omega] at this
    unfold gfil
    rw [this, if_neg (fun x => by have := x.1; omega)]
/-- What the reference's Allocate carries. -/
structure RlW (w : World) (A : Option Addr) (n : Nat) (f : Nat → St) (w' : World) : Prop where
  s0 : SlS .u64 w A n f
  bel : Below w.heap.size w w'
theorem RlW.sl {w w1 : World} {A : Option Addr} {n : Nat} {f : Nat → St} (h : RlW w A n f w1) : SlS .u64 w1 A n f := h.s0.below h.bel (Nat.le_refl _)
theorem RlW.next {w w1 w2 : World} {A : Option Addr} {n : Nat} {f : Nat → St} (h : RlW w A n f w1) (hb : Below w1.heap.size w1 w2) : RlW w A n f w2 := ⟨h.s0, bel2 h.bel hb⟩
theorem RlW.set {w w1 : World} {G j : Nat} {v : Value} {A : Option Addr} {n : Nat} {f : Nat → St} (h : RlW w A n f w1) (hG : w.heap.size ≤ G) : RlW w A n f (w1.setCell ⟨G, j, none⟩ v) := ⟨h.s0, h.bel.setCell (p := ⟨G, j, none⟩) hG v⟩
set_option maxRecDepth 100000 in
set_option maxHeartbeats 8000000 in
theorem ralc_any (bud : Int) (A : Option Addr) (n c : Nat) (f : Nat → St) (w : World) (hbud : 0 ≤ bud ∧ bud < 18446744073709551616) (h : SlS .u64 w A n f) : Calls Try.prog 31 #[.int .u64 bud, .slice A n c] w (AlcP w bud n f) := by
  obtain ⟨bd0, bd1⟩ := hbud
  have GAH : Hid (vA n f = true → GA n f) := ga_of h
  have hn := h.len
  have Pv := rva_any A n c f w h
  have HW0 : Hid (RlW w A n f w) := ⟨h, Below.refl _ _⟩
  clear h
  go_enter Try.func31, Try.ntmps31
  go_wp2_with fail
  refine Pv.mono ?_
  clear Pv
  by_cases hv : vA n f = true
  case neg =>
    have hv : vA n f = false := by simpa using hv
    rw [hv]
    rintro e w1 ⟨rfl, hb⟩
    have FIN : Hid (AlcP w bud n f (.returned (.tuple #[.slice none 0 0, .int .i64 1])) w1) := ⟨[], 1, none, 0, rfl, .inl ⟨hv, rfl, rfl⟩, .inl rfl, hb, Nat.le_refl _⟩
    clear hb
    go_wp2
    go_ret2
    exact FIN.out
  rw [hv]
  rintro e w1 ⟨rfl, hb⟩
  have GAO := GAH.out hv
  have hn32 := GAO.len
  have HG := Lib.hid GAO
  have HV := Lib.hid hv
  have HW1 := Lib.hid (HW0.out.next hb)
  clear GAO GAH hv hb HW0
  have P0 := rat_any A n c f 0 w1 HW1.out.sl HG.out
  have bd := atS_bd HG.out 0 n (Nat.le_refl _)
  go_wp2_with fail
  refine P0.mono ?_
  clear P0
  rintro e w2 ⟨A1, cc1, rfl, _, hb, _⟩
  have HW2 := Lib.hid (HW1.out.next hb)
  clear hb HW1
  by_cases hlo : bud < atS 0 f n
  · have FIN : Hid (AlcP w bud n f (.returned (.tuple #[.slice none 0 0, .int .i64 19])) w2) := ⟨[], 19, none, 0, rfl, .inr (.inl ⟨HV.out, hlo, rfl, rfl⟩), .inl rfl, HW2.out.bel, Nat.le_refl _⟩
    generalize atS 0 f n = s0 at *
    go_wp2
    go_ret2
    exact FIN.out
  have HLO : Hid (atS 0 f n ≤ bud) := by show _ ≤ _; omega
  have P1 := rat_any A n c f 4294967296 w2 HW2.out.sl HG.out
  have bd2 := atS_bd HG.out 4294967296 n (Nat.le_refl _)
  generalize hs0 : atS 0 f n = s0 at *
  have HS0 := Lib.hid hs0
  clear hs0
  go_wp2_with fail
  refine P1.mono ?_
  clear P1
  rintro e w3 ⟨A2, cc2, rfl, hN2, hb, hc2⟩
  have HN2 := Lib.hid hN2
  have HW3 := Lib.hid (HW2.out.next hb)
  have HZ : Hid (w.heap.size ≤ w2.heap.size) := HW2.out.bel.size
  clear hN2 hb HW2
  by_cases hhi : atS 4294967296 f n ≤ bud
  · have FIN : Hid (AlcP w bud n f (.returned (.tuple #[.slice A2 n cc2, .int .i64 0])) w3) := ⟨atL 4294967296 f n, 0, A2, cc2, by rw [atL_len], .inr (.inr (.inl ⟨HV.out, by rw [HS0.out]; exact HLO.out, hhi, rfl, rfl⟩)), HN2.out.mono HZ.out, HW3.out.bel, by rw [atL_len]; exact hc2⟩
    clear HN2
    generalize atS 4294967296 f n = s1 at *
    go_wp2
    go_ret2
    exact FIN.out
  clear HN2 HZ
  have HHI : Hid (bud < atS 4294967296 f n) := by show _ < _; omega
  generalize hs1 : atS 4294967296 f n = s1 at *
  have HS1 := Lib.hid hs1
  have ST : Hid (atS ((0 : Nat) : Int) f n ≤ bud ∧ bud < atS ((4294967296 : Nat) : Int) f n) := ⟨by have := HLO.out; rw [← HS0.out] at this; exact this, by have := HHI.out; rw [← HS1.out] at this; exact this⟩
  clear hs1 bd bd2
  go_wp2_with fail
  clear hlo hhi
  go_loopg [10, 11] 4294967297 (fun k vl vh wr => ∃ lo hi : Nat, lo < hi ∧ hi ≤ 4294967296 ∧ hi - lo < k ∧ vl = .int .u64 lo ∧ vh = .int .u64 hi ∧ Hid (atS (lo : Int) f n ≤ bud ∧ bud < atS (hi : Int) f n) ∧ Hid (RlW w A n f wr))
  case atStart => exact ⟨0, 4294967296, by omega, by omega, by omega, rfl, rfl, ST.out, HW3.out⟩
  case round =>
    clear ST HW3
    obtain ⟨lo, hi, hlh, hh, hk, rfl, rfl, HQ, HR⟩ := hrel
    by_cases hgt : lo + 1 < hi
    · obtain ⟨m, hm1, hm2, hmi⟩ : ∃ m : Nat, lo < m ∧ m < hi ∧ ((lo : Int) + hi) / 2 = m := ⟨(lo + hi) / 2, by omega, by omega, by omega⟩
      have P := rat_any A n c f m wr HR.out.sl HG.out
      have bd := atS_bd HG.out m n (Nat.le_refl _)
      have hd : (1 : Int) < (hi : Int) - lo := by omega
      go_wp2_with fail
      refine P.mono ?_
      clear P
      rintro e w4 ⟨A4, cc4, rfl, _, hb, _⟩
      have HR4 := Lib.hid (HR.out.next hb)
      clear hb HR
      by_cases hq : atS (m : Int) f n ≤ bud
      · have NQ : Hid (atS (m : Int) f n ≤ bud ∧ bud < atS (hi : Int) f n) := ⟨hq, HQ.out.2⟩
        clear HQ
        go_wp2
        go_roundg (gk - 1)
        case measure => omega
        case rel => exact ⟨m, hi, by omega, by omega, by omega, rfl, rfl, NQ, HR4⟩
      · have NQ : Hid (atS (lo : Int) f n ≤ bud ∧ bud < atS (m : Int) f n) := ⟨HQ.out.1, by omega⟩
        clear HQ
        go_wp2
        go_roundg (gk - 1)
        case measure => omega
        case rel => exact ⟨lo, m, by omega, by omega, by omega, rfl, rfl, NQ, HR4⟩
    · have hhl : hi = lo + 1 := by omega
      have HLV : Hid (atS (lo : Int) f n ≤ bud ∧ bud < atS ((lo + 1 : Nat) : Int) f n) := by rw [← hhl]; exact HQ.out
      have hd : ¬ (1 : Int) < (hi : Int) - lo := by omega
      have hm1 : lo < 4294967296 := by omega
      clear HQ
      have HW4 := HR
      clear HR hhl hgt hk
      have P3 := rat_any A n c f lo wr HW4.out.sl HG.out
      have bd := atS_bd HG.out lo n (Nat.le_refl _)
      have hle := HLV.out.1
      generalize hsm : atS (lo : Int) f n = sm at *
      have HSM := Lib.hid hsm
      have HLE : Hid (w.heap.size ≤ wr.heap.size) := HW4.out.bel.size
      clear hsm
      go_wp2_with fail
      refine P3.mono ?_
      clear P3
      rintro e w5 ⟨A5, cc5, rfl, hN5, hb, hc5⟩
      rw [HSM.out]
      have HW5 := Lib.hid (HW4.out.next hb)
      have START : Hid (NL .u64 w.heap.size w5 A5 (mixL lo f (bud - sm) n 0) ∧ RlW w A n f w5) := ⟨by rw [mix_0]; exact hN5.mono HLE.out, HW5.out⟩
      have FS : Hid (sm = bud - frR lo f (bud - sm) 0) := by show _ = bud - (bud - sm); omega
      clear hN5 hb HW4 HW5
      go_wp2_with fail
      go_loopg [17, 16] (n + 1) (fun k vi vr wr => ∃ j : Nat, j + k = n + 1 ∧ j ≤ n ∧ vi = .int .i64 j ∧ vr = .int .u64 (bud - frR lo f (bud - sm) j) ∧ NL .u64 w.heap.size wr A5 (mixL lo f (bud - sm) n j) ∧ RlW w A n f wr)
      case atStart => exact ⟨0, by omega, by omega, rfl, congrArg (Value.int .u64) FS.out, START.out.1, START.out.2⟩
      case round =>
        clear START FS
        obtain ⟨j, hj, hjle, rfl, rfl, hN, hW⟩ := hrel
        have frb := fr_bd lo f (bud - sm) j (by omega)
        by_cases hgo : j < n ∧ 0 < frR lo f (bud - sm) j
        · obtain ⟨hlt, t1⟩ := hgo
          obtain ⟨g, rfl⟩ : ∃ g, gk = g + 1 := ⟨gk - 1, by omega⟩
          rcases hN with h0 | ⟨G, rfl, hGL, hGs, hcell, hfr⟩
          · exfalso
            have := mix_len lo f (bud - sm) n j
            rw [h0] at this
            simp at this
            omega
          have hN : NL .u64 w.heap.size wr (some ⟨G, 0, none⟩) (mixL lo f (bud - sm) n j) := .inr ⟨G, rfl, hGL, hGs, hcell, hfr⟩
          have cg := hcell j (by rw [mix_len]; exact hlt)
          rw [mix_get _ _ _ _ _ _ hlt, if_neg (by omega)] at cg
          have fg := hfr j
          rcases hW.sl.row with h0 | ⟨b, off, rfl, hb, hc⟩
          · omega
          obtain ⟨c0, c1, c2⟩ := hc j hlt
          have okk := HG.out.ok j hlt
          have bdg := atG_bd (lv := (lo : Int)) okk
          have FRN : Hid (frR lo f (bud - sm) (j + 1) = if 0 < frR lo f (bud - sm) j ∧ elg lo (f j) then frR lo f (bud - sm) j - 1 else frR lo f (bud - sm) j) := rfl
          have ELG : Hid (elg lo (f j) ↔ (f j).b ≤ lo ∧ (lo : Int) < wantI (f j).a (f j).b (f j).c) := Iff.rfl
          have MS : Hid (0 < frR lo f (bud - sm) j ∧ elg lo (f j) → ∀ w2, NL .u64 w.heap.size w2 (some ⟨G, 0, none⟩) (mixL lo f (bud - sm) n j) → NL .u64 w.heap.size (w2.setCell ⟨G, j, none⟩ (.int .u64 (atG lo (f j) + 1))) (some ⟨G, 0, none⟩) (mixL lo f (bud - sm) n (j + 1))) := fun hx w2 hN2 => by
            rw [← mix_set _ _ _ _ _ hx]
            exact nl_set _ hN2 (by rw [mix_len]; exact hlt)
          have MK : Hid (¬ (0 < frR lo f (bud - sm) j ∧ elg lo (f j)) → mixL lo f (bud - sm) n j = mixL lo f (bud - sm) n (j + 1)) := mix_skip _ _ _ _ _
          have HWW := Lib.hid hW
          have HNN := Lib.hid hN
          clear hcell hfr hc hW hN
          generalize frR lo f (bud - sm) j = fr at *
          generalize atG lo (f j) = x at *
          generalize f j = s at *
          obtain ⟨q, y, z⟩ := s
          simp only at c0 c1 c2 okk bdg
          have PW := rwant_any q y z wr
          have hu : bud - fr < bud := by omega
          generalize hwn : wantI q y z = wn at *
          clear hwn
          by_cases t2 : y ≤ lo
          case neg =>
            have NOE : Hid (¬ (0 < fr ∧ elg (lo : Int) ⟨q, y, z⟩)) := fun h => t2 (ELG.out.1 h.2).1
            have FIN : Hid (∃ j2 : Nat, j2 + g = n + 1 ∧ j2 ≤ n ∧ Value.int .i64 ((j : Int) + 1) = .int .i64 j2 ∧ Value.int .u64 (bud - fr) = .int .u64 (bud - frR lo f (bud - sm) j2) ∧ NL .u64 w.heap.size wr (some ⟨G, 0, none⟩) (mixL lo f (bud - sm) n j2) ∧ RlW w (some ⟨b, off, none⟩) n f wr) := ⟨j + 1, by omega, by omega, rfl, by rw [FRN.out, if_neg NOE.out], by rw [← MK.out NOE.out]; exact HNN.out, HWW.out⟩
            clear FRN ELG MS MK HWW HNN NOE PW
            go_wp2
            go_roundg g
            case measure => omega
            case rel => exact FIN.out
          case pos =>
          by_cases t3 : (lo : Int) < wn
          case neg =>
            have NOE : Hid (¬ (0 < fr ∧ elg (lo : Int) ⟨q, y, z⟩)) := fun h => t3 (ELG.out.1 h.2).2
            have FIN : Hid (∀ W2, Below wr.heap.size wr W2 → ∃ j2 : Nat, j2 + g = n + 1 ∧ j2 ≤ n ∧ Value.int .i64 ((j : Int) + 1) = .int .i64 j2 ∧ Value.int .u64 (bud - fr) = .int .u64 (bud - frR lo f (bud - sm) j2) ∧ NL .u64 w.heap.size W2 (some ⟨G, 0, none⟩) (mixL lo f (bud - sm) n j2) ∧ RlW w (some ⟨b, off, none⟩) n f W2) := fun W2 hb => ⟨j + 1, by omega, by omega, rfl, by rw [FRN.out, if_neg NOE.out], by rw [← MK.out NOE.out]; exact HNN.out.below hb, HWW.out.next hb⟩
            clear FRN ELG MS MK HWW HNN NOE
            go_wp2_with fail
            refine PW.mono ?_
            rintro e W2 ⟨rfl, hb⟩
            have FIN := Lib.hid (FIN.out W2 hb)
            clear hb PW
            go_wp2
            go_roundg g
            case measure => omega
            case rel => exact FIN.out
          case pos =>
            have YES : Hid (0 < fr ∧ elg (lo : Int) ⟨q, y, z⟩) := ⟨t1, ELG.out.2 ⟨t2, t3⟩⟩
            have hx64 : x ≤ 4294967296 := by omega
            go_wp2_with fail
            refine PW.mono ?_
            rintro e W2 ⟨rfl, hb⟩
            have HW2 := Lib.hid (HWW.out.next hb)
            have N2 := MS.out YES.out W2 (HNN.out.below hb)
            have cg2 := (hb.cell (p := ⟨G, j, none⟩) hGs).trans cg
            have fg2 := (hb.frozen (p := ⟨G, j, none⟩) hGs).trans fg
            have hG2 := Nat.lt_of_lt_of_le hGs hb.size
            have FIN : Hid (∃ j2 : Nat, j2 + g = n + 1 ∧ j2 ≤ n ∧ Value.int .i64 ((j : Int) + 1) = .int .i64 j2 ∧ Value.int .u64 (bud - fr + 1) = .int .u64 (bud - frR lo f (bud - sm) j2) ∧ NL .u64 w.heap.size (W2.setCell ⟨G, j, none⟩ (.int .u64 (x + 1))) (some ⟨G, 0, none⟩) (mixL lo f (bud - sm) n j2) ∧ RlW w (some ⟨b, off, none⟩) n f (W2.setCell ⟨G, j, none⟩ (.int .u64 (x + 1)))) := ⟨j + 1, by omega, by omega, rfl, by rw [FRN.out, if_pos YES.out]; congr 1; omega, N2, HW2.out.set hGL⟩
            clear FRN ELG MS MK HWW HNN YES hb PW N2 HW2 c0 c1 c2 cg fg
            go_wp2
            go_roundg g
            case measure => omega
            case rel => exact FIN.out
        · have FIN : Hid (∃ A9 c9, A5 = A9 ∧ cc5 = c9 ∧ AlcP w bud n f (.returned (.tuple #[.slice A9 n c9, .int .i64 0])) wr) := by
            have hm : mixL lo f (bud - sm) n j = filL lo f (bud - sm) n := by
              rcases Nat.lt_or_ge j n with h | h
              · exact mix_end _ _ _ _ _ (by have : ¬ 0 < frR lo f (bud - sm) j := fun x => hgo ⟨h, x⟩; omega)
              · have : j = n := by omega
                rw [this, mix_n]
            rw [hm] at hN
            have hl : (filL lo f (bud - sm) n).length = n := by simp [filL]
            exact ⟨A5, cc5, rfl, rfl, filL lo f (bud - sm) n, 0, A5, cc5, by rw [hl], .inr (.inr (.inr ⟨HV.out, by rw [HS0.out]; exact HLO.out, by rw [HS1.out]; exact HHI.out, rfl, lo, hm1, by rw [HSM.out]; exact hle, HLV.out.2, by rw [HSM.out]⟩)), hN, hW.bel, by rw [hl]; exact hc5⟩
          obtain ⟨A9, c9, rfl, rfl, FIN⟩ := FIN.out
          have FIN2 := Lib.hid FIN
          clear FIN hN hW
          generalize frR lo f (bud - sm) j = fr at *
          have hor : j = n ∨ (j < n ∧ fr = 0) := by omega
          clear hgo
          rcases hor with rfl | ⟨hlt, rfl⟩
          · go_wp2
            go_ret2
            exact FIN2.out
          · go_wp2
            go_ret2
            exact FIN2.out
end Go.Proofs.Ytopbfnnmgckikaa
