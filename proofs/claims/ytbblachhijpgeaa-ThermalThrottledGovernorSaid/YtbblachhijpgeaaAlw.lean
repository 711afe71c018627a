/- Allocate: the walk. -/
import Derived.Test.YtbblachhijpgeaaAlc
namespace Go.Proofs.Ytbblachhijpgeaa
open Go.RowKit

/-- What Allocate carries from call to call. -/
structure AlW (w : World) (b3 b2 : Nat) (A : Option Addr) (n c : Nat) (f : Nat → St) (bud : Int) (w' : World) : Prop where
  box : Box w' b3 b2 A n c bud
  s0 : SlS .u64 w A n f
  bel : Below w.heap.size w w'
theorem AlW.sl {w w1 : World} {b3 b2 : Nat} {A : Option Addr} {n c : Nat} {f : Nat → St} {bud : Int} (h : AlW w b3 b2 A n c f bud w1) : SlS .u64 w1 A n f := h.s0.below h.bel (Nat.le_refl _)
theorem AlW.next {w w1 w2 : World} {b3 b2 : Nat} {A : Option Addr} {n c : Nat} {f : Nat → St} {bud : Int} (h : AlW w b3 b2 A n c f bud w1) (hb : Below w1.heap.size w1 w2) : AlW w b3 b2 A n c f bud w2 :=
  ⟨h.box.below hb, h.s0, bel2 h.bel hb⟩
theorem AlW.set {w w1 : World} {L G j : Nat} {v : Value} {A : Option Addr} {n c : Nat} {f : Nat → St} {bud : Int} (h : AlW w (L + 1) L A n c f bud w1) (hw : w.heap.size ≤ L) (hG : L + 2 ≤ G) : AlW w (L + 1) L A n c f bud (w1.setCell ⟨G, j, none⟩ v) := by
  have ne : ∀ k o, k < L + 2 → (⟨G, j, none⟩ : Addr) ≠ ⟨k, o, none⟩ := fun k o hk e => by injection e with e _; omega
  exact ⟨⟨by have := h.box.l3; simp; exact this, by have := h.box.l2; simp; exact this, (World.cell?_setCell_other _ _ _ _ (ne _ _ (by omega))).trans h.box.c3, (World.cell?_setCell_other _ _ _ _ (ne _ _ (by omega))).trans h.box.c2⟩, h.s0, h.bel.setCell (p := ⟨G, j, none⟩) (by show _ ≤ G; omega) v⟩
theorem alw_new {w : World} {A : Option Addr} {n c : Nat} {f : Nat → St} {bud : Int} (h : SlS .u64 w A n f) : AlW w (w.heap.size + 1) w.heap.size A n c f bud ((w.alloc (.cells #[.int .u64 bud] 31)).alloc (.cells #[.slice A n c] 53)) :=
  ⟨⟨by simp, by simp; omega, by simp [go_sem], by simp [go_sem]⟩, h, bal (bal (Below.refl _ _) _) _⟩
set_option maxRecDepth 100000 in
set_option maxHeartbeats 8000000 in
theorem alc_any (bud : Int) (A : Option Addr) (n c : Nat) (f : Nat → St) (w : World) (hbud : 0 ≤ bud ∧ bud < 18446744073709551616) (h : SlS .u64 w A n f) : Calls Try.prog 18 #[.int .u64 bud, .slice A n c] w (AlcP w bud n f) := by
  obtain ⟨bd0, bd1⟩ := hbud
  have W0 := alw_new (c := c) (bud := bud) h
  have GAH : Hid (vA n f = true → GA n f) := ga_of h
  have hn := h.len
  have HW0 := Lib.hid W0
  clear h W0
  go_enter Try.func18, Try.ntmps18
  go_upto_region 1 with fail
  have hsz : Hid (w.heap.size = w.heap.size) := rfl
  generalize hw0 : (w.alloc (Obj.cells #[Value.int IntKind.u64 bud] 31)).alloc (Obj.cells #[Value.slice A n c] 53) = w0 at *
  generalize hL : w.heap.size = L at *
  have HLE : Hid (w.heap.size ≤ L) := Nat.le_of_eq hL
  have HLEQ := Lib.hid hL
  obtain ⟨l3, l2, c3, c2⟩ := HW0.out.box
  have Pv := va_any A n c f w0 HW0.out.sl
  go_wp2_with fail
  refine Pv.mono ?_
  clear Pv
  by_cases hv : vA n f = true
  case neg =>
    have hv : vA n f = false := by simpa using hv
    rw [hv]
    rintro e w1 ⟨rfl, hb⟩
    have FIN : Hid (AlcP w bud n f (.returned (.tuple #[.slice none 0 0, .int .i64 1])) w1) := ⟨[], 1, none, 0, rfl, .inl ⟨hv, rfl, rfl⟩, .inl rfl, (HW0.out.next hb).bel, Nat.le_refl _⟩
    clear hb c3 c2 l3 l2
    go_wp2
    go_ret2
    exact FIN.out
  rw [hv]
  rintro e w1 ⟨rfl, hb⟩
  have GAO := GAH.out hv
  have hn32 := GAO.len
  have HG := Lib.hid GAO
  have HV := Lib.hid hv
  clear GAO GAH hv
  have HW1 := Lib.hid (HW0.out.next hb)
  clear hb HW0 c3 c2 l3 l2
  obtain ⟨l3, l2, c3, c2⟩ := HW1.out.box
  have P0 := at_any A n c f 0 w1 HW1.out.sl HG.out
  have bd := atS_bd HG.out 0 n (Nat.le_refl _)
  go_wp2_with fail
  refine P0.mono ?_
  clear P0
  rintro e w2 ⟨A1, cc1, rfl, _, hb, _⟩
  have HW2 := Lib.hid (HW1.out.next hb)
  clear hb HW1 c3 c2 l3 l2
  obtain ⟨l3, l2, c3, c2⟩ := HW2.out.box
  by_cases hlo : bud < atS 0 f n
  · have FIN : Hid (AlcP w bud n f (.returned (.tuple #[.slice none 0 0, .int .i64 19])) w2) := ⟨[], 19, none, 0, rfl, .inr (.inl ⟨HV.out, hlo, rfl, rfl⟩), .inl rfl, HW2.out.bel, Nat.le_refl _⟩
    generalize atS 0 f n = s0 at *
    go_wp2
    go_ret2
    exact FIN.out
  have HLO : Hid (atS 0 f n ≤ bud) := by show _ ≤ _; omega
  have P1 := at_any A n c f 4294967296 w2 HW2.out.sl HG.out
  have bd2 := atS_bd HG.out 4294967296 n (Nat.le_refl _)
  generalize hs0 : atS 0 f n = s0 at *
  have HS0 := Lib.hid hs0
  clear hs0
  go_wp2_with fail
  refine P1.mono ?_
  clear P1
  rintro e w3 ⟨A2, cc2, rfl, hN2, hb, hc2⟩
  have HN2 := Lib.hid hN2
  clear hN2
  have FN : Hid (atS 4294967296 f n ≤ bud → Below w2.heap.size w2 w3 → AlcP w bud n f (.returned (.tuple #[.slice A2 n cc2, .int .i64 0])) w3) := fun hle hb => ⟨atL 4294967296 f n, 0, A2, cc2, by rw [atL_len], .inr (.inr (.inl ⟨HV.out, by rw [HS0.out]; exact HLO.out, hle, rfl, rfl⟩)), HN2.out.mono (by have := HW2.out.bel.size; omega), (HW2.out.next hb).bel, by rw [atL_len]; exact hc2⟩
  have FNB : Hid (Below w2.heap.size w2 w3) := hb
  have HW3 := Lib.hid (HW2.out.next hb)
  clear hb HW2 c3 c2 l3 l2
  obtain ⟨l3, l2, c3, c2⟩ := HW3.out.box
  by_cases hhi : atS 4294967296 f n ≤ bud
  · have FIN := Lib.hid (FN.out hhi FNB.out)
    clear FN FNB HN2
    generalize atS 4294967296 f n = s1 at *
    go_wp2
    go_ret2
    exact FIN.out
  clear FN FNB HN2
  have P2 := src_any (L + 1) L A n c f bud w3 HW3.out.sl HG.out HW3.out.box
  have HHI : Hid (bud < atS 4294967296 f n) := by show _ < _; omega
  generalize hs1 : atS 4294967296 f n = s1 at *
  have HS1 := Lib.hid hs1
  clear hs1
  go_wp2_with fail
  refine P2.mono ?_
  clear P2
  rintro e w4 ⟨r, rfl, hr1, hr2, hr3, hb⟩
  have HW4 := Lib.hid (HW3.out.next hb)
  clear hb HW3 c3 c2 l3 l2
  obtain ⟨l3, l2, c3, c2⟩ := HW4.out.box
  obtain ⟨m, rfl, hm1⟩ : ∃ m : Nat, r = m + 1 ∧ m < 4294967296 := by
    rcases Nat.eq_zero_or_pos r with h0 | h0
    · subst h0
      exfalso
      rcases hr3 with h | h
      · omega
      · have := HLO.out
        have e : atS ((0 : Nat) : Int) f n = atS 0 f n := rfl
        have := HS0.out
        omega
    · exact ⟨r - 1, by omega, by omega⟩
  have HLV : Hid (atS (m : Int) f n ≤ bud ∧ bud < atS ((m + 1 : Nat) : Int) f n) := by
    refine ⟨?_, ?_⟩
    · rcases hr2 with h | h
      · omega
      · simpa using h
    · rcases hr3 with h | h
      · rw [h]
        have := HHI.out
        have := HS1.out
        have e : atS ((4294967296 : Nat) : Int) f n = atS 4294967296 f n := rfl
        omega
      · exact h
  clear hr1 hr2 hr3 hhi hlo bd bd2
  have P3 := at_any A n c f m w4 HW4.out.sl HG.out
  have bd := atS_bd HG.out m n (Nat.le_refl _)
  have hle := HLV.out.1
  generalize hsm : atS (m : Int) f n = sm at *
  have HSM := Lib.hid hsm
  clear hsm
  go_wp2_with fail
  refine P3.mono ?_
  clear P3
  rintro e w5 ⟨A5, cc5, rfl, hN5, hb, hc5⟩
  rw [HSM.out]
  have HN5 := Lib.hid (hN5.mono (by have := HW4.out.box.l3; omega : L + 2 ≤ w4.heap.size))
  clear hN5
  have HW5 := Lib.hid (HW4.out.next hb)
  clear hb HW4 c3 c2 l3 l2
  obtain ⟨l3, l2, c3, c2⟩ := HW5.out.box
  have START : Hid (NL .u64 (L + 2) w5 A5 (mixL m f (bud - sm) n 0) ∧ AlW w (L + 1) L A n c f bud w5) := ⟨by rw [mix_0]; exact HN5.out, HW5.out⟩
  clear HN5
  go_wp2_with fail
  go_loopg [53, 14] (n + 1) (fun k vi vr wr => ∃ j : Nat, j + k = n + 1 ∧ j ≤ n ∧ vi = .int .i64 j ∧ vr = .int .u64 (frR m f (bud - sm) j) ∧ NL .u64 (L + 2) wr A5 (mixL m f (bud - sm) n j) ∧ AlW w (L + 1) L A n c f bud wr)
  case atStart => exact ⟨0, by omega, by omega, rfl, rfl, START.out.1, START.out.2⟩
  case round =>
    clear START c3 c2 l3 l2 HW5
    obtain ⟨j, hj, hjle, rfl, rfl, hN, hW⟩ := hrel
    by_cases hlt : j < n
    · obtain ⟨g, rfl⟩ : ∃ g, gk = g + 1 := ⟨gk - 1, by omega⟩
      rcases hN with h0 | ⟨G, rfl, hGL, hGs, hcell, hfr⟩
      · exfalso
        have := mix_len m f (bud - sm) n j
        rw [h0] at this
        simp at this
        omega
      have hN : NL .u64 (L + 2) wr (some ⟨G, 0, none⟩) (mixL m f (bud - sm) n j) := .inr ⟨G, rfl, hGL, hGs, hcell, hfr⟩
      have cg := hcell j (by rw [mix_len]; exact hlt)
      rw [mix_get _ _ _ _ _ _ hlt, if_neg (by omega)] at cg
      have fg := hfr j
      rcases hW.sl.row with h0 | ⟨b, off, rfl, hb, hc⟩
      · omega
      obtain ⟨c0, c1, c2⟩ := hc j hlt
      have okk := HG.out.ok j hlt
      have bdg := atG_bd (lv := (m : Int)) okk
      obtain ⟨l3, l2, c3, c2'⟩ := hW.box
      have frb := fr_bd m f (bud - sm) j (by omega)
      have FRN : Hid (frR m f (bud - sm) (j + 1) = if 0 < frR m f (bud - sm) j ∧ elg m (f j) then frR m f (bud - sm) j - 1 else frR m f (bud - sm) j) := rfl
      have ELG : Hid (elg m (f j) ↔ (f j).b ≤ m ∧ (m : Int) < wantI (f j).a (f j).b (f j).c) := Iff.rfl
      have MS : Hid (0 < frR m f (bud - sm) j ∧ elg m (f j) → ∀ w2, AlW w (L + 1) L (some ⟨b, off, none⟩) n c f bud w2 → NL .u64 (L + 2) w2 (some ⟨G, 0, none⟩) (mixL m f (bud - sm) n j) → NL .u64 (L + 2) (w2.setCell ⟨G, j, none⟩ (.int .u64 (atG m (f j) + 1))) (some ⟨G, 0, none⟩) (mixL m f (bud - sm) n (j + 1))) := fun hx w2 _ hN2 => by
        rw [← mix_set _ _ _ _ _ hx]
        exact nl_set _ hN2 (by rw [mix_len]; exact hlt)
      have MK : Hid (¬ (0 < frR m f (bud - sm) j ∧ elg m (f j)) → mixL m f (bud - sm) n j = mixL m f (bud - sm) n (j + 1)) := mix_skip _ _ _ _ _
      have HWW := Lib.hid hW
      have HNN := Lib.hid hN
      clear hcell hfr hc hW hN
      generalize frR m f (bud - sm) j = fr at *
      generalize atG m (f j) = x at *
      generalize f j = s at *
      obtain ⟨q, y, z⟩ := s
      simp only at c0 c1 c2 okk bdg
      have b0 : Below wr.heap.size wr (wr.alloc (Obj.cells #[.int .u64 q, .int .u64 y, .int .u64 z] 77)) := bal (Below.refl _ _) _
      have HW1 := Lib.hid (HWW.out.next b0)
      have HN1 := Lib.hid (HNN.out.below b0)
      obtain ⟨e0, e1, e2⟩ := box3 .u64 77 wr q y z
      have hL9 : wr.heap.size < (wr.alloc (Obj.cells #[.int .u64 q, .int .u64 y, .int .u64 z] 77)).heap.size := by simp
      have cg1 := (b0.cell (p := ⟨G, j, none⟩) hGs).trans cg
      have fg1 := (b0.frozen (p := ⟨G, j, none⟩) hGs).trans fg
      have hG1 := Nat.lt_of_lt_of_le hGs b0.size
      go_upto_region 16 with fail
      clear cg fg c0 c1 c2 c3 c2' l3 l2 hb b0 hGs HWW HNN
      generalize wr.heap.size = L9 at *
      generalize wr.alloc (Obj.cells #[.int .u64 q, .int .u64 y, .int .u64 z] 77) = W1 at *
      have PW := want_any q y z W1
      generalize hwn : wantI q y z = wn at *
      have HWN := Lib.hid hwn
      clear hwn
      by_cases t1 : 0 < fr
      case neg =>
        have NOE : Hid (¬ (0 < fr ∧ elg (m : Int) ⟨q, y, z⟩)) := fun h => t1 h.1
        have ft : decide (0 < fr) = false := decide_eq_false t1
        have FIN : Hid (∃ j2 : Nat, j2 + g = n + 1 ∧ j2 ≤ n ∧ Value.int .i64 ((j : Int) + 1) = .int .i64 j2 ∧ Value.int .u64 fr = .int .u64 (frR m f (bud - sm) j2) ∧ NL .u64 (L + 2) W1 (some ⟨G, 0, none⟩) (mixL m f (bud - sm) n j2) ∧ AlW w (L + 1) L (some ⟨b, off, none⟩) n c f bud W1) := ⟨j + 1, by omega, by omega, rfl, by rw [FRN.out, if_neg NOE.out], by rw [← MK.out NOE.out]; exact HN1.out, HW1.out⟩
        clear FRN ELG MS MK HW1 HN1 NOE
        go_wp2
        go_roundg g
        case measure => omega
        case rel => exact FIN.out
      case pos =>
      by_cases t2 : y ≤ m
      case neg =>
        have NOE : Hid (¬ (0 < fr ∧ elg (m : Int) ⟨q, y, z⟩)) := fun h => t2 (ELG.out.1 h.2).1
        have FIN : Hid (∃ j2 : Nat, j2 + g = n + 1 ∧ j2 ≤ n ∧ Value.int .i64 ((j : Int) + 1) = .int .i64 j2 ∧ Value.int .u64 fr = .int .u64 (frR m f (bud - sm) j2) ∧ NL .u64 (L + 2) W1 (some ⟨G, 0, none⟩) (mixL m f (bud - sm) n j2) ∧ AlW w (L + 1) L (some ⟨b, off, none⟩) n c f bud W1) := ⟨j + 1, by omega, by omega, rfl, by rw [FRN.out, if_neg NOE.out], by rw [← MK.out NOE.out]; exact HN1.out, HW1.out⟩
        clear FRN ELG MS MK HW1 HN1 NOE
        go_wp2
        go_roundg g
        case measure => omega
        case rel => exact FIN.out
      case pos =>
      by_cases t3 : (m : Int) < wn
      case neg =>
        have NOE : Hid (¬ (0 < fr ∧ elg (m : Int) ⟨q, y, z⟩)) := fun h => t3 (ELG.out.1 h.2).2
        have FIN : Hid (∀ W2, Below W1.heap.size W1 W2 → ∃ j2 : Nat, j2 + g = n + 1 ∧ j2 ≤ n ∧ Value.int .i64 ((j : Int) + 1) = .int .i64 j2 ∧ Value.int .u64 fr = .int .u64 (frR m f (bud - sm) j2) ∧ NL .u64 (L + 2) W2 (some ⟨G, 0, none⟩) (mixL m f (bud - sm) n j2) ∧ AlW w (L + 1) L (some ⟨b, off, none⟩) n c f bud W2) := fun W2 hb => ⟨j + 1, by omega, by omega, rfl, by rw [FRN.out, if_neg NOE.out], by rw [← MK.out NOE.out]; exact HN1.out.below hb, HW1.out.next hb⟩
        clear FRN ELG MS MK HW1 HN1 NOE
        go_wp2_with fail
        refine PW.mono ?_
        rintro e W2 ⟨rfl, hb⟩
        have FIN := Lib.hid (FIN.out W2 hb)
        clear hb PW
        go_wp2
        go_roundg g
        case measure => omega
        case rel => exact FIN.out
      case pos =>
        have YES : Hid (0 < fr ∧ elg (m : Int) ⟨q, y, z⟩) := ⟨t1, ELG.out.2 ⟨t2, t3⟩⟩
        have hx64 : x ≤ 4294967296 := by omega
        go_wp2_with fail
        refine PW.mono ?_
        rintro e W2 ⟨rfl, hb⟩
        have HW2 := Lib.hid (HW1.out.next hb)
        have N2 := MS.out YES.out W2 HW2.out (HN1.out.below hb)
        have cg2 := (hb.cell (p := ⟨G, j, none⟩) hG1).trans cg1
        have fg2 := (hb.frozen (p := ⟨G, j, none⟩) hG1).trans fg1
        have hG2 := Nat.lt_of_lt_of_le hG1 hb.size
        have FIN : Hid (∃ j2 : Nat, j2 + g = n + 1 ∧ j2 ≤ n ∧ Value.int .i64 ((j : Int) + 1) = .int .i64 j2 ∧ Value.int .u64 (fr - 1) = .int .u64 (frR m f (bud - sm) j2) ∧ NL .u64 (L + 2) (W2.setCell ⟨G, j, none⟩ (.int .u64 (x + 1))) (some ⟨G, 0, none⟩) (mixL m f (bud - sm) n j2) ∧ AlW w (L + 1) L (some ⟨b, off, none⟩) n c f bud (W2.setCell ⟨G, j, none⟩ (.int .u64 (x + 1)))) := ⟨j + 1, by omega, by omega, rfl, by rw [FRN.out, if_pos YES.out], N2, HW2.out.set HLE.out hGL⟩
        clear FRN ELG MS MK HW1 HN1 YES hb PW N2 HW2
        go_wp2
        go_roundg g
        case measure => omega
        case rel => exact FIN.out
    · have hjn : j = n := by omega
      have FIN : Hid (∃ A9 c9, A5 = A9 ∧ cc5 = c9 ∧ AlcP w bud n f (.returned (.tuple #[.slice A9 n c9, .int .i64 0])) wr) := by
        rw [hjn, mix_n] at hN
        have hl : (filL m f (bud - sm) n).length = n := by simp [filL]
        exact ⟨A5, cc5, rfl, rfl, filL m f (bud - sm) n, 0, A5, cc5, by rw [hl], .inr (.inr (.inr ⟨HV.out, by rw [HS0.out]; exact HLO.out, by rw [HS1.out]; exact HHI.out, rfl, m, hm1, by rw [HSM.out]; exact hle, HLV.out.2, by rw [HSM.out]⟩)), hN.mono (show w.heap.size ≤ L + 2 from Nat.le_trans HLE.out (Nat.le_add_right _ _)), hW.bel, by rw [hl]; exact hc5⟩
      obtain ⟨A9, c9, rfl, rfl, FIN⟩ := FIN.out
      have FIN2 := Lib.hid FIN
      clear FIN hN hW hjn
      go_wp2
      go_ret2
      exact FIN2.out
end Go.Proofs.Ytbblachhijpgeaa
