/- The reference's Safe. -/
import Derived.Test.YtfmaadfccnjnjaaSaf
namespace Go.Proofs.Ytfmaadfccnjnjaa
open Go.RowKit

def hit (f : Nat → St) (s : FV) (q : Nat) : Bool := ((f q).l == s.f) && decide ((f q).r ≤ s.v)
def anyTo (f : Nat → St) (s : FV) : Nat → Bool
  | 0 => false
  | q + 1 => anyTo f s q || hit f s q
theorem anyTo_iff {f : Nat → St} {s : FV} {n : Nat} : anyTo f s n = true ↔ ∃ i, i < n ∧ hit f s i = true := by
  induction n with
  | zero => simp [anyTo]
  | succ n ih =>
    simp only [anyTo, Bool.or_eq_true, ih]
    constructor
    · rintro (⟨i, h1, h2⟩ | h)
      · exact ⟨i, by omega, h2⟩
      · exact ⟨n, by omega, h⟩
    · rintro ⟨i, h1, h2⟩
      rcases Nat.lt_or_ge i n with h3 | h3
      · exact .inl ⟨i, h3, h2⟩
      · have : i = n := by omega
        subst this; exact .inr h2
theorem vld_lt {n : Nat} {f : Nat → St} (hv : vld n f = true) {i : Nat} : ∀ {j : Nat}, i < j → j < n → (f i).l < (f j).l := by
  intro j
  induction j with
  | zero => intro h; omega
  | succ j ih =>
    intro h1 h2
    have hs := (vld_step hv h2).1
    rcases Nat.lt_or_ge i j with h3 | h3
    · have := ih h3 (by omega); omega
    · have : i = j := by omega
      subst this; exact hs
theorem anyTo_ok {n : Nat} {f : Nat → St} (hv : vld n f = true) (s : FV) : anyTo f s n = okS n f s := by
  unfold okS
  cases h : idx n f s.f with
  | none =>
    show _ = false
    unfold idx at h
    rw [List.find?_range_eq_none] at h
    cases e : anyTo f s n
    · rfl
    · obtain ⟨i, h1, h2⟩ := anyTo_iff.1 e
      have := h i h1
      simp [hit] at h2 this
      exact absurd h2.1 this
  | some k =>
    show _ = decide ((f k).r ≤ s.v)
    unfold idx at h
    rw [List.find?_range_eq_some] at h
    obtain ⟨p1, p2, p3⟩ := h
    have p1' : (f k).l = s.f := by simpa using p1
    have p2' : k < n := by simpa using p2
    cases e : anyTo f s n
    · symm
      cases e2 : decide ((f k).r ≤ s.v)
      · rfl
      · have := anyTo_iff.2 ⟨k, p2', show hit f s k = true by simp [hit, p1', e2]⟩
        rw [e] at this; cases this
    · obtain ⟨i, h1, h2⟩ := anyTo_iff.1 e
      simp [hit] at h2
      have : i = k := by
        rcases Nat.lt_trichotomy i k with h3 | h3 | h3
        · have := vld_lt hv h3 p2'; omega
        · exact h3
        · have := vld_lt hv h3 h1; omega
      subst this
      simp [h2.2]
theorem rsf_bad (A B : Option Addr) (n c m d : Nat) (f : Nat → St) (a : Int) (g : Nat → PO) (w : World) (h : SlS w A n f) (ho : (vld n f && inT n a) = false) :
    Calls Try.prog 23 #[.slice A n c, .int .i64 a, .slice B m d] w (SafPost w n f a m g) := by
  have C := rchk_any A n c f w h
  have hn := h.len
  have E : Hid (safeB n f a m g = false) := by show _ = _; unfold safeB; rw [ho]; rfl
  cases hv : vld n f
  · have HV := Lib.hid hv; clear hv ho
    go_enter Try.func23, Try.ntmps23
    go_wp2_with fail
    refine C.mono ?_
    rintro e w' ⟨rfl, hb⟩
    rw [HV.out]
    go_wp2
    go_ret
    exact ⟨by rw [E.out]; rfl, hb⟩
  · have HV := Lib.hid hv
    have ha : inT n a = false := by rw [hv] at ho; simpa using ho
    simp only [inT, Bool.and_eq_false_iff, decide_eq_false_iff_not] at ha
    clear hv ho
    go_enter Try.func23, Try.ntmps23
    go_wp2_with fail
    refine C.mono ?_
    rintro e w' ⟨rfl, hb⟩
    rw [HV.out]
    by_cases h1 : a < 0
    · go_wp2
      go_ret
      exact ⟨by rw [E.out]; rfl, hb⟩
    · have h2 : (n : Int) ≤ a := by omega
      clear ha
      go_wp2
      go_ret
      exact ⟨by rw [E.out]; rfl, hb⟩
set_option maxRecDepth 100000 in
set_option maxHeartbeats 4000000 in
theorem rsf_good (b off n c : Nat) (B : Option Addr) (m d : Nat) (f : Nat → St) (a : Nat) (g : Nat → PO) (w : World) (h : SlS w (some ⟨b, off, none⟩) n f) (hb : b < w.heap.size) (hc : Sts w b off n f)
    (ho : (vld n f && inT n (a : Int)) = true) (hp : PlS w B m g) :
    Calls Try.prog 23 #[.slice (some ⟨b, off, none⟩) n c, .int .i64 a, .slice B m d] w (SafPost w n f a m g) := by
  have C := rchk_any _ n c f w h
  have hm := hp.len
  simp only [Bool.and_eq_true] at ho
  obtain ⟨hv, ha⟩ := ho
  have hn := (vld_len hv).2
  have ha1 : a < n := by simp [inT] at ha; omega
  have a3 : (a : Int) < n := by omega
  have a4 : ¬ (a : Int) < 0 := by omega
  have SB : Hid (safeB n f a m g = okSTo n f g ⟨(f a).l, (f a).r⟩ m) := by show _ = _; unfold safeB; rw [hv, ha]; simp
  have HV := Lib.hid hv; clear hv
  have HA := Lib.hid ha; clear ha
  have HC := Lib.hid hc
  have HP := Lib.hid hp.row
  obtain ⟨c0, c1, c2⟩ := hc a ha1
  clear hc h hp c2
  generalize f a = s0 at *
  obtain ⟨x0, y0, z0⟩ := s0
  simp only at c0 c1
  go_enter Try.func23, Try.ntmps23
  go_wp2_with fail
  refine C.mono ?_
  rintro e w1 ⟨rfl, hB1⟩
  clear C
  rw [HV.out]
  rw [← hB1.cell hb] at c0 c1
  go_wp2_with fail
  go_quiet (fail)
  go_wp2_with fail
  have B0 := below_drewN hB1 1
  go_loopw [9, 7, 8] (fun i F V wr => ∃ k : Nat, k ≤ m ∧ i = .int .i64 k ∧ Below w.heap.size w wr ∧ F = .int .u64 (stTo g ⟨x0, y0⟩ k).f ∧ V = .int .u64 (stTo g ⟨x0, y0⟩ k).v ∧ Hid (okSTo n f g ⟨x0, y0⟩ k = true)) (fun i _ _ _ => m - (intOf i).toNat)
  case atStart => exact ⟨0, Nat.zero_le _, rfl, below_drewN hB1 _, rfl, rfl, rfl⟩
  case round =>
    clear B0 c0 c1 hB1
    obtain ⟨k, hk, rfl, hB, rfl, rfl, HO⟩ := hrel
    by_cases hlt : k < m
    · obtain ⟨b2, o2, hBe, hb2, hc2⟩ : ∃ b2 o2, B = some ⟨b2, o2, none⟩ ∧ b2 < w.heap.size ∧ ∀ i, i < m → w.cell? ⟨b2, o2 + i * 2, none⟩ = some (.bool (g i).v) ∧ w.cell? ⟨b2, o2 + i * 2 + 1, none⟩ = some (.int .u64 (g i).x) := by
        rcases HP.out with h0 | h0
        · omega
        · exact h0
      subst hBe
      obtain ⟨p0, p1⟩ := hc2 k hlt
      clear hc2
      rw [← hB.cell hb2] at p0 p1
      have NX : Hid (stTo g ⟨x0, y0⟩ (k + 1) = stS (stTo g ⟨x0, y0⟩ k) (g k)) := rfl
      have NO := Lib.hid (fun h0 => okSTo_not (n := n) (f := f) (g := g) (s := ⟨x0, y0⟩) hlt h0)
      have OT : Hid (okSTo n f g ⟨x0, y0⟩ (k + 1) = (okSTo n f g ⟨x0, y0⟩ k && okS n f (stTo g ⟨x0, y0⟩ (k + 1)))) := rfl
      obtain ⟨T, hT⟩ : ∃ T, stTo g ⟨x0, y0⟩ (k + 1) = T := ⟨_, rfl⟩
      rw [hT] at NX NO OT
      have NX2 := Lib.hid hT; clear hT
      generalize stTo g ⟨x0, y0⟩ k = S at *
      generalize g k = o at *
      obtain ⟨ov, ox⟩ := o
      obtain ⟨sf, sv⟩ := S
      simp only at p0 p1
      cases ov
      · have TE : Hid (T = ⟨ox, sv⟩) := by show _ = _; rw [NX.out]; simp [stS]
        go_wp2_with fail
        go_loopw [10, 11] (fun bb j wx => ∃ q : Nat, q ≤ n ∧ j = .int .i64 q ∧ bb = .bool (anyTo f T q) ∧ Below w.heap.size w wx) (fun _ j _ => n - (intOf j).toNat)
        case atStart => exact ⟨0, Nat.zero_le _, rfl, rfl, hB⟩
        case round =>
          clear hB
          obtain ⟨q, hq, rfl, rfl, hB⟩ := hrel
          by_cases hql : q < n
          · obtain ⟨d0, d1, d2⟩ := HC.out q hql
            rw [← hB.cell hb] at d0 d1 d2
            have AN : Hid (anyTo f T (q + 1) = (anyTo f T q || ((f q).l == T.f && decide ((f q).r ≤ T.v)))) := rfl
            rw [TE.out] at AN ⊢
            generalize f q = sq at *
            obtain ⟨sl, sr, sp⟩ := sq
            simp only at d0 d1 d2
            cases e : anyTo f ⟨ox, sv⟩ q
            · by_cases e1 : sl = ox
              · subst e1
                by_cases e2 : sr ≤ sv
                · go_wp2
                  go_roundw
                  case rel => exact ⟨q + 1, by omega, by go_num, by rw [AN.out, e]; simp; omega, hB⟩
                  case measure => simp [intOf]; omega
                · go_wp2
                  go_roundw
                  case rel => exact ⟨q + 1, by omega, by go_num, by rw [AN.out, e]; simp; omega, hB⟩
                  case measure => simp [intOf]; omega
              · go_wp2
                go_roundw
                case rel => exact ⟨q + 1, by omega, by omega, by rw [AN.out, e]; simp; omega⟩
                case measure => simp [intOf]; omega
            · go_wp2
              go_roundw
              case rel => exact ⟨q + 1, by omega, by go_num, by rw [AN.out, e]; simp, hB⟩
              case measure => simp [intOf]; omega
          · have : q = n := by omega
            subst this
            rw [TE.out]
            have OK := Lib.hid (anyTo_ok HV.out ⟨ox, sv⟩)
            cases e : anyTo f ⟨ox, sv⟩ q
            · have HF : Hid (okS q f T = false) := by show _ = _; rw [TE.out, ← OK.out, e]
              go_wp2
              go_ret
              exact ⟨by rw [SB.out, NO.out HF.out]; rfl, hB⟩
            · have HF : Hid (okSTo q f g ⟨x0, y0⟩ (k + 1) = true) := by show _ = _; rw [OT.out, HO.out, TE.out, ← OK.out, e]; rfl
              go_wp2
              go_roundw
              case rel => exact ⟨k + 1, by omega, by go_num, hB, by rw [NX2.out, TE.out], by rw [NX2.out, TE.out], HF⟩
              case measure => simp [intOf]; omega
      · have TE : Hid (T = ⟨sf, ox⟩) := by show _ = _; rw [NX.out]; simp [stS]
        go_wp2_with fail
        go_loopw [10, 11] (fun bb j wx => ∃ q : Nat, q ≤ n ∧ j = .int .i64 q ∧ bb = .bool (anyTo f T q) ∧ Below w.heap.size w wx) (fun _ j _ => n - (intOf j).toNat)
        case atStart => exact ⟨0, Nat.zero_le _, rfl, rfl, hB⟩
        case round =>
          clear hB
          obtain ⟨q, hq, rfl, rfl, hB⟩ := hrel
          by_cases hql : q < n
          · obtain ⟨d0, d1, d2⟩ := HC.out q hql
            rw [← hB.cell hb] at d0 d1 d2
            have AN : Hid (anyTo f T (q + 1) = (anyTo f T q || ((f q).l == T.f && decide ((f q).r ≤ T.v)))) := rfl
            rw [TE.out] at AN ⊢
            generalize f q = sq at *
            obtain ⟨sl, sr, sp⟩ := sq
            simp only at d0 d1 d2
            cases e : anyTo f ⟨sf, ox⟩ q
            · by_cases e1 : sl = sf
              · subst e1
                by_cases e2 : sr ≤ ox
                · go_wp2
                  go_roundw
                  case rel => exact ⟨q + 1, by omega, by go_num, by rw [AN.out, e]; simp; omega, hB⟩
                  case measure => simp [intOf]; omega
                · go_wp2
                  go_roundw
                  case rel => exact ⟨q + 1, by omega, by go_num, by rw [AN.out, e]; simp; omega, hB⟩
                  case measure => simp [intOf]; omega
              · go_wp2
                go_roundw
                case rel => exact ⟨q + 1, by omega, by omega, by rw [AN.out, e]; simp; omega⟩
                case measure => simp [intOf]; omega
            · go_wp2
              go_roundw
              case rel => exact ⟨q + 1, by omega, by go_num, by rw [AN.out, e]; simp, hB⟩
              case measure => simp [intOf]; omega
          · have : q = n := by omega
            subst this
            rw [TE.out]
            have OK := Lib.hid (anyTo_ok HV.out ⟨sf, ox⟩)
            cases e : anyTo f ⟨sf, ox⟩ q
            · have HF : Hid (okS q f T = false) := by show _ = _; rw [TE.out, ← OK.out, e]
              go_wp2
              go_ret
              exact ⟨by rw [SB.out, NO.out HF.out]; rfl, hB⟩
            · have HF : Hid (okSTo q f g ⟨x0, y0⟩ (k + 1) = true) := by show _ = _; rw [OT.out, HO.out, TE.out, ← OK.out, e]; rfl
              go_wp2
              go_roundw
              case rel => exact ⟨k + 1, by omega, by go_num, hB, by rw [NX2.out, TE.out], by rw [NX2.out, TE.out], HF⟩
              case measure => simp [intOf]; omega
    · have : k = m := by omega
      subst this
      go_wp2
      go_ret
      exact ⟨by rw [SB.out, HO.out]; rfl, hB⟩
theorem rsf_any (A B : Option Addr) (n c m d : Nat) (f : Nat → St) (a : Int) (g : Nat → PO) (w : World) (h : SlS w A n f) (hp : PlS w B m g) :
    Calls Try.prog 23 #[.slice A n c, .int .i64 a, .slice B m d] w (SafPost w n f a m g) := by
  cases ho : vld n f && inT n a
  · exact rsf_bad A B n c m d f a g w h ho
  · have hh := ho
    simp only [Bool.and_eq_true, inT, decide_eq_true_eq] at hh
    have hl := vld_len hh.1
    rcases h.row with h0 | ⟨b, off, rfl, hb, hc⟩
    · omega
    · obtain ⟨k, rfl⟩ : ∃ k : Nat, a = k := ⟨a.toNat, by omega⟩
      exact rsf_good b off n c B m d f k g w h hb hc ho hp
end Go.Proofs.Ytfmaadfccnjnjaa
