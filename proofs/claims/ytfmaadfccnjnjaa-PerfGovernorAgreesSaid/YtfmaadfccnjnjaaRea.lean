/- The walk of PerfReachesFrequency. -/
import Derived.Test.YtfmaadfccnjnjaaTis
namespace Go.Proofs.Ytfmaadfccnjnjaa
open Go.RowKit

theorem fnd_cases (n : Nat) (f : Nat → St) (x : Int) : (fnd n f x = none ∧ ∀ i, i < n → (f i).l < x) ∨ ∃ k, k < n ∧ fnd n f x = some k ∧ x ≤ (f k).l ∧ ∀ j, j < k → (f j).l < x := by
  cases h : fnd n f x with
  | none =>
    refine .inl ⟨rfl, fun i hi => ?_⟩
    unfold fnd at h
    rw [List.find?_range_eq_none] at h
    have := h i hi
    simp at this; omega
  | some k =>
    unfold fnd at h
    rw [List.find?_range_eq_some] at h
    obtain ⟨h1, h2, h3⟩ := h
    refine .inr ⟨k, by simpa using h2, rfl, by simpa using h1, fun j hj => ?_⟩
    have := h3 j hj
    simp at this; omega
theorem find_none (A : Option Addr) (n c : Nat) (f : Nat → St) (x : Int) (w : World) (h : SlS w A n f) (hv : vld n f = true) (hf : fnd n f x = none) :
    Calls Try.prog 15 #[.slice A n c, .int .u64 x] w fun e w' => e = .returned (.tuple #[.int .i64 0, .int .i64 6]) ∧ Below w.heap.size w w' := by
  refine (find_any A n c f x w h).mono ?_
  rintro e w' ⟨rfl, hb⟩
  exact ⟨by unfold fv fe; rw [hv, hf]; rfl, hb⟩
theorem find_some (A : Option Addr) (n c : Nat) (f : Nat → St) (x : Int) (w : World) (h : SlS w A n f) (hv : vld n f = true) (k : Nat) (hf : fnd n f x = some k) :
    Calls Try.prog 15 #[.slice A n c, .int .u64 x] w fun e w' => e = .returned (.tuple #[.int .i64 k, .int .i64 0]) ∧ Below w.heap.size w w' := by
  refine (find_any A n c f x w h).mono ?_
  rintro e w' ⟨rfl, hb⟩
  exact ⟨by unfold fv fe; rw [hv, hf]; rfl, hb⟩
set_option maxRecDepth 100000 in
set_option maxHeartbeats 4000000 in
theorem rea_walk (A : Option Addr) (m c : Nat) (g : Nat → St) (a : Int) (X0 : Int) (w : World) (h : SlS w A m g) (_ha : (Lit.int .i64 a).wf = true) (hX : (Lit.int .u64 X0).wf = true) :
    Calls Try.prog 11 #[.slice A m c, .int .i64 a, .int .u64 X0] w (LawPost w) := by
  have hm := h.len
  have hx0 := (u64_of_wf hX).1
  by_cases h20 : 20 < m
  · go_enter Try.func11, Try.ntmps11
    go_wp2_with fail
    refine (awake_any _).mono ?_
    rintro e w1 ⟨rfl, hb1⟩
    go_wp2
    go_ret
    exact ⟨rfl, hb1⟩
  have ST := tab_any A m c g _ h
  obtain ⟨hn1, hn8, -, -⟩ := tbN_bd m
  have HV := Lib.hid (tbF_vld m g)
  have X1 : (X0.tmod 1000) = X0 % 1000 := Int.tmod_eq_emod_of_nonneg hx0
  go_enter Try.func11, Try.ntmps11
  go_wp2_with fail
  refine ST.mono ?_
  rintro e w1 ⟨G, k, rfl, -, S0, B0⟩
  clear ST h
  generalize tbF m g = f at *
  generalize tbN m = n at *
  have M := Lib.hid (fun v W => mod_any v n hn1 (by omega) W)
  have hx := (modOf_spec a n hn1 (by omega)).2
  go_wp2_with fail
  refine (M.out a w1).mono ?_
  rintro e w' ⟨rfl, rfl⟩
  clear M
  generalize modOf a n = x at *
  go_wp2_with fail
  generalize X0 % 1000 = X at *
  rcases fnd_cases n f X with ⟨hf, hall⟩ | ⟨k0, hk0, hf, hge, hbl⟩
  · have HL := hall (n - 1) (by omega)
    have HF := Lib.hid hf
    clear hf hall
    refine (find_none _ _ _ _ _ _ S0 HV.out HF.out).mono ?_
    rintro e w2 ⟨rfl, b1⟩
    have S1 := S0.below b1 (Nat.le_refl _)
    have B1 := bel2 B0 b1
    clear S0 B0 b1
    obtain ⟨c0, -, -⟩ := S1.cells (show n - 1 < n by omega)
    obtain ⟨q, hq⟩ : ∃ q, q + 1 = n := ⟨n - 1, by omega⟩
    subst hq
    simp only [Nat.add_sub_cancel] at c0 HL
    generalize f q = s at *
    obtain ⟨s1, s2, s3⟩ := s
    simp only at c0 HL
    have i3 : IntKind.i64.wrap (q : Int) = (q : Int) := IntWalk.i64_in _ (by omega)
    go_wp2_with fail
    refine (awake_any _).mono ?_
    rintro e w3 ⟨rfl, b2⟩
    go_wp2
    go_ret
    exact ⟨rfl, bel2 B1 b2⟩
  · have HF := Lib.hid hf
    have HB := Lib.hid hbl
    clear hf hbl
    refine (find_some _ _ _ _ _ _ S0 HV.out _ HF.out).mono ?_
    rintro e w2 ⟨rfl, b0⟩
    have S0 := S0.below b0 (Nat.le_refl _)
    have B0 := bel2 B0 b0
    clear b0
    have TI := Lib.hid (fun A c w h => tra_is A n c f x k0 w h (trOk_in HV.out hx hk0))
    obtain ⟨t1, t2⟩ := tr_safe HV.out hx hk0
    have T1 := Lib.hid t1
    have T3 := Lib.hid t2
    have SE := Lib.hid (fun m g => safe_tr HV.out hx m g)
    clear t1 t2
    have hl2 : (trL f x k0).length ≤ 2 := by unfold trL trV; split <;> (try split) <;> (try split) <;> simp
    generalize trL f x k0 = l at *
    go_wp2_with fail
    refine (TI.out _ _ _ S0).mono ?_
    rintro e w3 ⟨A1, c1, rfl, P1, b1⟩
    have S1 := S0.below b1 (Nat.le_refl _)
    have B1 := bel2 B0 b1
    clear S0 B0 b1 TI
    go_wp2_with fail
    refine (saf_ev _ _ _ _ _ _ _ _ _ _ S1 P1 true (by rw [SE.out]; exact T1.out)).mono ?_
    rintro e w4 ⟨rfl, b2⟩
    have S2 := S1.below b2 (Nat.le_refl _)
    have P2 := P1.below b2 (Nat.le_refl _)
    have B2 := bel2 B1 b2
    clear S1 P1 B1 b2
    have hGw := S2.lt hn1
    obtain ⟨c0, d0, -⟩ := S2.cells hx
    have S2 := Lib.hid S2
    have P2 := Lib.hid P2
    have B2 := Lib.hid B2
    go_wp2_with fail
    go_loopw [15, 14] (fun i F wr => ∃ q : Nat, q ≤ l.length ∧ i = .int .i64 q ∧ F = .int .u64 (stTo (atL l) ⟨(f x).l, (f x).r⟩ q).f ∧ wr = w4) (fun i _ _ => l.length - (intOf i).toNat)
    case atStart => exact ⟨0, Nat.zero_le _, rfl, rfl, rfl⟩
    case round =>
      obtain ⟨q, hq, rfl, rfl, rfl⟩ := hrel
      by_cases hlt : q < l.length
      · obtain ⟨b2, o2, rfl, hb2, p0, p1⟩ := pls_row P2.out q hlt
        have NX : Hid (stTo (atL l) ⟨(f x).l, (f x).r⟩ (q + 1) = stS (stTo (atL l) ⟨(f x).l, (f x).r⟩ q) (atL l q)) := rfl
        obtain ⟨T, hT⟩ : ∃ T, stTo (atL l) ⟨(f x).l, (f x).r⟩ (q + 1) = T := ⟨_, rfl⟩
        rw [hT] at NX
        have NX2 := Lib.hid hT; clear hT
        generalize stTo (atL l) ⟨(f x).l, (f x).r⟩ q = S at *
        generalize atL l q = o at *
        obtain ⟨ov, ox⟩ := o
        obtain ⟨sf, sv⟩ := S
        simp only at p0 p1
        clear c0 d0
        cases ov
        · have TE : Hid (T = ⟨ox, sv⟩) := by show _ = _; rw [NX.out]; simp [stS]
          go_wp2
          go_roundw
          case rel => exact ⟨q + 1, by omega, by go_num, by rw [NX2.out, TE.out], trivial⟩
          case measure => simp [intOf]; omega
        · have TE : Hid (T = ⟨sf, ox⟩) := by show _ = _; rw [NX.out]; simp [stS]
          go_wp2
          go_roundw
          case rel => exact ⟨q + 1, by omega, by go_num, by rw [NX2.out, TE.out], trivial⟩
          case measure => simp [intOf]; omega
      · have : q = l.length := by omega
        subst this
        rw [T3.out]
        clear c0 d0
        have hnl : ¬ (f k0).l < X := by omega
        generalize hFk : (f k0).l = Fk at *
        have HK := Lib.hid hFk; clear hFk
        go_wp2_with fail
        go_loopw [16] (fun i wx => ∃ q : Nat, q ≤ n ∧ i = .int .i64 q ∧ wx = wr) (fun i _ => n - (intOf i).toNat)
        case atStart => exact ⟨0, Nat.zero_le _, rfl, rfl⟩
        case round =>
          obtain ⟨q, hq, rfl, rfl⟩ := hrel
          by_cases hlt : q < n
          · obtain ⟨c0, -, -⟩ := S2.out.cells hlt
            have HC : Hid ((f q).l < X ∨ Fk ≤ (f q).l) := by
              show _ ∨ _
              rcases Nat.lt_or_ge q k0 with h1 | h1
              · exact .inl (HB.out q h1)
              · rcases Nat.lt_or_ge k0 q with h2 | h2
                · have := vld_lt HV.out h2 hlt
                  rw [HK.out] at this
                  exact .inr (by omega)
                · have : q = k0 := by omega
                  subst this
                  exact .inr (by rw [HK.out]; exact Int.le_refl _)
            generalize f q = s at *
            obtain ⟨s1, s2, s3⟩ := s
            simp only at c0 HC
            by_cases i1 : s1 < X
            · go_wp2
              go_roundw
              case rel => exact ⟨q + 1, by omega, by go_num, trivial⟩
              case measure => simp [intOf]; omega
            · have i2 : ¬ s1 < Fk := by rcases HC.out with h1 | h1 <;> omega
              go_wp2
              go_roundw
              case rel => exact ⟨q + 1, by omega, by go_num, trivial⟩
              case measure => simp [intOf]; omega
          · have : q = n := by omega
            subst this
            go_wp2_with fail
            refine (awake_any _).mono ?_
            rintro e w8 ⟨rfl, b8⟩
            go_wp2
            go_ret
            exact ⟨rfl, bel2 B2.out b8⟩
end Go.Proofs.Ytfmaadfccnjnjaa
