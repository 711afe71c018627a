/- The walk of IdlePredictorAgrees. -/
import Derived.Test.YtfbgkdjjfjlhhaaPxp
import Derived.Test.YtfbgkdjjfjlhhaaResp
namespace Go.Proofs.Ytfbgkdjjfjlhhaa
open Go.RowKit

theorem bel2 {w a b : World} (h : Below w.heap.size w a) (k : Below a.heap.size a b) : Below w.heap.size w b := h.trans (k.mono h.size)
/-- What both predictors expect after the durations zs. -/
def exW (t : Int) (zs : List Int) : Int := exV t zs.length (fun i => zs.getD (zs.length - 8 + i) 0)
theorem exw_a (w : World) (B L : Nat) (r : Option Nat) (zs : List Int) (t : Int) (h : PrW 73 w B L r (last8 zs)) (hy : ∀ y ∈ zs, 0 ≤ y ∧ y ≤ 1152921504606846976) :
    Calls Try.prog 34 #[.pointer (some ⟨L, 0, none⟩), .int .u64 t] w fun e w' => e = .returned (.int .u64 (exW t zs)) ∧ w = w' := by
  obtain ⟨v, hv, -⟩ := h
  have := exp_a w B L v (last8 zs) t hv (last8_len zs) (last8_mem hy)
  rw [exV_last] at this
  exact this
theorem exw_b (w : World) (B L : Nat) (r : Option Nat) (zs : List Int) (t : Int) (h : PrW 75 w B L r zs) (hl : zs.length ≤ 100) (hy : ∀ y ∈ zs, 0 ≤ y ∧ y ≤ 1152921504606846976) :
    Calls Try.prog 35 #[.pointer (some ⟨L, 0, none⟩), .int .u64 t] w fun e w' => e = .returned (.int .u64 (exW t zs)) ∧ w = w' := by
  obtain ⟨v, hv, -⟩ := h
  exact exp_b w B L v zs t hv hl hy
/-- Two predictors, apart. -/
structure Two (w : World) (B L1 L2 : Nat) (zs : List Int) : Prop where
  ex : ∃ r1 r2, PrW 73 w B L1 r1 (last8 zs) ∧ PrW 75 w B L2 r2 zs ∧ r1 ≠ some L2 ∧ r2 ≠ some L1 ∧ ∀ k, r1 = some k → r2 ≠ some k
  ne : L1 ≠ L2
  bd : ∀ y ∈ zs, 0 ≤ y ∧ y ≤ 1152921504606846976
/-- Both record x, one after the other. -/
theorem two_rec {w : World} {B L1 L2 : Nat} {zs : List Int} {x : Int} (h : Two w B L1 L2 zs) (hx0 : 0 ≤ x) (hx : x ≤ 1152921504606846976) (hl : zs.length ≤ 100) (hB : B ≤ w.heap.size) (h1 : B ≤ L1) (h2 : B ≤ L2) :
    Calls Try.prog 32 #[.pointer (some ⟨L1, 0, none⟩), .int .u64 x] w fun e w1 => e = .returned (.int .i64 0) ∧
      Calls Try.prog 33 #[.pointer (some ⟨L2, 0, none⟩), .int .u64 x] w1 fun e' w2 => e' = .returned (.int .i64 0) ∧ Two w2 B L1 L2 (zs ++ [x]) ∧ Below B w w2 := by
  obtain ⟨⟨r1, r2, p1, p2, n1, n2, n3⟩, hne, hbd⟩ := h
  have q1 := p1.row
  have q2 := p2.row
  have l1 := p1.lt
  have l2 := p2.lt
  refine (rec_a w B L1 r1 (last8 zs) x hx (last8_len zs) hB p1).mono ?_
  rintro e w1 ⟨rfl, s1, hs1, pa, ca⟩
  rw [last8_snoc] at pa
  have p2' : PrW 75 w1 B L2 r2 zs := p2.kept ca (fun h => h.elim (fun e => hne e.symm) (fun e => n1 e)) (fun k hk h => h.elim (fun e => n2 (by rw [hk, e])) (fun e => n3 k e hk))
  refine ⟨rfl, (rec_b w1 B L2 r2 zs x hx hl (by have := ca.size; omega) p2').mono ?_⟩
  rintro e w2 ⟨rfl, s2, hs2, pb, cb⟩
  have hsz := ca.size
  have hs1' : ∀ k, s1 = some k → r1 = some k ∨ w.heap.size ≤ k := fun k hk => by
    rcases hs1 with e | ⟨k', e, hk'⟩
    · exact .inl (by rw [← e]; exact hk)
    · rw [e] at hk; injection hk with hk; exact .inr (by omega)
  have hs2' : ∀ k, s2 = some k → r2 = some k ∨ w1.heap.size ≤ k := fun k hk => by
    rcases hs2 with e | ⟨k', e, hk'⟩
    · exact .inl (by rw [← e]; exact hk)
    · rw [e] at hk; injection hk with hk; exact .inr (by omega)
  have qa := pa.row
  have pa' : PrW 73 w2 B L1 s1 (last8 (zs ++ [x])) := pa.kept cb (fun h => h.elim (fun e => hne e) (fun e => n2 e)) (fun k hk h => h.elim (fun e => by
      rcases hs1' k hk with e1 | e1
      · exact n1 (by rw [e1, e])
      · omega) (fun e => by
      rcases hs1' k hk with e1 | e1
      · exact n3 k e1 e
      · have := q2 k e; omega))
  refine ⟨rfl, ⟨⟨s1, s2, pa', pb, ?_, ?_, ?_⟩, hne, ?_⟩, ?_⟩
  · intro hk
    rcases hs1' _ hk with e1 | e1
    · exact n1 e1
    · omega
  · intro hk
    rcases hs2' _ hk with e1 | e1
    · exact n2 e1
    · omega
  · intro k hk hk2
    have g1 := qa k hk
    rcases hs2' _ hk2 with e1 | e1
    · rcases hs1' _ hk with e2 | e2
      · exact n3 k e2 e1
      · have := q2 k e1; omega
    · omega
  · intro y hy
    rcases List.mem_append.1 hy with hy | hy
    · exact hbd y hy
    · simp at hy; subst hy; exact ⟨hx0, hx⟩
  · refine Below.chg (Below.chg (Below.refl _ _) ca hB ?_) cb (by omega) ?_
    · rintro k (rfl | hk)
      · exact h1
      · exact (q1 k hk).1
    · rintro k (rfl | hk)
      · exact h2
      · exact (q2 k hk).1
theorem two_new (w : World) : Two ((w.alloc (.cells #[.slice none 0 0] 73)).alloc (.cells #[.slice none 0 0] 75)) w.heap.size w.heap.size (w.heap.size + 1) [] := by
  have h1 := prw_new 73 w w.heap.size
  have h2 := prw_new 75 (w.alloc (.cells #[.slice none 0 0] 73)) w.heap.size
  have e : (w.alloc (.cells #[.slice none 0 0] 73)).heap.size = w.heap.size + 1 := by simp
  rw [e] at h2
  exact ⟨⟨none, none, h1.kept (Chg.alloc (fun _ => False) _ _) (fun h => h) (fun k hk => by cases hk), h2, by simp, by simp, fun k hk => by cases hk⟩, by omega, fun y hy => by simp at hy⟩
theorem Two.a {w : World} {B L1 L2 : Nat} {zs : List Int} (h : Two w B L1 L2 zs) (t : Int) : Calls Try.prog 34 #[.pointer (some ⟨L1, 0, none⟩), .int .u64 t] w fun e w' => e = .returned (.int .u64 (exW t zs)) ∧ w = w' := by
  obtain ⟨⟨r1, r2, p1, p2, n1, n2, n3⟩, hne, hbd⟩ := h
  exact exw_a w B L1 r1 zs t p1 hbd
theorem Two.b {w : World} {B L1 L2 : Nat} {zs : List Int} (h : Two w B L1 L2 zs) (hl : zs.length ≤ 100) (t : Int) : Calls Try.prog 35 #[.pointer (some ⟨L2, 0, none⟩), .int .u64 t] w fun e w' => e = .returned (.int .u64 (exW t zs)) ∧ w = w' := by
  obtain ⟨⟨r1, r2, p1, p2, n1, n2, n3⟩, hne, hbd⟩ := h
  exact exw_b w B L2 r2 zs t p2 hl hbd
set_option maxRecDepth 100000 in
set_option maxHeartbeats 4000000 in
theorem pag_walk (A : Option Addr) (m c : Nat) (Z : Nat → Int) (t : Int) (w : World) (h : Zs w A m Z) (ht : (Lit.int .u64 t).wf = true) :
    Calls Try.prog 10 #[.slice A m c, .int .u64 t] w (LawPost w) := by
  have LP : Hid (∀ w', Below w.heap.size w w' → LawPost w (.returned (.bool true)) w') := fun _ h => ⟨rfl, h⟩
  have hm := h.len
  have ht0 := (u64_of_wf ht).1
  clear ht
  by_cases h40 : 40 < m
  · go_enter Try.func10, Try.ntmps10
    go_wp2_with fail
    refine (awake_any _).mono ?_
    rintro e w1 ⟨rfl, hb1⟩
    go_wp2
    go_ret
    exact ⟨rfl, hb1⟩
  have TW := Lib.hid (two_new w)
  have B2 : Below w.heap.size w ((w.alloc (.cells #[.slice none 0 0] 73)).alloc (.cells #[.slice none 0 0] 75)) := ((Below.refl _ _).alloc (Nat.le_refl _) _).alloc (by simp) _
  have HZ := Lib.hid h
  clear h
  go_enter Try.func10, Try.ntmps10
  go_wp2_with fail
  refine (new_a w).mono ?_
  rintro e w1 ⟨rfl, rfl⟩
  go_wp2_with fail
  refine (new_b _).mono ?_
  rintro e w1 ⟨rfl, rfl⟩
  have e : (w.alloc (.cells #[.slice none 0 0] 73)).heap.size = w.heap.size + 1 := by simp
  rw [e]
  clear e
  generalize ((w.alloc (.cells #[.slice none 0 0] 73)).alloc (.cells #[.slice none 0 0] 75)) = w2 at *
  generalize hB : w.heap.size = B at *
  have HB := Lib.hid hB
  clear hB
  go_wp2_with fail
  go_loopw [7] (fun i wr => ∃ (k : Nat) (zs : List Int), k ≤ m ∧ i = .int .i64 k ∧ zs.length ≤ k ∧ Two wr B B (B + 1) zs ∧ Below B w wr) (fun i _ => m - (intOf i).toNat)
  case atStart => exact ⟨0, [], by omega, rfl, by simp, TW.out, B2⟩
  case round =>
    clear B2 TW
    obtain ⟨k, zs, hk, rfl, hz, TW, BW⟩ := hrel
    by_cases hlt : k < m
    · have hbs := BW.size
      rcases HZ.out.row with h0 | ⟨b, off, rfl, hbw, hc⟩
      · omega
      have d0 := hc k hlt
      rw [HB.out] at hbw
      rw [← BW.cell hbw] at d0
      obtain ⟨z0, z1⟩ := HZ.out.wf k hlt
      clear hc
      generalize Z k = d at *
      have R2 := Lib.hid (fun (x : Int) (h0 : 0 ≤ x) (h1 : x ≤ 1152921504606846976) => two_rec TW h0 h1 (by omega) (by have := HB.out; omega) (Nat.le_refl _) (by omega))
      have TW := Lib.hid TW
      have BW := Lib.hid BW
      by_cases h5 : (0 : Int) < (k : Int) % 5
      · go_upto_region 12 with fail
        have x0 : 0 ≤ d % 1000 := by omega
        have x1 : d % 1000 ≤ 1152921504606846976 := by omega
        generalize d % 1000 = x at *
        go_wp2_with fail
        refine (R2.out x x0 x1).mono ?_
        rintro e w3 ⟨rfl, C3⟩
        go_wp2_with fail
        refine C3.mono ?_
        rintro e w4 ⟨rfl, T4, b4⟩
        clear C3
        have TA := Lib.hid (fun t => T4.a t)
        have TB := Lib.hid (fun t => T4.b (by simp; omega) t)
        have T4 := Lib.hid T4
        have B4 := Lib.hid (BW.out.trans b4)
        clear b4
        go_wp2_with fail
        refine (TA.out _).mono ?_
        rintro e w5 ⟨rfl, rfl⟩
        go_wp2_with fail
        refine (TB.out _).mono ?_
        rintro e w5 ⟨rfl, rfl⟩
        go_wp2_with fail
        refine (TA.out _).mono ?_
        rintro e w5 ⟨rfl, rfl⟩
        go_wp2_with fail
        refine (TB.out _).mono ?_
        rintro e w5 ⟨rfl, rfl⟩
        go_wp2
        go_roundw
        case rel => exact ⟨k + 1, _, by omega, by go_num, by simp; omega, T4.out, B4.out⟩
        case measure => simp [intOf]; omega
      · go_upto_region 12 with fail
        by_cases h6 : 1152921504606846976 < d
        · go_wp2_with fail
          refine (rec_a_bad wr B d h6).mono ?_
          rintro e w3 ⟨rfl, rfl⟩
          go_wp2_with fail
          refine (rec_b_bad wr (B + 1) d h6).mono ?_
          rintro e w3 ⟨rfl, rfl⟩
          have TA := Lib.hid (fun t => TW.out.a t)
          have TB := Lib.hid (fun t => TW.out.b (by omega) t)
          go_wp2_with fail
          refine (TA.out _).mono ?_
          rintro e w5 ⟨rfl, rfl⟩
          go_wp2_with fail
          refine (TB.out _).mono ?_
          rintro e w5 ⟨rfl, rfl⟩
          go_wp2_with fail
          refine (TA.out _).mono ?_
          rintro e w5 ⟨rfl, rfl⟩
          go_wp2_with fail
          refine (TB.out _).mono ?_
          rintro e w5 ⟨rfl, rfl⟩
          go_wp2
          go_roundw
          case rel => exact ⟨k + 1, _, by omega, by go_num, by omega, TW.out, BW.out⟩
          case measure => simp [intOf]; omega
        have x0 : 0 ≤ d := z0
        have x1 : d ≤ 1152921504606846976 := by omega
        generalize hx : d = x at *
        clear hx h6
        go_wp2_with fail
        refine (R2.out x x0 x1).mono ?_
        rintro e w3 ⟨rfl, C3⟩
        go_wp2_with fail
        refine C3.mono ?_
        rintro e w4 ⟨rfl, T4, b4⟩
        clear C3
        have TA := Lib.hid (fun t => T4.a t)
        have TB := Lib.hid (fun t => T4.b (by simp; omega) t)
        have T4 := Lib.hid T4
        have B4 := Lib.hid (BW.out.trans b4)
        clear b4
        go_wp2_with fail
        refine (TA.out _).mono ?_
        rintro e w5 ⟨rfl, rfl⟩
        go_wp2_with fail
        refine (TB.out _).mono ?_
        rintro e w5 ⟨rfl, rfl⟩
        go_wp2_with fail
        refine (TA.out _).mono ?_
        rintro e w5 ⟨rfl, rfl⟩
        go_wp2_with fail
        refine (TB.out _).mono ?_
        rintro e w5 ⟨rfl, rfl⟩
        go_wp2
        go_roundw
        case rel => exact ⟨k + 1, _, by omega, by go_num, by simp; omega, T4.out, B4.out⟩
        case measure => simp [intOf]; omega
    · go_wp2_with fail
      refine (awake_any _).mono ?_
      rintro e w3 ⟨rfl, hb3⟩
      go_wp2
      go_ret
      exact LP.out _ (BW.trans (hb3.mono (by have := BW.size; have := HB.out; omega)))
end Go.Proofs.Ytfbgkdjjfjlhhaa
