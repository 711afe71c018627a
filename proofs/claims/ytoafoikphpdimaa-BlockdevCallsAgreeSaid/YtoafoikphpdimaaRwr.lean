/- The reference: PowerOff, Read, Write. -/
import Derived.Test.YtoafoikphpdimaaRfl
namespace Go.Proofs.Ytoafoikphpdimaa
open Go.ChangeShapes Go.WideShapes Go.ChangeAt Go.RowKit Go.Deep Go.Joins
section
variable {F : Nat → Prop} {w : World} {s : DkS} {x : RX}
set_option maxHeartbeats 1000000 in
theorem roff_any (h : Rk F w s x) {A : Option Addr} {n c : Nat} {q : Nat → Bool} (hB : Bs w A n c q) (hA : ∀ a, A = some a → 0 < n → a.block ≠ s.L ∧ a.block ≠ s.X) :
    Calls Try.prog 35 #[.pointer (some ⟨s.L, 0, none⟩), .slice A n c] w (RpO w F (offS s q n) (.int .i64 (offR s))) := by
  obtain ⟨-, -, c2, -⟩ := h.cells
  have hl := h.lt.1
  have P := rlose_any h hB hA
  cases hb : s.off with
  | true =>
    have G : Hid (RpO w F (offS s q n) (.int .i64 (offR s)) (.returned (.int .i64 9)) w) := by
      unfold offS offR
      rw [hb]
      exact ⟨rfl, x, Rw.refl h⟩
    clear h P
    rw [hb] at c2
    clear hb
    go_enter Try.func35, Try.ntmps35
    go_wp2
    go_ret
    exact G.out
  | false =>
    have G : Hid (∀ w', (∃ x, Rw w F w' (loS s q n) x) → RpO w F (offS s q n) (.int .i64 (offR s)) (.returned (.int .i64 0)) w') := fun w' H => by
      unfold offS offR
      rw [hb]
      exact ⟨rfl, H⟩
    clear h
    rw [hb] at c2
    clear hb
    go_enter Try.func35, Try.ntmps35
    go_wp2_with fail
    refine P.mono ?_
    rintro e w' ⟨rfl, H⟩
    have G2 := Lib.hid (G.out w' H)
    clear G H P
    go_wp2
    go_ret
    exact G2.out
set_option maxRecDepth 20000 in
set_option maxHeartbeats 4000000 in
theorem rread_any (h : Rk F w s x) (i : Int) : Calls Try.prog 32 #[.pointer (some ⟨s.L, 0, none⟩), .int .i64 i] w (RdP w (rdS s i)) := by
  obtain ⟨c0, c1, c2, -⟩ := h.cells
  have hl := h.lt.1
  have hxc := h.lenX
  by_cases h1 : i < 0
  · have G : Hid (RdP w (rdS s i) (.returned (.tuple #[.string ByteArray.empty, .int .i64 1])) w) := by
      show RdP _ _ _ _
      unfold rdS
      rw [show hasB s i = false by unfold hasB; rw [decide_eq_false (by omega)]; rfl]
      exact ⟨rfl, rfl⟩
    clear h c1 c2
    go_enter Try.func32, Try.ntmps32
    go_wp2
    go_ret2
    exact G.out
  by_cases h2 : (s.n : Int) ≤ i
  · have G : Hid (RdP w (rdS s i) (.returned (.tuple #[.string ByteArray.empty, .int .i64 1])) w) := by
      show RdP _ _ _ _
      unfold rdS
      rw [show hasB s i = false by unfold hasB; rw [decide_eq_false (show ¬ i < s.n by omega), Bool.and_false]]
      exact ⟨rfl, rfl⟩
    clear h c1 c2
    go_enter Try.func32, Try.ntmps32
    go_wp2
    go_ret2
    exact G.out
  have hh : hasB s i = true := by unfold hasB; rw [decide_eq_true (by omega), decide_eq_true (by omega)]; rfl
  cases hb : s.off with
  | true =>
    have G : Hid (RdP w (rdS s i) (.returned (.tuple #[.string ByteArray.empty, .int .i64 16])) w) := by
      show RdP _ _ _ _
      unfold rdS
      rw [hh, hb]
      exact ⟨rfl, rfl⟩
    clear h hh
    rw [hb] at c2
    clear hb
    go_enter Try.func32, Try.ntmps32
    go_wp2
    go_ret2
    exact G.out
  | false =>
    have hin : 0 ≤ i ∧ i < s.n := by omega
    obtain ⟨j, rfl⟩ := Int.eq_ofNat_of_zero_le hin.1
    have hj : j < s.n := by omega
    have G : Hid (∀ d, d = lastW s.S s.C j s.C.length → RdP w (rdS s j) (.returned (.tuple #[.string d, .int .i64 0])) w) := fun d hd => by
      unfold rdS
      rw [hh, hb, hd, lastW_apk _ _ _ (by rw [h.len]; exact hj)]
      exact ⟨rfl, rfl⟩
    obtain ⟨A0, cc, hv⟩ := h.form
    rw [hv] at c1
    have HV := Lib.hid hv
    clear hv
    have SA := h.secAt j hj
    have H := Lib.hid h
    have hm := h.lenC
    rw [hb] at c2
    clear h hb hin hh h1 h2
    have Z0 : Hid (s.S.getD j ByteArray.empty = lastW s.S s.C j 0) := rfl
    generalize s.S.getD j ByteArray.empty = d0 at *
    have hX : (j : Int) < (s.n : Int) := by omega
    go_enter Try.func32, Try.ntmps32
    go_wp2_with fail
    go_loopw [6] (fun vi wr => ∃ x : Int, ∃ k : Nat, vi = .int .i64 x ∧ x + 1 = k ∧ k ≤ s.C.length ∧ w = wr ∧ Hid (lastW s.S s.C j s.C.length = lastW s.S s.C j k)) (fun i _ => (intOf i + 1).toNat)
    case atStart => exact ⟨_, s.C.length, rfl, by omega, Nat.le_refl _, rfl, rfl⟩
    case round =>
      obtain ⟨x9, k, rfl, hk, hle, rfl, E⟩ := hrel
      cases k with
      | zero =>
        have hx : x9 = -1 := by omega
        subst hx
        have G2 := Lib.hid (G.out d0 (by rw [Z0.out, E.out]))
        clear G E Z0 hk
        go_wp2
        go_ret2
        exact G2.out
      | succ k =>
        have hx : x9 = (k : Int) := by omega
        subst hx
        obtain ⟨g, c9, hv, e0, e1⟩ := H.out.cacAt k (by omega)
        rw [HV.out] at hv
        injection hv with hA9 hmm hc
        subst hA9 hc
        clear hmm
        have hg := cell_lt e0
        have HT : Hid (s.C[k].k = j → lastW s.S s.C j (k + 1) = s.C[k].d) := fun e => lastW_t (by omega) e
        have HF : Hid (s.C[k].k ≠ j → lastW s.S s.C j (k + 1) = lastW s.S s.C j k) := fun e => lastW_f (by omega) e
        have hlt : (k : Int) < (s.C.length : Int) := by omega
        generalize hz : s.C[k] = z at *
        clear hz H
        by_cases hj2 : z.k = j
        · have G2 := Lib.hid (G.out z.d (by rw [E.out, HT.out hj2]))
          have q1 : ((z.k : Int) == (j : Int)) = true := by simp [hj2]
          clear G E Z0 hk HT HF
          go_wp2
          go_ret2
          exact G2.out
        · have q1 : ((z.k : Int) == (j : Int)) = false := by simp; omega
          have E2 := Lib.hid (E.out.trans (HF.out hj2))
          clear E HT HF
          go_wp2_with fail
          go_roundw
          case rel => exact ⟨_, k, rfl, by omega, by omega, trivial, E2⟩
          case measure => simp [intOf]
theorem info85 : (Try.prog.info? 85).map (fun i => (i.zero, i.size, i.bytes)) = some (some (.agg #[.int .i64 0, .string { data := #[] }]), 2, 24) := by kernel_rfl
theorem rw_app {w0 w1 wa w3 : World} {F0 : Nat → Prop} {s : DkS} {x : RX} {v' : Value} (h : Rw w0 F0 w1 s x) (hb : Below w1.heap.size w1 wa) {i : Nat} {d : ByteArray} (hi : i < s.n) (hd : d.size = 64)
    (hown : w3.ownsRow 0 85 2 v' (s.C.length + 1) (cwl s.C ++ [.int .i64 (i : Nat), .string d])) (hgr : wa.grownBy w3 x.v.ownBlock) (hbk : ∀ k, v'.ownBlock = some k → x.v.ownBlock = some k ∨ k = wa.heap.size) :
    Rw w0 F0 (w3.setCell ⟨s.L, 1, none⟩ v') { s with C := s.C ++ [⟨i, d⟩] } { x with v := v' } := by
  obtain ⟨F, hF, hk, hc⟩ := h
  have hwa : w1.heap.size ≤ wa.heap.size := hb.size
  have hw0 : w0.heap.size ≤ w1.heap.size := hc.size
  have h1 := hk.below hb
  have g1 := h1.lt
  have hown' : w3.ownsRow 0 85 2 v' (s.C ++ [(⟨i, d⟩ : CW)]).length (cwl (s.C ++ [(⟨i, d⟩ : CW)])) := by
    rw [cwl_snoc, List.length_append]; exact hown
  have c3 : Chg (fun k => x.v.ownBlock = some k) wa w3 := Chg.of_grown hgr
  have o3 := c3.blk h1.obj (fun e => (h1.vL _ e).1 rfl)
  have nv : ∀ k, v'.ownBlock = some k → k ≠ s.L ∧ k ≠ s.X := fun k hk => by
    rcases hbk k hk with e | e
    · exact h1.vL k e
    · subst e; exact ⟨fun e => by have := g1.1; omega, fun e => by have := g1.2.1; omega⟩
  have nk : ∀ a, x.A = some a → 0 < x.n → v'.ownBlock ≠ some a.block := fun a e hn e2 => by
    rcases hbk _ e2 with e3 | e3
    · exact (h1.kL a e hn).2.2 e3
    · have := h1.kp.lt a e hn; omega
  have cs := Chg.set w3 s.L 1 v'
  have KS : ∀ c ∈ s.C ++ [(⟨i, d⟩ : CW)], c.k < s.n ∧ c.d.size = 64 := fun c hc => by
    rcases List.mem_append.1 hc with h | h
    · exact h1.ks c h
    · rw [List.mem_singleton.1 h]; exact ⟨hi, hd⟩
  refine ⟨fun b => F b ∨ v'.ownBlock = some b, fun b hb2 => ?_, ?_, ?_⟩
  · rcases hb2 with h | h
    · exact hF b h
    · rcases hbk b h with e | e
      · exact hF b (h1.Fv b e)
      · right; omega
  · exact ⟨set_obj o3 1 _, own_chg (own_chg h1.sec c3 (fun k hk e => by cases hk; exact (h1.vL _ e).2 rfl)) cs (fun k hk e => by cases hk; exact h1.XL e), own_chg hown' cs (fun k hk e => (nv k hk).1 e),
      (h1.kp.chg c3 (fun a e hn e2 => (h1.kL a e hn).2.2 e2)).chg cs (fun a e hn e2 => (h1.kL a e hn).1 e2), h1.kq, .inl h1.FL, .inl h1.FX, (fun k hk => .inr hk), (fun a e hn => .inl (h1.FK a e hn)), h1.XL, nv, (fun a e hn => ⟨(h1.kL a e hn).1, (h1.kL a e hn).2.1, nk a e hn⟩), h1.hn, h1.len, KS, h1.pb⟩
  · refine (hc.trans2 ((Chg.of_below hb F).trans (c3.mono (fun k _ hk => h1.Fv k hk))) (fun i hi hi2 => ?_)).trans2 cs (fun i hi e => ?_)
    · rcases hF i hi2 with h | h
      · exact h
      · omega
    · rw [e]
      rcases hF _ h1.FL with h | h
      · exact h
      · omega
end
end Go.Proofs.Ytoafoikphpdimaa
