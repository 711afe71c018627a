/- BlockdevCallsAgree: the walk. -/
import Derived.Test.YtoafoikphpdimaaDob
namespace Go.Proofs.Ytoafoikphpdimaa
open Go.ChangeShapes Go.WideShapes Go.ChangeAt Go.RowKit Go.Deep Go.Joins

/-- The same state in other blocks. -/
def mv (s : DkS) (L X : Nat) : DkS := { s with L := L, X := X }
theorem mv_wr (s : DkS) (L X : Nat) (i : Int) (d : ByteArray) : wrS (mv s L X) i d = (mv (wrS s i d).1 L X, (wrS s i d).2) := by
  show (if hasB s i && decide (d.size = 64) then (if s.off then (mv s L X, (16 : Int)) else if s.pl then (if s.pw = 0 then (loS (mv s L X) s.q s.qn, 16) else (apS { mv s L X with pw := s.pw - 1 } i d, 0)) else (apS (mv s L X) i d, 0)) else (mv s L X, 1)) = _
  unfold wrS
  by_cases h1 : (hasB s i && decide (d.size = 64)) = true
  · rw [if_pos h1, if_pos h1]
    by_cases h2 : s.off = true
    · rw [if_pos h2, if_pos h2]
    · rw [if_neg h2, if_neg h2]
      by_cases h3 : s.pl = true
      · rw [if_pos h3, if_pos h3]
        by_cases h4 : s.pw = 0
        · rw [if_pos h4, if_pos h4]; rfl
        · rw [if_neg h4, if_neg h4]; rfl
      · rw [if_neg h3, if_neg h3]; rfl
  · rw [if_neg h1, if_neg h1]
theorem mv_fl (s : DkS) (L X : Nat) : flS (mv s L X) = mv (flS s) L X ∧ flR (mv s L X) = flR s := by
  refine ⟨?_, rfl⟩
  show (if s.off then mv s L X else { mv s L X with S := apk s.S s.C (fun _ => true) s.C.length, C := [] }) = _
  unfold flS
  split <;> rfl
theorem mv_cut (s : DkS) (L X : Nat) (y : Int) (q : Nat → Bool) (n : Nat) : cutS (mv s L X) y q n = mv (cutS s y q n) L X := by
  unfold cutS
  split <;> rfl
theorem mv_off (s : DkS) (L X : Nat) (q : Nat → Bool) (n : Nat) : offS (mv s L X) q n = mv (offS s q n) L X ∧ offR (mv s L X) = offR s := by
  refine ⟨?_, rfl⟩
  show (if s.off then mv s L X else loS (mv s L X) q n) = _
  unfold offS
  split <;> rfl
theorem mv_on (s : DkS) (L X : Nat) : onS (mv s L X) = mv (onS s) L X ∧ onR (mv s L X) = onR s := by
  refine ⟨?_, rfl⟩
  show (if s.off then { mv s L X with off := false } else mv s L X) = _
  unfold onS
  split <;> rfl
theorem mv_do (s : DkS) (L X : Nat) (c : Cl) (N : Nat) : doS (mv s L X) c N = (mv (doS s c N).1 L X, (doS s c N).2) := by
  obtain ⟨a1, a2, a3, a4, a5, a6⟩ := doS_cases s c N
  obtain ⟨b1, b2, b3, b4, b5, b6⟩ := doS_cases (mv s L X) c N
  rcases (show modOf c.k 10 < 4 ∨ modOf c.k 10 = 4 ∨ modOf c.k 10 = 5 ∨ modOf c.k 10 = 6 ∨ modOf c.k 10 = 7 ∨ 8 ≤ modOf c.k 10 by omega) with h | h | h | h | h | h
  · rw [a1 h, b1 h, mv_wr]
  · rw [a2 h, b2 h]; rfl
  · rw [a3 h, b3 h, (mv_fl s L X).1, (mv_fl s L X).2]
  · rw [a4 h, b4 h, mv_cut]
  · rw [a5 h, b5 h, (mv_off s L X _ _).1, (mv_off s L X c.q c.n).2]
  · rw [a6 h, b6 h, (mv_on s L X).1, (mv_on s L X).2]
theorem wr_keeps (s : DkS) (i : Int) (d : ByteArray) : (wrS s i d).1.C.length ≤ s.C.length + 1 ∧ (wrS s i d).1.n = s.n ∧ (wrS s i d).1.L = s.L := by
  unfold wrS
  split
  · split
    · exact ⟨by show s.C.length ≤ _; omega, rfl, rfl⟩
    · split
      · split
        · exact ⟨by show (0 : Nat) ≤ _; omega, rfl, rfl⟩
        · exact ⟨by show (s.C ++ [_]).length ≤ _; simp, rfl, rfl⟩
      · exact ⟨by show (s.C ++ [_]).length ≤ _; simp, rfl, rfl⟩
  · exact ⟨by show s.C.length ≤ _; omega, rfl, rfl⟩
theorem do_keeps (s : DkS) (c : Cl) (N : Nat) : (doS s c N).1.C.length ≤ s.C.length + 1 ∧ (doS s c N).1.n = s.n ∧ (doS s c N).1.L = s.L := by
  obtain ⟨a1, a2, a3, a4, a5, a6⟩ := doS_cases s c N
  rcases (show modOf c.k 10 < 4 ∨ modOf c.k 10 = 4 ∨ modOf c.k 10 = 5 ∨ modOf c.k 10 = 6 ∨ modOf c.k 10 = 7 ∨ 8 ≤ modOf c.k 10 by omega) with h | h | h | h | h | h
  · rw [a1 h]; exact wr_keeps _ _ _
  · rw [a2 h]; exact ⟨by show s.C.length ≤ _; omega, rfl, rfl⟩
  · rw [a3 h]
    unfold flS
    split
    · exact ⟨by show s.C.length ≤ _; omega, rfl, rfl⟩
    · exact ⟨by show (0 : Nat) ≤ _; omega, rfl, rfl⟩
  · rw [a4 h]
    unfold cutS
    split <;> exact ⟨by show s.C.length ≤ _; omega, rfl, rfl⟩
  · rw [a5 h]
    unfold offS
    split
    · exact ⟨by show s.C.length ≤ _; omega, rfl, rfl⟩
    · exact ⟨by show (0 : Nat) ≤ _; omega, rfl, rfl⟩
  · rw [a6 h]
    unfold onS
    split <;> exact ⟨by show s.C.length ≤ _; omega, rfl, rfl⟩
/-- The course of the calls. -/
def sq (g : Nat → Cl) (N L X : Nat) : Nat → DkS
  | 0 => s0 N L X
  | i + 1 => (doS (sq g N L X i) (g i) N).1
theorem sq_keeps (g : Nat → Cl) (N L X i : Nat) : (sq g N L X i).C.length ≤ i ∧ (sq g N L X i).n = N ∧ (sq g N L X i).L = L := by
  induction i with
  | zero => exact ⟨Nat.le_refl _, rfl, rfl⟩
  | succ i ih =>
    obtain ⟨h1, h2, h3⟩ := do_keeps (sq g N L X i) (g i) N
    exact ⟨by show (doS _ _ _).1.C.length ≤ _; omega, h2.trans ih.2.1, h3.trans ih.2.2⟩
/-- A disk and the reference's disk, apart. -/
def D3 (w0 w : World) (sa sb : DkS) : Prop :=
  ∃ Fa Fb, (∀ b, Fa b → w0.heap.size ≤ b ∧ b < w.heap.size) ∧ (∀ b, Fb b → w0.heap.size ≤ b ∧ b < w.heap.size) ∧ (∀ b, Fa b → ¬ Fb b) ∧
    (∃ v Ka kc, Dk Fa w sa v Ka kc) ∧ (∃ x, Rk Fb w sb x) ∧ Below w0.heap.size w0 w
section
variable {w0 w w' : World} {sa sb s' : DkS} {r : Value}
theorem D3.bel (D : D3 w0 w sa sb) : Below w0.heap.size w0 w := by obtain ⟨_, _, _, _, _, _, _, h⟩ := D; exact h
theorem D3.below (D : D3 w0 w sa sb) (hb : Below w.heap.size w w') : D3 w0 w' sa sb := by
  obtain ⟨Fa, Fb, h1, h2, h3, ⟨_, _, _, h5⟩, ⟨_, h6⟩, h7⟩ := D
  have := hb.size
  exact ⟨Fa, Fb, fun b h => ⟨(h1 b h).1, by have := (h1 b h).2; omega⟩, fun b h => ⟨(h2 b h).1, by have := (h2 b h).2; omega⟩, h3, ⟨_, _, _, h5.below hb⟩, ⟨_, h6.below hb⟩, bel2 h7 hb⟩
theorem D3.dk (D : D3 w0 w sa sb) : (∃ F v Ka kc, Dk F w sa v Ka kc) ∧ ∃ F x, Rk F w sb x := by
  obtain ⟨Fa, Fb, _, _, _, ⟨v, Ka, kc, h5⟩, ⟨x, h6⟩, _⟩ := D
  exact ⟨⟨Fa, v, Ka, kc, h5⟩, Fb, x, h6⟩
theorem D1.ref {w1 : World} {x : RX} (D : D1 w0 w1 (fun _ => False) sa) (E : Rw w1 (fun _ => False) w s' x) : D3 w0 w sa s' := by
  obtain ⟨F, hF, _, ⟨va, Kaa, kca, hd⟩, hb⟩ := D
  obtain ⟨G, hG, hg, hc⟩ := E
  have eb : Below w1.heap.size w1 w := ⟨hc.os, hc.tape, hc.output, hc.size, fun i hi => hc.block i hi (fun x => x)⟩
  have e1 := eb.size
  have e0 := hb.size
  have hG' : ∀ b, G b → w1.heap.size ≤ b := fun b hb => by rcases hG b hb with h | h; exact h.elim; exact h
  exact ⟨F, fun b => G b ∧ b < w.heap.size, fun b hb => ⟨(hF b hb).1, by have := (hF b hb).2; omega⟩, fun b hb => ⟨by have := hG' b hb.1; omega, hb.2⟩, fun b ha hb => by have := (hF b ha).2; have := hG' b hb.1; omega, ⟨_, _, _, hd.below eb⟩, ⟨_, hg.tight⟩, bel2 hb eb⟩
theorem D3.callA {K : Nat} {args : Array Value} (D : D3 w0 w sa sb) (h : ∀ F v Ka kc, Dk F w sa v Ka kc → (∀ b, F b → b < w.heap.size) → (∀ b, F b → w0.heap.size ≤ b) → Calls Try.prog K args w (OpP w F s' r)) :
    Calls Try.prog K args w fun e w' => e = .returned r ∧ D3 w0 w' s' sb := by
  obtain ⟨Fa, Fb, h1, h2, h3, ⟨v, Ka, kc, h5⟩, ⟨x, h6⟩, hb⟩ := D
  refine (h Fa v Ka kc h5 (fun b hb => (h1 b hb).2) (fun b hb => (h1 b hb).1)).mono ?_
  rintro e w' ⟨rfl, v', Ka', kc', hD⟩
  obtain ⟨F', hF', hd', hc', hl'⟩ := hD.tight
  have hs := hc'.size
  have b0 := hb.size
  have hn : ∀ b, F' b → b < w.heap.size → Fa b := fun b h hl => by
    rcases hF' b h with h | h
    · exact h
    · omega
  refine ⟨rfl, F', Fb, fun b h => ⟨?_, hl' b h⟩, fun b h => ⟨(h2 b h).1, by have := (h2 b h).2; omega⟩, fun b h hb => h3 b (hn b h (h2 b hb).2) hb, ⟨_, _, _, hd'⟩, ⟨_, h6.chg hc' (fun b hb ha => h3 b ha hb)⟩, Below.chg hb hc' b0 (fun k hk => (h1 k hk).1)⟩
  rcases hF' b h with h | h
  · exact (h1 b h).1
  · omega
theorem D3.callB {K : Nat} {args : Array Value} (D : D3 w0 w sa sb) (h : ∀ F x, Rk F w sb x → (∀ b, F b → b < w.heap.size) → (∀ b, F b → w0.heap.size ≤ b) → Calls Try.prog K args w (RpO w F s' r)) :
    Calls Try.prog K args w fun e w' => e = .returned r ∧ D3 w0 w' sa s' := by
  obtain ⟨Fa, Fb, h1, h2, h3, ⟨v, Ka, kc, h5⟩, ⟨x, h6⟩, hb⟩ := D
  refine (h Fb x h6 (fun b hb => (h2 b hb).2) (fun b hb => (h2 b hb).1)).mono ?_
  rintro e w' ⟨rfl, x', F', hF', hd', hc'⟩
  have hs := hc'.size
  have b0 := hb.size
  have hn : ∀ b, F' b → b < w.heap.size → Fb b := fun b h hl => by
    rcases hF' b h with h | h
    · exact h
    · omega
  refine ⟨rfl, Fa, fun b => F' b ∧ b < w'.heap.size, fun b h => ⟨(h1 b h).1, by have := (h1 b h).2; omega⟩, fun b h => ⟨?_, h.2⟩, fun b ha hb => h3 b ha (hn b hb.1 (h1 b ha).2), ⟨_, _, _, h5.chg hc' (fun b ha hb => h3 b ha hb)⟩, ⟨_, hd'.tight⟩, Below.chg hb hc' b0 (fun k hk => (h2 k hk).1)⟩
  rcases hF' b h.1 with h | h
  · exact (h2 b h).1
  · omega
end
set_option maxRecDepth 20000 in
set_option maxHeartbeats 16000000 in
theorem agr_rest (n : Int) (A : Option Addr) (m cc : Nat) (g : Nat → Cl) (w : World) (hg : Cs w A m g) :
    Calls Try.prog 3 #[.int .i64 n, .slice A m cc] w (LawP w) := by
  have AW := Lib.hid (fun W => awake_any W)
  by_cases hm : 60 < m
  · have hm2 : (60 : Int) < (m : Int) := by omega
    clear hg
    go_enter Try.func3, Try.ntmps3
    go_wp2_with (go_at_call 10; refine (AW.out _).mono ?_; rintro e w5 ⟨rfl, hb5⟩)
    go_ret
    exact ⟨rfl, hb5⟩
  have hN := modOf_spec n 5 (by omega) (by omega)
  have M1 := mod_any n 5 (by omega) (by omega) w
  have NW := Lib.hid (fun k W => new_any k W)
  have NR := Lib.hid (fun k W => rnew_any k W)
  generalize modOf n 5 = N0 at *
  have HG := Lib.hid hg
  have hN5 := hN.2
  clear hg hN
  go_enter Try.func3, Try.ntmps3
  go_upto_region 4 with (go_at_call 11; refine M1.mono ?_; rintro e w5 ⟨rfl, rfl⟩)
  clear M1
  obtain ⟨N, hNN⟩ : ∃ N : Nat, N = N0 + 1 := ⟨_, rfl⟩
  have j1 : (1 : Int) + (N0 : Int) = (N : Int) := by omega
  rw [j1]
  have hN6 : 1 ≤ N ∧ N ≤ 5 := by omega
  clear hN5 hNN j1
  go_wp2_with fail
  refine (NW.out _ _).mono ?_
  rintro e w1 (⟨N', L, X, hm', -, -, rfl, v, Ka, kc, D⟩ | ⟨h, -, -⟩)
  case inr => omega
  have hm3 : N' = N := by omega
  subst hm3
  clear hm' NW
  have D := Lib.hid (D1.of_dw D)
  go_wp2_with fail
  refine (NR.out _ _).mono ?_
  rintro e w2 (⟨N2, L2, X2, hm', -, -, rfl, x2, E⟩ | ⟨h, -, -⟩)
  case inr => omega
  have hm3 : N2 = N' := by omega
  subst hm3
  clear hm' NR
  have D0 : Hid (D3 w w2 (sq g N2 L X 0) (mv (sq g N2 L X 0) L2 X2)) := D.out.ref E
  clear E D
  go_wp2_with fail
  go_loopw [10] (fun vi wr => ∃ i : Nat, i ≤ m ∧ vi = .int .i64 i ∧ D3 w wr (sq g N2 L X i) (mv (sq g N2 L X i) L2 X2)) (fun i _ => m - (intOf i).toNat)
  case atStart => exact ⟨0, Nat.zero_le _, rfl, D0.out⟩
  case round =>
    clear D0
    obtain ⟨i, hi, rfl, D⟩ := hrel
    have D := Lib.hid D
    by_cases hlt : i < m
    · rcases HG.out.row with h0 | ⟨b, off, rfl, hb, hcl⟩
      · omega
      obtain ⟨u0, u1, u2, u3, u4, uB, uN⟩ := hcl i hlt
      clear hcl
      have K1 := Lib.hid (sq_keeps g N2 L X i)
      have K2 := Lib.hid (sq_keeps g N2 L X (i + 1))
      have MV := Lib.hid (mv_do (sq g N2 L X i) L2 X2 (g i) N2)
      have NX : Hid ((doS (sq g N2 L X i) (g i) N2).1 = sq g N2 L X (i + 1)) := rfl
      have HB := Lib.hid uB
      have P1 := D.out.callA (fun F v Ka kc h hlt hlo => do_any h hlt (g i) N2 (by omega) (HB.out.below D.out.bel) (fun a e h0 hf => by
        have := HB.out.lt a e h0
        have := hlo _ hf
        omega) uN (by have := K1.out.1; omega))
      have P2 := Lib.hid (fun W (E : D3 w W (sq g N2 L X (i + 1)) (mv (sq g N2 L X i) L2 X2)) => E.callB (fun F x h hlt hlo => want_any h hlt (g i) N2 (by omega) (HB.out.below E.bel) (fun a e h0 hf => by
        have := HB.out.lt a e h0
        have := hlo _ hf
        omega) uN (by show (sq g N2 L X i).C.length ≤ 1000; have := K1.out.1; omega)))
      rw [MV.out, NX.out] at P2
      rw [NX.out, K1.out.2.2] at P1
      have U := Lib.hid (fun W (hb2 : Below w.heap.size w W) => (⟨(hb2.cell (p := ⟨b, off + i * 5, none⟩) (by exact hb)).trans u0, (hb2.cell (p := ⟨b, off + i * 5 + 1, none⟩) (by exact hb)).trans u1, (hb2.cell (p := ⟨b, off + i * 5 + 2, none⟩) (by exact hb)).trans u2, (hb2.cell (p := ⟨b, off + i * 5 + 3, none⟩) (by exact hb)).trans u3, (hb2.cell (p := ⟨b, off + i * 5 + 4, none⟩) (by exact hb)).trans u4, by have := hb2.size; omega⟩ :
        W.cell? ⟨b, off + i * 5, none⟩ = some (.int .i64 (g i).k) ∧ W.cell? ⟨b, off + i * 5 + 1, none⟩ = some (.int .i64 (g i).s) ∧ W.cell? ⟨b, off + i * 5 + 2, none⟩ = some (.int .i64 (g i).d) ∧ W.cell? ⟨b, off + i * 5 + 3, none⟩ = some (.slice (g i).A (g i).n (g i).c) ∧ W.cell? ⟨b, off + i * 5 + 4, none⟩ = some (.bool (g i).raw) ∧ b < W.heap.size))
      obtain ⟨a0, a1, a2, a3, a4, a5⟩ := U.out wr D.out.bel
      clear u0 u1 u2 u3 u4 uB uN HB MV NX K1
      generalize (doS (sq g N2 L X i) (g i) N2).2.1 = r1 at *
      generalize (doS (sq g N2 L X i) (g i) N2).2.2 = r2 at *
      go_wp2_with fail
      refine P1.mono ?_
      clear P1
      rintro e w5 ⟨rfl, D5⟩
      have P2 := P2.out w5 D5
      clear a0 a1 a2 a3 a4 a5 D
      obtain ⟨a0, a1, a2, a3, a4, a5⟩ := U.out w5 D5.bel
      clear D5
      rw [show (mv (sq g N2 L X i) L2 X2).L = L2 from rfl] at P2
      go_wp2_with fail
      refine P2.mono ?_
      clear P2
      rintro e w6 ⟨rfl, D6⟩
      clear a0 a1 a2 a3 a4 a5 U
      obtain ⟨⟨Fa, va, Kaa, kca, ha⟩, Fb, xb, hb6⟩ := D6.dk
      have Pa := pend_any ha
      have Ps := size_any ha
      have Pb := rpend_any hb6
      have Pc := cont_any ha
      rw [K2.out.2.2] at Pa Ps Pc
      rw [K2.out.2.1] at Ps
      rw [show (mv (sq g N2 L X (i + 1)) L2 X2).L = L2 from rfl, show (mv (sq g N2 L X (i + 1)) L2 X2).C = (sq g N2 L X (i + 1)).C from rfl] at Pb
      have qr : (r1.toList == r1.toList) = true := by simp
      have qr2 : (r1.toList != r1.toList) = false := by simp
      have qe : (r2 != r2) = false := by simp
      have D6 := Lib.hid D6
      generalize (sq g N2 L X (i + 1)).C.length = cl at *
      clear ha hb6
      go_wp2_with (first
        | (go_at_call 16; refine Pa.mono ?_; rintro e w7 ⟨rfl, rfl⟩)
        | (go_at_call 17; refine Pb.mono ?_; rintro e w7 ⟨rfl, rfl⟩)
        | (go_at_call 18; refine Ps.mono ?_; rintro e w7 ⟨rfl, rfl⟩))
      refine Pc.mono ?_
      clear Pc Pa Pb Ps
      rintro e w7 ⟨g6, c6, rfl, hr6, hb7⟩
      have D7 := Lib.hid (D6.out.below hb7)
      obtain ⟨A6, c6', e6, S6⟩ := own_sl hr6 rfl
      injection e6 with e61 e62 e63
      subst e61 e63
      clear e62
      obtain ⟨-, Fc, xc, hc7⟩ := D7.out.dk
      have P := rcont_any hc7
      rw [show (mv (sq g N2 L X (i + 1)) L2 X2).L = L2 from rfl, show (mv (sq g N2 L X (i + 1)) L2 X2).S = (sq g N2 L X (i + 1)).S from rfl] at P
      clear hc7 hr6 hb7 D6
      go_wp2_with fail
      refine P.mono ?_
      clear P
      rintro e w8 ⟨g7, c7, rfl, hr7, hb8⟩
      obtain ⟨A7, c7', e7, S7⟩ := own_sl hr7 rfl
      injection e7 with e71 e72 e73
      subst e71 e73
      clear e72
      have P := eql_any _ _ c6 c7 _ _ w8 (S6.below hb8) S7
      rw [decide_eq_true rfl] at P
      have D8 := Lib.hid (D7.out.below hb8)
      clear S6 S7 hr7 hb8 D7
      generalize (sq g N2 L X (i + 1)).S.length = sl at *
      go_wp2_with (go_at_call 19; refine P.mono ?_; rintro e w9 ⟨rfl, hb9⟩; have D9 := Lib.hid (D8.out.below hb9); clear hb9)
      go_roundw
      case rel => exact ⟨i + 1, by omega, by go_num, D9.out⟩
      case measure => simp [intOf]; omega
    · have B7 := Lib.hid D.out.bel
      clear D
      go_wp2_with (go_at_call 10; refine (AW.out _).mono ?_; rintro e w8 ⟨rfl, hb8⟩)
      go_ret
      exact ⟨rfl, bel2 B7.out hb8⟩
theorem agr_walk (n : Int) (A : Option Addr) (m cc : Nat) (g : Nat → Cl) (w : World) (_ : (Lit.int .i64 n).wf = true) (hg : Cs w A m g) :
    Calls Try.prog 3 #[.int .i64 n, .slice A m cc] w (LawPost w) := agr_rest n A m cc g w hg
end Go.Proofs.Ytoafoikphpdimaa
