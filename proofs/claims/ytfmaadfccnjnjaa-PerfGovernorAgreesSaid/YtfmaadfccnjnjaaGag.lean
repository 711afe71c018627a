/- The walk of PerfGovernorAgrees. -/
import Derived.Test.YtfmaadfccnjnjaaNwb
namespace Go.Proofs.Ytfmaadfccnjnjaa
open Go.RowKit

theorem gok_lim {n : Nat} {s : GV} (h : GOk n s) {a b : Nat} (hab : a ≤ b) (hb : b < n) : GOk n (limS s a b) := by
  obtain ⟨h1, h2, h3, h4, h5, h6, h7⟩ := h
  exact ⟨h1, h2, h3, by show 0 < s.sp; omega, by show a ≤ min (max s.cu a) b; omega, by show min (max s.cu a) b ≤ b; omega, hb⟩
/-- Both governors, apart, in the same state. -/
structure Gv2 (B L1 L2 T1 T2 n c1 c2 : Nat) (f : Nat → St) (w0 w : World) (s : GV) : Prop where
  ra : w.rowIs L1 65 8 (gcell T1 n c1 s)
  rb : w.rowIs L2 67 8 (gcell T2 n c2 s)
  ok : GOk n s
  sa : SlS w (some ⟨T1, 0, none⟩) n f
  sb : SlS w (some ⟨T2, 0, none⟩) n f
  bel : Below B w0 w
  ne : L1 ≠ L2 ∧ T1 ≠ L1 ∧ T1 ≠ L2 ∧ T2 ≠ L1 ∧ T2 ≠ L2
  ge : B ≤ L1 ∧ B ≤ L2 ∧ B ≤ w.heap.size
theorem row_grown {w w' : World} {b t n L : Nat} {φ : Nat → Value} (h : w.rowIs b t n φ) (hg : w.grownBy w' (some L)) (hne : b ≠ L) : w'.rowIs b t n φ :=
  h.of_block (hg.block b h.lt (fun x => hne (by injection x)))
/-- A call of one and then the same call of the other, each changing its own governor to s'. -/
theorem gv2_both {B L1 L2 T1 T2 n c1 c2 : Nat} {f : Nat → St} {w0 w w1 w2 : World} {s s' : GV} (h : Gv2 B L1 L2 T1 T2 n c1 c2 f w0 w s) (hk : GOk n s')
    (r1 : w1.rowIs L1 65 8 (gcell T1 n c1 s')) (g1 : w.grownBy w1 (some L1)) (r2 : w2.rowIs L2 67 8 (gcell T2 n c2 s')) (g2 : w1.grownBy w2 (some L2)) : Gv2 B L1 L2 T1 T2 n c1 c2 f w0 w2 s' := by
  obtain ⟨n1, n2, n3, n4, n5⟩ := h.ne
  obtain ⟨e1, e2, e3⟩ := h.ge
  have z1 := g1.size
  have z2 := g2.size
  exact ⟨row_grown r1 g2 n1, r2, hk, (h.sa.grown g1 n2).grown g2 n3, (h.sb.grown g1 n4).grown g2 n5,
    (h.bel.grown g1 e3 (fun j hj => by injection hj with hj; omega)).grown g2 (by omega) (fun j hj => by injection hj with hj; omega), h.ne, ⟨e1, e2, by omega⟩⟩
theorem gv2_mid {B L1 L2 T1 T2 n c1 c2 : Nat} {f : Nat → St} {w0 w w1 : World} {s : GV} (h : Gv2 B L1 L2 T1 T2 n c1 c2 f w0 w s) (g1 : w.grownBy w1 (some L1)) :
    w1.rowIs L2 67 8 (gcell T2 n c2 s) ∧ SlS w1 (some ⟨T2, 0, none⟩) n f := ⟨row_grown h.rb g1 h.ne.1.symm, h.sb.grown g1 h.ne.2.2.2.1⟩
def Twice (F1 F2 L1 L2 : Nat) (args : Array Value) (v : Value) (P : World → Prop) (w : World) : Prop :=
  Calls Try.prog F1 (#[.pointer (some ⟨L1, 0, none⟩)] ++ args) w fun e w1 => e = .returned v ∧ Calls Try.prog F2 (#[.pointer (some ⟨L2, 0, none⟩)] ++ args) w1 fun e' w2 => e' = .returned v ∧ P w2
theorem gv2_smp {B L1 L2 T1 T2 n c1 c2 : Nat} {f : Nat → St} {w0 w : World} {s : GV} (h : Gv2 B L1 L2 T1 T2 n c1 c2 f w0 w s) (hv : ∀ i, i < n → (f i).l ≤ 1099511627776) (hm : ∀ i j, i ≤ j → j < n → (f i).l ≤ (f j).l) (x : Nat) (hx : x ≤ 100) :
    Twice 29 30 L1 L2 #[.int .i64 (x : Nat)] (.tuple #[.int .i64 ((smpS f s x).cu : Nat), .int .i64 0]) (fun w2 => Gv2 B L1 L2 T1 T2 n c1 c2 f w0 w2 (smpS f s x)) w := by
  refine (smp_good L1 T1 n c1 s f x w h.ra h.sa h.ok hx h.ne.2.1 hv).mono ?_
  rintro e w1 ⟨rfl, r1, g1⟩
  obtain ⟨m1, m2⟩ := gv2_mid h g1
  refine ⟨rfl, (rsmp_good L2 T2 n c2 s f x w1 m1 m2 h.ok hx h.ne.2.2.2.2 hv hm).mono ?_⟩
  rintro e w2 ⟨rfl, r2, g2⟩
  exact ⟨rfl, gv2_both h (gok_smp h.ok f x) r1 g1 r2 g2⟩
theorem gv2_bad {B L1 L2 T1 T2 n c1 c2 : Nat} {f : Nat → St} {w0 w : World} {s : GV} (h : Gv2 B L1 L2 T1 T2 n c1 c2 f w0 w s) (a : Int) (ha : a < 0 ∨ 100 < a) :
    Twice 29 30 L1 L2 #[.int .i64 a] (.tuple #[.int .i64 0, .int .i64 1]) (fun w2 => Gv2 B L1 L2 T1 T2 n c1 c2 f w0 w2 s) w := by
  refine (smp_bad L1 T1 n c1 s a w h.ra ha).mono ?_
  rintro e w1 ⟨rfl, r1, g1⟩
  obtain ⟨m1, m2⟩ := gv2_mid h g1
  refine ⟨rfl, (rsmp_bad L2 T2 n c2 s a w1 m1 ha).mono ?_⟩
  rintro e w2 ⟨rfl, r2, g2⟩
  exact ⟨rfl, gv2_both h h.ok r1 g1 r2 g2⟩
theorem gv2_lim {B L1 L2 T1 T2 n c1 c2 : Nat} {f : Nat → St} {w0 w : World} {s : GV} (h : Gv2 B L1 L2 T1 T2 n c1 c2 f w0 w s) (hn : n ≤ 9223372036854775807) (a b : Int) :
    ∃ x s', Twice 27 28 L1 L2 #[.int .i64 a, .int .i64 b] (.int .i64 x) (fun w2 => Gv2 B L1 L2 T1 T2 n c1 c2 f w0 w2 s') w := by
  by_cases hb : a < 0 ∨ b < a ∨ (n : Int) ≤ b
  · refine ⟨1, s, (lim_bad L1 T1 n c1 s a b w h.ra hn hb).mono ?_⟩
    rintro e w1 ⟨rfl, r1, g1⟩
    obtain ⟨m1, m2⟩ := gv2_mid h g1
    refine ⟨rfl, (rlim_bad L2 T2 n c2 s a b w1 m1 hn hb).mono ?_⟩
    rintro e w2 ⟨rfl, r2, g2⟩
    exact ⟨rfl, gv2_both h h.ok r1 g1 r2 g2⟩
  · obtain ⟨a, rfl⟩ : ∃ k : Nat, a = k := ⟨a.toNat, by omega⟩
    obtain ⟨b, rfl⟩ : ∃ k : Nat, b = k := ⟨b.toNat, by omega⟩
    refine ⟨0, limS s a b, (lim_good L1 T1 n c1 s a b w h.ra hn ⟨by omega, by omega⟩).mono ?_⟩
    rintro e w1 ⟨rfl, r1, g1⟩
    obtain ⟨m1, m2⟩ := gv2_mid h g1
    refine ⟨rfl, (rlim_good L2 T2 n c2 s a b w1 m1 hn ⟨by omega, by omega⟩).mono ?_⟩
    rintro e w2 ⟨rfl, r2, g2⟩
    exact ⟨rfl, gv2_both h (gok_lim h.ok (by omega) (by omega)) r1 g1 r2 g2⟩
theorem vld_mono {n : Nat} {f : Nat → St} (hv : vld n f = true) (i j : Nat) (hij : i ≤ j) (hj : j < n) : (f i).l ≤ (f j).l := by
  rcases Nat.lt_or_ge i j with h | h
  · have := vld_lt hv h hj; omega
  · have : i = j := by omega
    subst this; exact Int.le_refl _
end Go.Proofs.Ytfmaadfccnjnjaa
