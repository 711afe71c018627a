/- Two sequences in the course of a law. -/
import Derived.Test.YtcmklipifhpgmaaRun
namespace Go.Proofs.Ytcmklipifhpgmaa
open Go.ChangeShapes Go.WideShapes Go.ChangeAt Go.RowKit Go.Deep Go.Joins

structure D2 (w0 w : World) (La Ma : Nat) (OA : Option Addr) (Lb Mb : Nat) (OB : Option Addr) (s t : SQ) : Prop where
  a : Sq (fun x => x = Lb ∨ x = Mb) w s
  b : Sq (fun x => x = La ∨ x = Ma) w t
  bel : Below w0.heap.size w0 w
  ea : s.L = La ∧ s.M = Ma ∧ s.OA = OA
  eb : t.L = Lb ∧ t.M = Mb ∧ t.OA = OB
  lo : w0.heap.size ≤ La ∧ w0.heap.size ≤ Ma ∧ w0.heap.size ≤ Lb ∧ w0.heap.size ≤ Mb
  ap : La ≠ Lb ∧ La ≠ Mb ∧ Ma ≠ Lb ∧ Ma ≠ Mb
  oa : ∀ x, OA = some x → x.block ≠ Lb ∧ x.block ≠ Mb
  ob : ∀ x, OB = some x → x.block ≠ La ∧ x.block ≠ Ma
section
variable {w0 w w' : World} {La Ma Lb Mb : Nat} {OA OB : Option Addr} {s t s' t' : SQ} {r : Int} {e : Ending}
theorem Sq.blk {Z : Nat → Prop} (h : Sq Z w s) : s.L < w.heap.size ∧ s.M < w.heap.size ∧ ∀ a, s.OA = some a → a.block < w.heap.size := by
  obtain ⟨_, _, h1, -⟩ := h.ex
  exact ⟨h1.lL, h1.mp.lt, fun a e => (h1.oL a e).2⟩
theorem D2.below (h : D2 w0 w La Ma OA Lb Mb OB s t) (hb : Below w.heap.size w w') : D2 w0 w' La Ma OA Lb Mb OB s t := ⟨h.a.below hb, h.b.below hb, bel2 h.bel hb, h.ea, h.eb, h.lo, h.ap, h.oa, h.ob⟩
theorem D2.meA (h : D2 w0 w La Ma OA Lb Mb OB s t) (hm : MeP (fun x => x = Lb ∨ x = Mb) w s s' r e w') (e1 : s'.L = s.L) (e2 : s'.M = s.M) (e3 : s'.OA = s.OA) : e = .returned (.int .i64 r) ∧ D2 w0 w' La Ma OA Lb Mb OB s' t := by
  obtain ⟨l1, l2, l3, l4⟩ := h.lo
  obtain ⟨a1, a2, a3, a4⟩ := h.ap
  have hsz := h.bel.size
  obtain ⟨b1, b2, b3⟩ := h.b.blk
  obtain ⟨hr, hs, hc⟩ := hm
  rw [h.ea.1, h.ea.2.1] at hc
  refine ⟨hr, hs, h.b.chg hc (by rw [h.eb.1] at b1 ⊢; omega) (by rw [h.eb.2.1] at b2 ⊢; omega) (fun x ex => ?_) (fun x hx hT => by rcases hT with hT | hT | hT; exact .inl hT; exact .inr hT; omega), Below.chg h.bel hc h.bel.size (fun x hx => by omega), ⟨e1.trans h.ea.1, e2.trans h.ea.2.1, e3.trans h.ea.2.2⟩, h.eb, h.lo, h.ap, h.oa, h.ob⟩
  have h1 := b3 x ex
  have h2 := h.ob x (h.eb.2.2 ▸ ex)
  omega
theorem D2.meB (h : D2 w0 w La Ma OA Lb Mb OB s t) (hm : MeP (fun x => x = La ∨ x = Ma) w t t' r e w') (e1 : t'.L = t.L) (e2 : t'.M = t.M) (e3 : t'.OA = t.OA) : e = .returned (.int .i64 r) ∧ D2 w0 w' La Ma OA Lb Mb OB s t' := by
  obtain ⟨l1, l2, l3, l4⟩ := h.lo
  obtain ⟨a1, a2, a3, a4⟩ := h.ap
  have hsz := h.bel.size
  obtain ⟨b1, b2, b3⟩ := h.a.blk
  obtain ⟨hr, hs, hc⟩ := hm
  rw [h.eb.1, h.eb.2.1] at hc
  refine ⟨hr, h.a.chg hc (by rw [h.ea.1] at b1 ⊢; omega) (by rw [h.ea.2.1] at b2 ⊢; omega) (fun x ex => ?_) (fun x hx hT => by rcases hT with hT | hT | hT; exact .inl hT; exact .inr hT; omega), hs, Below.chg h.bel hc h.bel.size (fun x hx => by omega), h.ea, ⟨e1.trans h.eb.1, e2.trans h.eb.2.1, e3.trans h.eb.2.2⟩, h.lo, h.ap, h.oa, h.ob⟩
  have h1 := b3 x ex
  have h2 := h.oa x (h.ea.2.2 ▸ ex)
  omega
theorem D2.cplA {k : Nat} (h : D2 w0 w La Ma OA Lb Mb OB s t) (hi : Iv s k) (hk : k ≤ 10000) (r : Int) : Calls Try.prog 18 #[.pointer (some ⟨La, 0, none⟩), .int .i64 r] w fun e w' => e = .returned (.int .i64 (cplS s r).2) ∧ D2 w0 w' La Ma OA Lb Mb OB (cplS s r).1 t := by
  have := cpl_any h.a hi.dv hi.ok (by have := hi.ns; omega) r
  rw [h.ea.1] at this
  have hl := cpl_L s r
  exact this.mono fun e w' hm => h.meA hm hl.1 hl.2.1 hl.2.2.2.2
theorem D2.cplB {k : Nat} (h : D2 w0 w La Ma OA Lb Mb OB s t) (hi : Iv t k) (hk : k ≤ 10000) (r : Int) : Calls Try.prog 18 #[.pointer (some ⟨Lb, 0, none⟩), .int .i64 r] w fun e w' => e = .returned (.int .i64 (cplS t r).2) ∧ D2 w0 w' La Ma OA Lb Mb OB s (cplS t r).1 := by
  have := cpl_any h.b hi.dv hi.ok (by have := hi.ns; omega) r
  rw [h.eb.1] at this
  have hl := cpl_L t r
  exact this.mono fun e w' hm => h.meB hm hl.1 hl.2.1 hl.2.2.2.2
theorem abo_L (s : SQ) : (aboS s).1.L = s.L ∧ (aboS s).1.M = s.M ∧ (aboS s).1.OA = s.OA := by
  unfold aboS
  split <;> exact ⟨rfl, rfl, rfl⟩
theorem D2.aboB {k : Nat} (h : D2 w0 w La Ma OA Lb Mb OB s t) (hi : Iv t k) : Calls Try.prog 20 #[.pointer (some ⟨Lb, 0, none⟩)] w fun e w' => e = .returned (.int .i64 (aboS t).2) ∧ D2 w0 w' La Ma OA Lb Mb OB s (aboS t).1 := by
  have := abo_any h.b hi.dv
  rw [h.eb.1] at this
  have hl := abo_L t
  exact this.mono fun e w' hm => h.meB hm hl.1 hl.2.1 hl.2.2
theorem D2.nxtA (h : D2 w0 w La Ma OA Lb Mb OB s t) : Calls Try.prog 24 #[.pointer (some ⟨La, 0, none⟩)] w (NxP w s) := by
  have := nxt_any h.a
  rw [h.ea.1] at this
  exact this
theorem D2.nxtB (h : D2 w0 w La Ma OA Lb Mb OB s t) : Calls Try.prog 24 #[.pointer (some ⟨Lb, 0, none⟩)] w (NxP w t) := by
  have := nxt_any h.b
  rw [h.eb.1] at this
  exact this
theorem D2.resA (h : D2 w0 w La Ma OA Lb Mb OB s t) : Calls Try.prog 26 #[.pointer (some ⟨La, 0, none⟩)] w fun e w' => e = .returned (resT s) ∧ w' = w := by
  have := res_any h.a
  rw [h.ea.1] at this
  exact this
theorem D2.resB (h : D2 w0 w La Ma OA Lb Mb OB s t) : Calls Try.prog 26 #[.pointer (some ⟨Lb, 0, none⟩)] w fun e w' => e = .returned (resT t) ∧ w' = w := by
  have := res_any h.b
  rw [h.eb.1] at this
  exact this
end
/-- The second of two sequences is made. -/
theorem D2.mk2 {w0 w1 w2 : World} {La Ma Lb Mb : Nat} {OA OB : Option Addr} {s t : SQ} (h : Sq (fun _ => False) w1 s) (hb : Below w0.heap.size w0 w1) (ea : s.L = La ∧ s.M = Ma ∧ s.OA = OA) (l : w0.heap.size ≤ La ∧ w0.heap.size ≤ Ma)
    (ht : Sq (fun x => x = La ∨ x = Ma) w2 t) (hb2 : Below w1.heap.size w1 w2) (eb : t.L = Lb ∧ t.M = Mb ∧ t.OA = OB) (l2 : w1.heap.size ≤ Lb ∧ w1.heap.size ≤ Mb) (lo : ∀ a, OB = some a → w1.heap.size ≤ a.block) : D2 w0 w2 La Ma OA Lb Mb OB s t := by
  obtain ⟨b1, b2, b3⟩ := h.blk
  obtain ⟨c1, c2, c3⟩ := ht.blk
  have hsz := hb.size
  rw [ea.1] at b1
  rw [ea.2.1] at b2
  rw [eb.1] at c1
  rw [eb.2.1] at c2
  exact ⟨h.re (Chg.of_below hb2 (fun _ => False)) (fun x => x) (fun x => x) (fun _ _ x => x) (fun _ _ x => x.elim) (fun b hb => ⟨.inr (by omega), by omega⟩), ht, bel2 hb hb2, ea, eb, ⟨l.1, l.2, by omega, by omega⟩, ⟨by omega, by omega, by omega, by omega⟩, fun x ex => by have := b3 x (ea.2.2.trans ex); omega, fun x ex => by have := lo x ex; omega⟩
/-- Two sequences that stand alike. -/
structure Sm (s t : SQ) : Prop where
  p : s.p = t.p
  S : s.S = t.S
  st : s.st = t.st
  n : s.n = t.n
  o : s.o = t.o
theorem Sm.cpl {s t : SQ} (h : Sm s t) (h0 : s.st = 0) (hp : s.p ≠ []) : Sm (cplS s 0).1 (cplS t 0).1 := by
  obtain ⟨x, q, hq⟩ : ∃ x q, s.p = x :: q := by
    cases e : s.p with
    | nil => exact absurd e hp
    | cons x q => exact ⟨x, q, rfl⟩
  have h1 : t.st = 0 := h.st.symm.trans h0
  have hq2 : t.p = x :: q := h.p.symm.trans hq
  unfold cplS
  rw [hq, hq2]
  simp only [h0, h1, if_true]
  exact ⟨rfl, by show addS s.S x = addS t.S x; rw [h.S], rfl, h.n, h.o⟩
theorem Sm.und {s t : SQ} (h : Sm s t) (a b : Int) : Sm (undS s a) (undS t b) := by
  have hk : bk s = bk t := by unfold bk; rw [h.S, h.n, h.o]
  exact ⟨hk, h.S, by show stl 2 (bk s).length = stl 2 (bk t).length; rw [hk], h.n, h.o⟩
/-- Two sequences that are being undone, i operations done. -/
structure J3 (s t : SQ) (n i : Nat) (a b : Int) : Prop where
  p : s.p = t.p
  st : s.st = stl 2 s.p.length
  st2 : t.st = stl 2 t.p.length
  r : s.r = a
  r2 : t.r = b
  ln : i + s.p.length ≤ 4 * n
  iv : ∃ k, Iv s k ∧ k ≤ 1000
  iv2 : ∃ k, Iv t k ∧ k ≤ 1000
theorem J3.step {s t : SQ} {n i : Nat} {a b : Int} (h : J3 s t n i a b) (ha : a ≠ 0) (hb : b ≠ 0) (hn : n ≤ 7) (hs7 : s.n = n) (ht7 : t.n = n) (hp : s.p ≠ []) : (cplS s 0).2 = 0 ∧ (cplS t 0).2 = 0 ∧ J3 (cplS s 0).1 (cplS t 0).1 n (i + 1) a b := by
  obtain ⟨x, q, hq⟩ : ∃ x q, s.p = x :: q := by
    cases e : s.p with
    | nil => exact absurd e hp
    | cons x q => exact ⟨x, q, rfl⟩
  have hq2 : t.p = x :: q := h.p.symm.trans hq
  have h1 : s.st = 2 := by rw [h.st, hq]; simp [stl]
  have h2 : t.st = 2 := by rw [h.st2, hq2]; simp [stl]
  obtain ⟨k, hk, hk2⟩ := h.iv
  obtain ⟨l, hl, hl2⟩ := h.iv2
  have i1 := hk.cpl 0 hp
  have i2 := hl.cpl 0 (by rw [hq2]; exact List.cons_ne_nil _ _)
  have p1 := i1.pt
  have p2 := i2.pt
  rw [(cpl_L s 0).2.2.1, hs7] at p1
  rw [(cpl_L t 0).2.2.1, ht7] at p2
  have e1 : cplS s 0 = ({ s with st := stl 2 q.length, p := q, r := a }, 0) := by
    unfold cplS
    rw [hq]
    simp only
    rw [if_neg (by rw [h1]; decide), h1, if_neg (by rw [h.r]; exact ha), h.r]
  have e2 : cplS t 0 = ({ t with st := stl 2 q.length, p := q, r := b }, 0) := by
    unfold cplS
    rw [hq2]
    simp only
    rw [if_neg (by rw [h2]; decide), h2, if_neg (by rw [h.r2]; exact hb), h.r2]
  have hln := h.ln
  rw [hq] at hln
  simp only [List.length_cons] at hln
  rw [e1, e2]
  rw [e1] at i1
  rw [e2] at i2
  exact ⟨rfl, rfl, rfl, rfl, rfl, rfl, rfl, by show i + 1 + q.length ≤ 4 * n; omega, ⟨k + 1, i1, by omega⟩, ⟨l + 1, i2, by omega⟩⟩
end Go.Proofs.Ytcmklipifhpgmaa
