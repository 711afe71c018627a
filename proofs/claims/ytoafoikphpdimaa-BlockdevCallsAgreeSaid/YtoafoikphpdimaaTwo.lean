/- A disk beside other blocks of a law; two disks. -/
import Derived.Test.YtoafoikphpdimaaSeq
namespace Go.Proofs.Ytoafoikphpdimaa
open Go.ChangeShapes Go.WideShapes Go.ChangeAt Go.RowKit Go.Deep Go.Joins

theorem own_keep {w w' : World} {base n t size : Nat} {v : Value} {xs : List Value} (h : w.ownsRow base t size v n xs) (hr : ∀ k, v.ownBlock = some k → w'.heap[k]? = w.heap[k]?) : w'.ownsRow base t size v n xs := by
  refine ⟨h.1, ?_⟩
  rcases h.2 with hn | ⟨g, cap, cur, rfl, hb, hg, rest⟩
  · exact .inl hn
  · exact .inr ⟨g, cap, cur, rfl, hb, (hr g rfl).trans hg, rest⟩
theorem Sl.keep {w w' : World} {A : Option Addr} {l : List ByteArray} (h : Sl w A l) (hs : w.heap.size ≤ w'.heap.size) (hk : ∀ a, A = some a → w'.heap[a.block]? = w.heap[a.block]?) : Sl w' A l := by
  refine ⟨h.len, ?_⟩
  rcases h.row with h0 | ⟨b, off, rfl, hlt, hc⟩
  · exact .inl h0
  · exact .inr ⟨b, off, rfl, Nat.lt_of_lt_of_le hlt hs, fun i hi => (show w'.cell? ⟨b, off + i, none⟩ = w.cell? ⟨b, off + i, none⟩ from World.cell?_of_block (hk ⟨b, off, none⟩ rfl)).trans (hc i hi)⟩
/-- One disk, in blocks that are new since w0; the blocks of O are not its own. -/
def D1 (w0 w : World) (O : Nat → Prop) (s : DkS) : Prop :=
  ∃ F, (∀ b, F b → w0.heap.size ≤ b ∧ b < w.heap.size) ∧ (∀ b, O b → b < w.heap.size ∧ ¬ F b) ∧ (∃ v Ka kc, Dk F w s v Ka kc) ∧ Below w0.heap.size w0 w
/-- Two disks, apart. -/
def D2 (w0 w : World) (O : Nat → Prop) (sa sb : DkS) : Prop :=
  ∃ Fa Fb, (∀ b, Fa b → w0.heap.size ≤ b ∧ b < w.heap.size) ∧ (∀ b, Fb b → w0.heap.size ≤ b ∧ b < w.heap.size) ∧ (∀ b, Fa b → ¬ Fb b) ∧ (∀ b, O b → b < w.heap.size ∧ ¬ Fa b ∧ ¬ Fb b) ∧
    (∃ v Ka kc, Dk Fa w sa v Ka kc) ∧ (∃ v Ka kc, Dk Fb w sb v Ka kc) ∧ Below w0.heap.size w0 w
section
variable {w0 w w' : World} {O : Nat → Prop} {s sa sb s' : DkS} {r : Value}
theorem D1.bel (D : D1 w0 w O s) : Below w0.heap.size w0 w := by obtain ⟨_, _, _, _, h⟩ := D; exact h
theorem D2.bel (D : D2 w0 w O sa sb) : Below w0.heap.size w0 w := by obtain ⟨_, _, _, _, _, _, _, _, h⟩ := D; exact h
theorem D2.swap (D : D2 w0 w O sa sb) : D2 w0 w O sb sa := by
  obtain ⟨Fa, Fb, h1, h2, h3, h4, h5, h6, h7⟩ := D
  exact ⟨Fb, Fa, h2, h1, fun b hb ha => h3 b ha hb, fun b hb => ⟨(h4 b hb).1, (h4 b hb).2.2, (h4 b hb).2.1⟩, h6, h5, h7⟩
theorem D2.one (D : D2 w0 w O sa sb) : D1 w0 w O sa := by
  obtain ⟨Fa, Fb, h1, h2, h3, h4, h5, h6, h7⟩ := D
  exact ⟨Fa, h1, fun b hb => ⟨(h4 b hb).1, (h4 b hb).2.1⟩, h5, h7⟩
theorem D1.of_dw {v : Value} {Ka : Option Addr} {kc : Nat} (D : Dw w0 (fun _ => False) w s v Ka kc) : D1 w0 w (fun _ => False) s := by
  obtain ⟨F, hF, hd, hc, hl⟩ := D.tight
  exact ⟨F, fun b hb => ⟨by rcases hF b hb with h | h; exact h.elim; exact h, hl b hb⟩, fun b hb => hb.elim, ⟨v, Ka, kc, hd⟩, D.bel⟩
/-- A second disk beside the first. -/
theorem D1.pair {w1 : World} {v : Value} {Ka : Option Addr} {kc : Nat} (D : D1 w0 w1 O sa) (E : Dw w1 (fun _ => False) w s v Ka kc) : D2 w0 w O sa s := by
  obtain ⟨F, hF, hO, ⟨va, Kaa, kca, hd⟩, hb⟩ := D
  obtain ⟨G, hG, hg, hc, hl⟩ := E.tight
  have eb := E.bel
  have e1 := eb.size
  have e0 := hb.size
  have hG' : ∀ b, G b → w1.heap.size ≤ b := fun b hb => by rcases hG b hb with h | h; exact h.elim; exact h
  exact ⟨F, G, fun b hb => ⟨(hF b hb).1, by have := (hF b hb).2; omega⟩, fun b hb => ⟨by have := hG' b hb; omega, hl b hb⟩, fun b ha hb => by have := (hF b ha).2; have := hG' b hb; omega,
    fun b ho => ⟨by have := (hO b ho).1; omega, (hO b ho).2, fun hb => by have := (hO b ho).1; have := hG' b hb; omega⟩, ⟨_, _, _, hd.below eb⟩, ⟨_, _, _, hg⟩, bel2 hb eb⟩
theorem D1.below (D : D1 w0 w O s) (hb : Below w.heap.size w w') : D1 w0 w' O s := by
  obtain ⟨F, hF, hO, ⟨v, Ka, kc, hd⟩, h⟩ := D
  have := hb.size
  exact ⟨F, fun b h => ⟨(hF b h).1, by have := (hF b h).2; omega⟩, fun b h => ⟨by have := (hO b h).1; omega, (hO b h).2⟩, ⟨_, _, _, hd.below hb⟩, bel2 h hb⟩
theorem D2.below (D : D2 w0 w O sa sb) (hb : Below w.heap.size w w') : D2 w0 w' O sa sb := by
  obtain ⟨Fa, Fb, h1, h2, h3, h4, ⟨_, _, _, h5⟩, ⟨_, _, _, h6⟩, h7⟩ := D
  have := hb.size
  exact ⟨Fa, Fb, fun b h => ⟨(h1 b h).1, by have := (h1 b h).2; omega⟩, fun b h => ⟨(h2 b h).1, by have := (h2 b h).2; omega⟩, h3, fun b h => ⟨by have := (h4 b h).1; omega, (h4 b h).2⟩, ⟨_, _, _, h5.below hb⟩, ⟨_, _, _, h6.below hb⟩, bel2 h7 hb⟩
/-- Newer blocks join O. -/
theorem D1.more (D : D1 w0 w O s) (hb : Below w.heap.size w w') {O' : Nat → Prop} (h : ∀ b, O' b → O b ∨ w.heap.size ≤ b ∧ b < w'.heap.size) : D1 w0 w' O' s := by
  obtain ⟨F, hF, hO, ⟨v, Ka, kc, hd⟩, h0⟩ := D
  have := hb.size
  refine ⟨F, fun b h => ⟨(hF b h).1, by have := (hF b h).2; omega⟩, fun b ho => ?_, ⟨_, _, _, hd.below hb⟩, bel2 h0 hb⟩
  rcases h b ho with h | h
  · exact ⟨by have := (hO b h).1; omega, (hO b h).2⟩
  · exact ⟨h.2, fun hf => by have := (hF b hf).2; omega⟩
theorem D2.more (D : D2 w0 w O sa sb) (hb : Below w.heap.size w w') {O' : Nat → Prop} (h : ∀ b, O' b → O b ∨ w.heap.size ≤ b ∧ b < w'.heap.size) : D2 w0 w' O' sa sb := by
  obtain ⟨Fa, Fb, h1, h2, h3, h4, ⟨_, _, _, h5⟩, ⟨_, _, _, h6⟩, h7⟩ := D
  have := hb.size
  refine ⟨Fa, Fb, fun b h => ⟨(h1 b h).1, by have := (h1 b h).2; omega⟩, fun b h => ⟨(h2 b h).1, by have := (h2 b h).2; omega⟩, h3, fun b ho => ?_, ⟨_, _, _, h5.below hb⟩, ⟨_, _, _, h6.below hb⟩, bel2 h7 hb⟩
  rcases h b ho with h | h
  · exact ⟨by have := (h4 b h).1; omega, (h4 b h).2⟩
  · exact ⟨h.2, fun hf => by have := (h1 b hf).2; omega, fun hf => by have := (h2 b hf).2; omega⟩
/-- A block of O, new since w0, is written. -/
theorem D1.setO (D : D1 w0 w O s) {G : Nat} (hG : O G) (h0 : w0.heap.size ≤ G) (j : Nat) (u : Value) : D1 w0 (w.setCell ⟨G, j, none⟩ u) O s := by
  obtain ⟨F, hF, hO, ⟨v, Ka, kc, hd⟩, hb⟩ := D
  have hc := Chg.set w G j u
  have hs := hc.size
  exact ⟨F, fun b h => ⟨(hF b h).1, by have := (hF b h).2; omega⟩, fun b h => ⟨by have := (hO b h).1; omega, (hO b h).2⟩, ⟨_, _, _, hd.chg hc (fun b hb e => (hO G hG).2 (by rw [← e]; exact hb))⟩, Below.chg hb hc hb.size (fun k e => by rw [e]; exact h0)⟩
theorem D2.setO (D : D2 w0 w O sa sb) {G : Nat} (hG : O G) (h0 : w0.heap.size ≤ G) (j : Nat) (u : Value) : D2 w0 (w.setCell ⟨G, j, none⟩ u) O sa sb := by
  obtain ⟨Fa, Fb, h1, h2, h3, h4, ⟨_, _, _, h5⟩, ⟨_, _, _, h6⟩, h7⟩ := D
  have hc := Chg.set w G j u
  have hs := hc.size
  exact ⟨Fa, Fb, fun b h => ⟨(h1 b h).1, by have := (h1 b h).2; omega⟩, fun b h => ⟨(h2 b h).1, by have := (h2 b h).2; omega⟩, h3, fun b h => ⟨by have := (h4 b h).1; omega, (h4 b h).2⟩, ⟨_, _, _, h5.chg hc (fun b hb e => (h4 G hG).2.1 (by rw [← e]; exact hb))⟩, ⟨_, _, _, h6.chg hc (fun b hb e => (h4 G hG).2.2 (by rw [← e]; exact hb))⟩, Below.chg h7 hc h7.size (fun k e => by rw [e]; exact h0)⟩
def P1 (w0 w : World) (O : Nat → Prop) (s' : DkS) (r : Value) (e : Ending) (w' : World) : Prop := e = .returned r ∧ D1 w0 w' O s' ∧ w.heap.size ≤ w'.heap.size ∧ ∀ b, O b → w'.heap[b]? = w.heap[b]?
def P2 (w0 w : World) (O : Nat → Prop) (sa sb : DkS) (r : Value) (e : Ending) (w' : World) : Prop := e = .returned r ∧ D2 w0 w' O sa sb ∧ w.heap.size ≤ w'.heap.size ∧ ∀ b, O b → w'.heap[b]? = w.heap[b]?
theorem D1.call {K : Nat} {args : Array Value} (D : D1 w0 w O s) (h : ∀ F v Ka kc, Dk F w s v Ka kc → (∀ b, F b → w0.heap.size ≤ b) → (∀ b, O b → ¬ F b) → Calls Try.prog K args w (OpP w F s' r)) : Calls Try.prog K args w (P1 w0 w O s' r) := by
  obtain ⟨F, hF, hO, ⟨v, Ka, kc, hd⟩, hb⟩ := D
  refine (h F v Ka kc hd (fun b hb => (hF b hb).1) (fun b hb => (hO b hb).2)).mono ?_
  rintro e w' ⟨rfl, v', Ka', kc', hD⟩
  obtain ⟨F', hF', hd', hc', hl'⟩ := hD.tight
  have hs := hc'.size
  have b0 := hb.size
  refine ⟨rfl, ⟨F', fun b h => ⟨?_, hl' b h⟩, fun b h => ⟨by have := (hO b h).1; omega, fun hf => ?_⟩, ⟨_, _, _, hd'⟩, Below.chg hb hc' b0 (fun k hk => (hF k hk).1)⟩, hs, fun b ho => hc'.block b (hO b ho).1 (hO b ho).2⟩
  · rcases hF' b h with h | h
    · exact (hF b h).1
    · omega
  · rcases hF' b hf with hf | hf
    · exact (hO b h).2 hf
    · have := (hO b h).1; omega
theorem D2.callA {K : Nat} {args : Array Value} (D : D2 w0 w O sa sb) (h : ∀ F v Ka kc, Dk F w sa v Ka kc → (∀ b, F b → w0.heap.size ≤ b) → (∀ b, O b → ¬ F b) → Calls Try.prog K args w (OpP w F s' r)) : Calls Try.prog K args w (P2 w0 w O s' sb r) := by
  obtain ⟨Fa, Fb, h1, h2, h3, h4, ⟨v, Ka, kc, h5⟩, ⟨_, _, _, h6⟩, hb⟩ := D
  refine (h Fa v Ka kc h5 (fun b hb => (h1 b hb).1) (fun b hb => (h4 b hb).2.1)).mono ?_
  rintro e w' ⟨rfl, v', Ka', kc', hD⟩
  obtain ⟨F', hF', hd', hc', hl'⟩ := hD.tight
  have hs := hc'.size
  have b0 := hb.size
  have hn : ∀ b, F' b → b < w.heap.size → Fa b := fun b h hl => by
    rcases hF' b h with h | h
    · exact h
    · omega
  refine ⟨rfl, ⟨F', Fb, fun b h => ⟨?_, hl' b h⟩, fun b h => ⟨(h2 b h).1, by have := (h2 b h).2; omega⟩, fun b h hb => h3 b (hn b h (h2 b hb).2) hb, fun b h => ⟨by have := (h4 b h).1; omega, fun hf => (h4 b h).2.1 (hn b hf (h4 b h).1), (h4 b h).2.2⟩, ⟨_, _, _, hd'⟩,
    ⟨_, _, _, h6.chg hc' (fun b hb ha => h3 b ha hb)⟩, Below.chg hb hc' b0 (fun k hk => (h1 k hk).1)⟩, hs, fun b ho => hc'.block b (h4 b ho).1 (h4 b ho).2.1⟩
  rcases hF' b h with h | h
  · exact (h1 b h).1
  · omega
theorem D2.callB {K : Nat} {args : Array Value} (D : D2 w0 w O sa sb) (h : ∀ F v Ka kc, Dk F w sb v Ka kc → (∀ b, F b → w0.heap.size ≤ b) → (∀ b, O b → ¬ F b) → Calls Try.prog K args w (OpP w F s' r)) : Calls Try.prog K args w (P2 w0 w O sa s' r) :=
  (D.swap.callA h).mono fun _ _ hp => ⟨hp.1, hp.2.1.swap, hp.2.2⟩
theorem D1.dk (D : D1 w0 w O s) : ∃ F v Ka kc, Dk F w s v Ka kc := by
  obtain ⟨F, _, _, ⟨v, Ka, kc, h⟩, _⟩ := D
  exact ⟨F, v, Ka, kc, h⟩
end
end Go.Proofs.Ytoafoikphpdimaa
