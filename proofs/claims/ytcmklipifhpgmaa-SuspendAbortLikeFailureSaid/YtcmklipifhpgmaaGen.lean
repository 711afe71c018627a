/- General words of this seat's texts: worlds that grow, rows, slices of numbers, the post of a law. -/
import Derived.Test.YtcmklipifhpgmaaRows
import Derived.WalkKit
import Derived.WalkSpells
import Derived.WalkLawsBesides
import Derived.WalkSmall
import Derived.Lib.Hide
import Derived.Deep.QuietTactic
import Derived.BigQuiet
import Derived.ProofKit
import Derived.OpenShut
import Derived.ShutString
import Derived.ChangeOld
import Derived.Below
import Derived.Deep.Slices
import Derived.Deep.Fields
import Derived.ChangeSame
import Derived.Lib.SmallJoins
import Derived.Deep.OwnRows
import Derived.OwnWalk
import Derived.Outline
import Derived.StillTailTactics
import Derived.Deep.RegionWith
import Derived.Deep.RegionHeld3
import Derived.Deep.DrawnRows
import Derived.Deep.DeepCutAuto
import Derived.Laws.Rows
import Derived.IntWalk
namespace Go.Proofs.Ytcmklipifhpgmaa
open Go.ChangeShapes Go.WideShapes Go.ChangeAt Go.RowKit Go.Deep Go.Joins

def U64 (x : Int) : Prop := 0 ≤ x ∧ x < 18446744073709551616
theorem u64_of_wf {n : Int} (h : (Lit.int .u64 n).wf = true) : U64 n := by
  unfold U64
  have := bounds_u64 h
  omega
theorem cell_lt {w : World} {a : Addr} {v : Value} (h : w.cell? a = some v) : a.block < w.heap.size := by
  rcases Nat.lt_or_ge a.block w.heap.size with h1 | h1
  · exact h1
  · unfold World.cell? at h
    rw [Array.getElem?_eq_none h1] at h
    cases h
def LawPost (w : World) (e : Ending) (w' : World) : Prop := e = .returned (.bool true) ∧ Below w.heap.size w w'
theorem bel2 {w a b : World} (h : Below w.heap.size w a) (k : Below a.heap.size a b) : Below w.heap.size w b := h.trans (k.mono h.size)
theorem bal {w a : World} (h : Below w.heap.size w a) (o : Obj) : Below w.heap.size w (a.alloc o) := h.alloc h.size o
theorem bel_only {w a b : World} {g : Nat} (h : Below w.heap.size w a) (k : a.grownBy b (some g)) (hg : w.heap.size ≤ g) : Below w.heap.size w b :=
  h.grown k h.size (fun j hj => by injection hj with hj; omega)
theorem row_below {w w' : World} {b t n B : Nat} {φ : Nat → Value} (h : w.rowIs b t n φ) (hb : Below B w w') (hB : w.heap.size ≤ B) : w'.rowIs b t n φ :=
  h.of_block (hb.block b (Nat.lt_of_lt_of_le h.lt hB))
/-- help.Mod at a positive modulus. -/
def modOf (v : Int) (n : Nat) : Nat := (wrap64 ((IntKind.u64.wrap v).tmod n)).toNat
theorem modOf_spec (v : Int) (n : Nat) (hn : 1 ≤ n) (hn2 : n ≤ 1000000) : wrap64 ((IntKind.u64.wrap v).tmod n) = (modOf v n : Nat) ∧ modOf v n < n := by
  have h0 : 0 ≤ IntKind.u64.wrap v := by rw [IntKind.wrap_u64]; omega
  have h1 : (IntKind.u64.wrap v).tmod n = (IntKind.u64.wrap v) % n := Int.tmod_eq_emod_of_nonneg h0
  have h2 : 0 ≤ (IntKind.u64.wrap v) % n := Int.emod_nonneg _ (by omega)
  have h3 : (IntKind.u64.wrap v) % n < n := Int.emod_lt_of_pos _ (by omega)
  have h4 : wrap64 ((IntKind.u64.wrap v).tmod n) = (IntKind.u64.wrap v) % n := by rw [h1]; exact IntWalk.wrap64_in _ (by omega)
  unfold modOf
  rw [h4]
  omega
theorem g_store (w : World) (L j : Nat) (v : Value) : w.grownBy (w.setCell ⟨L, j, none⟩ v) (some L) :=
  ⟨rfl, rfl, rfl, by simp, fun k _ hk => heap_setCell_other w ⟨L, j, none⟩ k v (fun e => hk (by simp [e]))⟩
theorem g_then {a b c : World} {L : Nat} (h : a.grownBy b (some L)) (k : b.grownBy c (some L)) : a.grownBy c (some L) :=
  ⟨k.os.trans h.os, k.tape.trans h.tape, k.output.trans h.output, Nat.le_trans h.size k.size, fun i hi hne => (k.block i (Nat.lt_of_lt_of_le hi h.size) hne).trans (h.block i hi hne)⟩
theorem g_of_below {b c : World} (k : Below b.heap.size b c) (r : Option Nat) : b.grownBy c r := ⟨k.os, k.tape, k.output, k.size, fun i hi _ => k.block i hi⟩
theorem g_below {a b c : World} {L : Nat} (h : a.grownBy b (some L)) (k : Below b.heap.size b c) : a.grownBy c (some L) := g_then h (g_of_below k _)
theorem g_drew {a b : World} {L : Nat} (h : a.grownBy b (some L)) : a.grownBy b.drew (some L) := ⟨h.os, h.tape, h.output, h.size, h.block⟩
theorem g_drewN {a b : World} {L : Nat} (h : a.grownBy b (some L)) (k : Nat) : a.grownBy (b.drewN k) (some L) := ⟨h.os, h.tape, h.output, h.size, h.block⟩
theorem g_cell {w w' : World} {L : Nat} {p : Nat} (h : w.grownBy w' (some L)) (hp : p < w.heap.size) (hne : p ≠ L) (o : Nat) : w'.cell? ⟨p, o, none⟩ = w.cell? ⟨p, o, none⟩ :=
  World.cell?_of_block (h.block p hp (fun x => hne (by injection x)))
theorem blk_lt {w : World} {k : Nat} {o : Obj} (h : w.heap[k]? = some o) : k < w.heap.size := (Array.getElem?_eq_some_iff.1 h).1
theorem g_blk {w w' : World} {L : Nat} {p : Nat} {o : Obj} (h : w.grownBy w' (some L)) (hp : w.heap[p]? = some o) (hne : p ≠ L) : w'.heap[p]? = some o :=
  (h.block p (blk_lt hp) (fun x => hne (by injection x))).trans hp
theorem b_blk {w w' : World} {p : Nat} {o : Obj} (h : Below w.heap.size w w') (hp : w.heap[p]? = some o) : w'.heap[p]? = some o := (h.block p (blk_lt hp)).trans hp
/-- Nothing has changed but in the blocks of S and in new ones. -/
structure Chg (S : Nat → Prop) (w w' : World) : Prop where
  os : w'.os = w.os
  tape : w'.tape = w.tape
  output : w'.output = w.output
  size : w.heap.size ≤ w'.heap.size
  block : ∀ k, k < w.heap.size → ¬ S k → w'.heap[k]? = w.heap[k]?
theorem Chg.refl (S : Nat → Prop) (w : World) : Chg S w w := ⟨rfl, rfl, rfl, Nat.le_refl _, fun _ _ _ => rfl⟩
theorem Chg.trans2 {S T : Nat → Prop} {a b c : World} (h : Chg S a b) (k : Chg T b c) (hs : ∀ i, i < a.heap.size → T i → S i) : Chg S a c :=
  ⟨k.os.trans h.os, k.tape.trans h.tape, k.output.trans h.output, Nat.le_trans h.size k.size, fun i hi hn => (k.block i (Nat.lt_of_lt_of_le hi h.size) (fun x => hn (hs i hi x))).trans (h.block i hi hn)⟩
theorem Chg.trans {S : Nat → Prop} {a b c : World} (h : Chg S a b) (k : Chg S b c) : Chg S a c := h.trans2 k (fun _ _ x => x)
theorem Chg.mono {S T : Nat → Prop} {a b : World} (h : Chg S a b) (hs : ∀ k, k < a.heap.size → S k → T k) : Chg T a b :=
  ⟨h.os, h.tape, h.output, h.size, fun i hi hn => h.block i hi (fun x => hn (hs i hi x))⟩
theorem Chg.of_grown {a b : World} {row : Option Nat} (h : a.grownBy b row) : Chg (fun k => row = some k) a b := ⟨h.os, h.tape, h.output, h.size, fun i hi hn => h.block i hi (fun x => hn x.symm)⟩
theorem Chg.alloc (S : Nat → Prop) (w : World) (o : Obj) : Chg S w (w.alloc o) := ⟨rfl, rfl, rfl, by simp, fun i hi _ => Below.heap_alloc w o i hi⟩
theorem Chg.set (w : World) (L j : Nat) (v : Value) : Chg (fun k => k = L) w (w.setCell ⟨L, j, none⟩ v) := ⟨rfl, rfl, rfl, by simp, fun i _ hn => heap_setCell_other w ⟨L, j, none⟩ i v (fun e => hn (by simpa using e))⟩
theorem Chg.of_below {w w' : World} (h : Below w.heap.size w w') (S : Nat → Prop) : Chg S w w' := ⟨h.os, h.tape, h.output, h.size, fun i hi _ => h.block i hi⟩
theorem Chg.drew {S : Nat → Prop} {a b : World} (h : Chg S a b) : Chg S a b.drew := ⟨h.os, h.tape, h.output, h.size, h.block⟩
theorem Chg.drewN {S : Nat → Prop} {a b : World} (h : Chg S a b) (n : Nat) : Chg S a (b.drewN n) := ⟨h.os, h.tape, h.output, h.size, h.block⟩
theorem Below.chg {S : Nat → Prop} {B : Nat} {a b c : World} (h : Below B a b) (k : Chg S b c) (hB : B ≤ b.heap.size) (hs : ∀ k, S k → B ≤ k) : Below B a c :=
  ⟨k.os.trans h.os, k.tape.trans h.tape, k.output.trans h.output, Nat.le_trans h.size k.size, fun i hi => (k.block i (by omega) (fun x => by have := hs i x; omega)).trans (h.block i hi)⟩
theorem Chg.blk {S : Nat → Prop} {w w' : World} {p : Nat} {o : Obj} (h : Chg S w w') (hp : w.heap[p]? = some o) (hn : ¬ S p) : w'.heap[p]? = some o := (h.block p (blk_lt hp) hn).trans hp
theorem own_form {w : World} {base n t size : Nat} {v : Value} {xs : List Value} (h : w.ownsRow base t size v n xs) (hn : 0 < n) : ∃ g cap, v = .slice (some ⟨g, 0, none⟩) n cap := by
  rcases h.2 with ⟨_, h0⟩ | ⟨g, cap, cur, hv, _⟩
  · omega
  · exact ⟨g, cap, hv⟩
theorem own_chg {S : Nat → Prop} {w w' : World} {base n t size : Nat} {v : Value} {xs : List Value} (h : w.ownsRow base t size v n xs) (hc : Chg S w w') (hr : ∀ k, v.ownBlock = some k → ¬ S k) : w'.ownsRow base t size v n xs := by
  refine ⟨h.1, ?_⟩
  rcases h.2 with hn | ⟨g, cap, cur, rfl, hb, hg, rest⟩
  · exact .inl hn
  · exact .inr ⟨g, cap, cur, rfl, hb, hc.blk hg (hr g rfl), rest⟩
/-- A slice of numbers of kind K in a world, as an argument: nil or empty, or a row of cells. -/
structure Ns (K : IntKind) (w : World) (A : Option Addr) (n : Nat) (Z : Nat → Int) : Prop where
  len : n ≤ 9223372036854775807
  row : n = 0 ∨ ∃ b off, A = some ⟨b, off, none⟩ ∧ b < w.heap.size ∧ ∀ i, i < n → w.cell? ⟨b, off + i, none⟩ = some (.int K (Z i))
  wf : ∀ i, i < n → (Lit.int K (Z i)).wf = true
theorem Ns.below {K : IntKind} {w w' : World} {A : Option Addr} {n : Nat} {Z : Nat → Int} {B : Nat} (h : Ns K w A n Z) (hb : Below B w w') (hB : w.heap.size ≤ B) : Ns K w' A n Z := by
  refine ⟨h.len, ?_, h.wf⟩
  rcases h.row with h0 | ⟨b, off, hA, hlt, hc⟩
  · exact .inl h0
  · exact .inr ⟨b, off, hA, Nat.lt_of_lt_of_le hlt hb.size, fun i hi => by rw [hb.cell (by show b < B; omega)]; exact hc i hi⟩
/-- The cell of an argument, later: nothing below the base has changed. -/
theorem Ns.at {K : IntKind} {w w' : World} {A : Option Addr} {n : Nat} {Z : Nat → Int} {B : Nat} (h : Ns K w A n Z) (hb : Below B w w') (hB : w.heap.size ≤ B) {i : Nat} (hi : i < n) : ∃ b off, A = some ⟨b, off, none⟩ ∧ w'.cell? ⟨b, off + i, none⟩ = some (.int K (Z i)) := by
  rcases h.row with h0 | ⟨b, off, hA, hlt, hc⟩
  · omega
  · exact ⟨b, off, hA, by rw [hb.cell (by show b < B; omega)]; exact hc i hi⟩
theorem open_ns {H : Type} {enc : TypeId × Value → H} {P : Program} {w : World} {t e : TypeId} {K : IntKind} {a : Option Addr} {len cap : Nat} {d : DataW H} {p : List MemPlace}
    (ht : P.underlying t = some (.slice e)) (he : P.underlying e = some (.int K)) (hC : P.cellsOf e = 1) (h : DataW.Trod enc P w 0 (fun _ => true) true t (.slice a len cap) d p) : ∃ Z, Ns K w a len Z ∧ len ≤ cap ∧ cap ≤ 9223372036854775807 := by
  obtain ⟨fuel, hf⟩ := h
  rcases open_ints ht he hC hf with ⟨hcs, _⟩ | ⟨x, l, c, zs, hcs, _, hl, hm, hz, _, hcell, hwz⟩
  · simp [Value.cells] at hcs
    obtain ⟨rfl, rfl, rfl⟩ := hcs
    exact ⟨fun _ => 0, ⟨by omega, .inl rfl, fun i hi => by omega⟩, by omega, by omega⟩
  · simp [Value.cells] at hcs
    obtain ⟨rfl, rfl, rfl⟩ := hcs
    have hz : zs.length = cap := by simpa using hz
    unfold maxLen at hm
    refine ⟨fun i => zs.getD i 0, ⟨by omega, ?_, fun i hi => ?_⟩, hl, by omega⟩
    · rcases Nat.eq_zero_or_pos len with h0 | h0
      · exact .inl h0
      · obtain ⟨b, off, rfl, hc⟩ := ints_at hcell (by omega)
        refine .inr ⟨b, off, rfl, ?_, fun i hi => hc i (by omega)⟩
        exact cell_lt (hc 0 (by omega))
    · apply hwz
      rw [List.getD_eq_getElem?_getD, List.getElem?_eq_getElem (by omega)]
      simp
/-- A slice that holds the numbers l, in a block from B on. -/
def IL (K : IntKind) (B : Nat) (w : World) (A : Option Addr) (l : List Int) : Prop := l = [] ∨ ∃ b off, A = some ⟨b, off, none⟩ ∧ B ≤ b ∧ b < w.heap.size ∧ ∀ i, i < l.length → w.cell? ⟨b, off + i, none⟩ = some (.int K (l.getD i 0))
theorem IL.chg {K : IntKind} {B : Nat} {S : Nat → Prop} {w w' : World} {A : Option Addr} {l : List Int} (h : IL K B w A l) (hc : Chg S w w') (hn : ∀ b, B ≤ b → ¬ S b) : IL K B w' A l := by
  rcases h with h0 | ⟨b, off, hA, hB, hlt, hcell⟩
  · exact .inl h0
  · exact .inr ⟨b, off, hA, hB, Nat.lt_of_lt_of_le hlt hc.size, fun i hi => (World.cell?_of_block (hc.block b hlt (hn b hB))).trans (hcell i hi)⟩
theorem IL.below {K : IntKind} {B : Nat} {w w' : World} {A : Option Addr} {l : List Int} (h : IL K B w A l) (hb : Below w.heap.size w w') : IL K B w' A l := h.chg (Chg.of_below hb (fun _ => False)) (fun _ _ x => x)
theorem IL.mono {K : IntKind} {B B' : Nat} {w : World} {A : Option Addr} {l : List Int} (h : IL K B w A l) (hb : B' ≤ B) : IL K B' w A l := by
  rcases h with h0 | ⟨b, off, hA, hB, hlt, hcell⟩
  · exact .inl h0
  · exact .inr ⟨b, off, hA, by omega, hlt, hcell⟩
theorem il_nil (K : IntKind) (B : Nat) (w : World) (A : Option Addr) : IL K B w A [] := .inl rfl
theorem il_one {K : IntKind} {B : Nat} {w : World} {b t : Nat} {x : Int} (h : w.heap[b]? = some (.cells #[.int K x] t (0, 0))) (hB : B ≤ b) : IL K B w (some ⟨b, 0, none⟩) [x] :=
  .inr ⟨b, 0, rfl, hB, blk_lt h, fun i hi => by
    match i, hi with
    | 0, _ => simp [World.cell?, h]⟩
theorem il_two {K : IntKind} {B : Nat} {w : World} {b t : Nat} {x y : Int} (h : w.heap[b]? = some (.cells #[.int K x, .int K y] t (0, 0))) (hB : B ≤ b) : IL K B w (some ⟨b, 0, none⟩) [x, y] :=
  .inr ⟨b, 0, rfl, hB, blk_lt h, fun i hi => by
    match i, hi with
    | 0, _ => simp [World.cell?, h]
    | 1, _ => simp [World.cell?, h]⟩
theorem drewN_drewN (w : World) (a b : Nat) : (w.drewN a).drewN b = w.drewN (a + b) := by
  unfold World.drewN
  simp [Nat.add_assoc]
end Go.Proofs.Ytcmklipifhpgmaa
