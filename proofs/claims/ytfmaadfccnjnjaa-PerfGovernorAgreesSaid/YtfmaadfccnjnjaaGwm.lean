/- Plain facts on the governor's samples, and a block that a drawn region makes. -/
import Derived.Test.YtfmaadfccnjnjaaGop
import Derived.Deep.DrawnRows
namespace Go.Proofs.Ytfmaadfccnjnjaa
open Go.RowKit

/-- What a new block holds, kept over calls. -/
def QB (o : Obj) (k : Nat) (w : World) : Prop := w.heap[k]? = some o
theorem qb_new {W w2 : World} {o : Obj} (h : Below (W.alloc o).heap.size (W.alloc o) w2) : QB o W.heap.size w2 := by
  unfold QB
  rw [h.block W.heap.size (by simp)]
  exact heap_alloc_new W o
theorem qb_newd {W w2 : World} {o : Obj} (h : Below (W.alloc o).drew.heap.size (W.alloc o).drew w2) : QB o W.heap.size w2 := by
  unfold QB
  rw [h.block W.heap.size (by simp)]
  exact heap_alloc_new W o
theorem qb_keep {o : Obj} {k : Nat} {w1 w2 : World} (h : QB o k w1) (hb : Below w1.heap.size w1 w2) : QB o k w2 := by
  unfold QB at *
  rw [hb.block k (Array.getElem?_eq_some_iff.1 h).1]
  exact h
theorem qb_facts {x y z : Value} {t : TypeId} {k : Nat} {w : World} (h : QB (.cells #[x, y, z] t) k w) :
    w.cell? ⟨k, 0, none⟩ = some x ∧ w.cell? ⟨k, 1, none⟩ = some y ∧ w.cell? ⟨k, 2, none⟩ = some z ∧ w.frozen? ⟨k, 0, none⟩ = false ∧ w.frozen? ⟨k, 1, none⟩ = false ∧ w.frozen? ⟨k, 2, none⟩ = false := by
  unfold QB at h
  refine ⟨?_, ?_, ?_, ?_, ?_, ?_⟩ <;> simp [World.cell?, World.frozen?, h]
theorem suf_spec (f : Nat → St) (up : Nat) (W : Int) (lo cu : Nat) (hlc : lo ≤ cu) (hc : W ≤ up * (f cu).l) :
    lo ≤ suf f up W lo cu ∧ suf f up W lo cu ≤ cu ∧ W ≤ up * (f (suf f up W lo cu)).l ∧ ∀ j, lo ≤ j → j < suf f up W lo cu → up * (f j).l < W := by
  unfold suf
  cases h : (List.range cu).find? (fun p => decide (lo ≤ p) && decide (W ≤ up * (f p).l)) with
  | none =>
    rw [List.find?_range_eq_none] at h
    refine ⟨hlc, Nat.le_refl _, hc, fun j h1 h2 => ?_⟩
    have := h j h2
    simp at this
    omega
  | some p =>
    rw [List.find?_range_eq_some] at h
    obtain ⟨h1, h2, h3⟩ := h
    simp at h1 h2
    refine ⟨h1.1, by simp; omega, h1.2, fun j h4 h5 => ?_⟩
    simp at h5
    have := h3 j h5
    simp at this
    omega
theorem smp_high {f : Nat → St} {s : GV} {x : Nat} (h : s.up < x) : smpS f s x = { s with cu := s.hi, lz := 0 } := by unfold smpS; rw [if_pos h]
theorem smp_mid {f : Nat → St} {s : GV} {x : Nat} (h : x ≤ s.up) (h2 : s.dn ≤ x) : smpS f s x = { s with lz := 0 } := by unfold smpS; rw [if_neg (by omega), if_neg (by omega)]
theorem smp_wait {f : Nat → St} {s : GV} {x : Nat} (h : x ≤ s.up) (h2 : x < s.dn) (h3 : s.lz + 1 < s.sp) : smpS f s x = { s with lz := s.lz + 1 } := by unfold smpS; rw [if_neg (by omega), if_pos h2, if_neg (by omega)]
theorem smp_low {f : Nat → St} {s : GV} {x : Nat} (h : x ≤ s.up) (h2 : x < s.dn) (h3 : s.sp ≤ s.lz + 1) : smpS f s x = { s with lz := 0, cu := suf f s.up (x * (f s.cu).l) s.lo s.cu } := by unfold smpS; rw [if_neg (by omega), if_pos h2, if_pos h3]
theorem mul_bd {a : Nat} {F : Int} (ha : a ≤ 100) (h0 : 0 ≤ F) (h1 : F ≤ 1099511627776) : 0 ≤ (a : Int) * F ∧ (a : Int) * F ≤ 109951162777600 := by
  have h1' : (0 : Int) ≤ a := by omega
  have h2 : (a : Int) ≤ 100 := by omega
  refine ⟨Int.mul_nonneg h1' h0, ?_⟩
  calc (a : Int) * F ≤ 100 * F := Int.mul_le_mul_of_nonneg_right h2 h0
    _ ≤ _ := by omega
theorem mul_le {a b : Nat} {F : Int} (h : a ≤ b) (h0 : 0 ≤ F) : (a : Int) * F ≤ (b : Int) * F := Int.mul_le_mul_of_nonneg_right (by omega) h0
theorem cut_mem {w w' : World} {L : Nat} {p : Nat} (h : w.grownBy w' (some L)) (hp : p < w.heap.size) (hne : p ≠ L) (o : Nat) : w'.cell? ⟨p, o, none⟩ = w.cell? ⟨p, o, none⟩ :=
  World.cell?_of_block (h.block p hp (fun x => hne (by injection x)))
end Go.Proofs.Ytfmaadfccnjnjaa
