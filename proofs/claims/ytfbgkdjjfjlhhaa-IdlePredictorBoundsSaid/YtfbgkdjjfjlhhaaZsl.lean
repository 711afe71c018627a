/- A slice of numbers as an argument. -/
import Derived.Test.YtfbgkdjjfjlhhaaOpen
namespace Go.Proofs.Ytfbgkdjjfjlhhaa
open Go.RowKit Go.ChangeShapes Go.WideShapes

/-- A slice of numbers in a world. -/
structure Zs (w : World) (A : Option Addr) (n : Nat) (Z : Nat → Int) : Prop where
  len : n ≤ 9223372036854775807
  row : n = 0 ∨ ∃ b off, A = some ⟨b, off, none⟩ ∧ b < w.heap.size ∧ ∀ i, i < n → w.cell? ⟨b, off + i, none⟩ = some (.int .u64 (Z i))
  wf : ∀ i, i < n → U64 (Z i)
theorem open_u64s {H : Type} {enc : TypeId × Value → H} {w : World} {a : Option Addr} {len cap : Nat} {d : DataW H} {p : List MemPlace}
    (h : DataW.Trod enc Try.prog w 0 (fun _ => true) true 50 (.slice a len cap) d p) : ∃ Z, Zs w a len Z := by
  obtain ⟨fuel, hf⟩ := h
  rcases open_ints Try.underlying50 Try.underlying23 (by kernel_rfl) hf with ⟨hcs, _⟩ | ⟨x, l, c, zs, hcs, _, hl, hm, hz, _, hcell, hwz⟩
  · simp [Value.cells] at hcs
    obtain ⟨rfl, rfl, rfl⟩ := hcs
    exact ⟨fun _ => 0, by omega, .inl rfl, fun i hi => by omega⟩
  · simp [Value.cells] at hcs
    obtain ⟨rfl, rfl, rfl⟩ := hcs
    have hz : zs.length = cap := by simpa using hz
    refine ⟨fun i => zs.getD i 0, by unfold maxLen at hm; omega, ?_, fun i hi => ?_⟩
    · rcases Nat.eq_zero_or_pos len with h0 | h0
      · exact .inl h0
      · obtain ⟨b, off, rfl, hc⟩ := ints_at hcell (by omega)
        refine .inr ⟨b, off, rfl, ?_, fun i hi => hc i (by omega)⟩
        exact cell_lt (hc 0 (by omega))
    · apply u64_of_wf
      apply hwz
      rw [List.getD_eq_getElem?_getD, List.getElem?_eq_getElem (by omega)]
      simp

theorem Zs.below {w w' : World} {A : Option Addr} {n : Nat} {Z : Nat → Int} (h : Zs w A n Z) (hb : Below w.heap.size w w') : Zs w' A n Z := by
  refine ⟨h.len, ?_, h.wf⟩
  rcases h.row with h0 | ⟨b, off, hA, hlt, hc⟩
  · exact .inl h0
  · exact .inr ⟨b, off, hA, Nat.lt_of_lt_of_le hlt hb.size, fun i hi => by rw [hb.cell (by exact hlt)]; exact hc i hi⟩
end Go.Proofs.Ytfbgkdjjfjlhhaa
