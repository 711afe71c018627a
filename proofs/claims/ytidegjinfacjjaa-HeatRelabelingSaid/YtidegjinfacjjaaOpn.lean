/- Openers of the laws' arguments. -/
import Derived.Test.YtidegjinfacjjaaMdl
import Derived.Deep.Matrix
namespace Go.Proofs.Ytidegjinfacjjaa
open Go.ChangeShapes Go.WideShapes Go.ChangeAt Go.RowKit Go.Deep Go.Joins

section
variable {H : Type} {enc : TypeId × Value → H} {P : Program} {w : World} {base : Nat} {spare : Nat → Bool} {held : Bool}
theorem open_slice_fields {t e : TypeId} {fs : Array Field} {fuel : Nat} {cs : List Value} {x : DataW H × List MemPlace} (ht : P.underlying t = some (.slice e)) (he : P.underlying e = some (.struct fs))
    (hone : oneCellFields P fs = true) (hC : P.cellsOf e = fs.size) (h : DataW.trod enc P w base spare held fuel t cs = some x) :
    (cs = [.slice none 0 0] ∧ x = (.nil, [])) ∨
    ∃ (a : Addr) (len cap m : Nat) (D : Nat → DataW H) (Pl : Nat → List MemPlace), cs = [.slice (some a) len cap] ∧ base ≤ a.block ∧ len ≤ cap ∧ cap ≤ maxLen ∧ m = (if spare a.block then cap else len) ∧
      x = (.slice ((List.range len).map D) ((List.range (m - len)).map fun j => D (len + j)), MemPlace.row a (m * fs.size) ++ (List.range m).flatMap Pl) ∧
      ∀ i, i < m → ∃ (ys : List (DataW H × List MemPlace)) (n : Nat), D i = .agg (ys.map (·.1)) ∧ Pl i = ys.flatMap (·.2) ∧ ys.length = fs.size ∧
        ∀ (j : Nat) (f : Field), fs[j]? = some f → ∃ (v : Value) (y : DataW H × List MemPlace), w.cell? (a.add (i * fs.size + j)) = some v ∧ ys[j]? = some y ∧ DataW.trod enc P w base spare held n f.type [v] = some y := by
  rcases open_slice ht h with h0 | ⟨a, len, cap, m, n, D, Pl, hcs, hb, hl, hm, hmm, hx, hi⟩
  · exact .inl h0
  · refine .inr ⟨a, len, cap, m, D, Pl, hcs, hb, hl, hm, hmm, by rw [hC] at hx; exact hx, fun i him => ?_⟩
    obtain ⟨cs', hc, ht'⟩ := hi i him
    rw [hC] at hc
    obtain ⟨ys, n', hn', hy, hlen, hyl, hf⟩ := DataW.trod_struct he ht'
    obtain ⟨_, hcl, hat⟩ := World.cells?_some hc
    simp only [Prod.mk.injEq] at hy
    refine ⟨ys, n', hy.1, hy.2, hyl, fun j f hj => ?_⟩
    obtain ⟨ho, hk⟩ := hone_of hone j f hj
    have hjl : j < fs.size := (Array.getElem?_eq_some_iff.1 hj).1
    have hcell := hat j hjl
    have hv : cs'[j]? = some (cs'[j]'(by omega)) := List.getElem?_eq_getElem (by omega)
    have h1 := hf j f hj
    rw [ho, hk] at h1
    have hone' : (cs'.drop j).take 1 = [cs'[j]'(by omega)] := by
      rw [List.drop_eq_getElem_cons (by omega)]
      rfl
    rw [hone'] at h1
    have hys : ys[j]? = some (ys[j]'(by omega)) := List.getElem?_eq_getElem (by omega)
    refine ⟨_, _, ?_, hys, h1.trans hys⟩
    rw [← Go.Deep.add_add, hcell, hv]
end
theorem open_doms {H : Type} {enc : TypeId × Value → H} {w : World} {a : Option Addr} {len cap : Nat} {d : DataW H} {p : List MemPlace}
    (h : DataW.Trod enc Try.prog w 0 (fun _ => true) true 22 (.slice a len cap) d p) : ∃ g, Fl w a 2 len (dV g) := by
  obtain ⟨fuel, hf⟩ := h
  rcases open_slice_fields Try.underlying22 Try.underlying31 (by kernel_rfl) (by kernel_rfl) hf with ⟨hcs, _⟩ | ⟨x, l, c, m, D, Pl, hcs, _, hl, hm, hmm, _, hi⟩
  · simp [Value.cells] at hcs
    obtain ⟨rfl, rfl, rfl⟩ := hcs
    exact ⟨fun _ => ⟨0, 0⟩, ⟨by omega, .inl rfl⟩⟩
  · simp [Value.cells] at hcs
    obtain ⟨rfl, rfl, rfl⟩ := hcs
    have hmm : m = cap := by simpa using hmm
    subst hmm
    have K0 : ∀ i, ∃ s : Dm, i < len → w.cell? (x.add (i * 2 + 0)) = some (.int .i64 s.c) ∧ w.cell? (x.add (i * 2 + 1)) = some (.int .i64 s.a) := by
      intro i
      by_cases hil : i < len
      · obtain ⟨ys, n, _, _, _, hf⟩ := hi i (by omega)
        obtain ⟨v0, y0, c0, _, t0⟩ := hf 0 _ rfl
        obtain ⟨v1, y1, c1, _, t1⟩ := hf 1 _ rfl
        obtain ⟨l0, e0, _, w0⟩ := DataW.trod_int Try.underlying2 t0
        obtain ⟨l1, e1, _, w1⟩ := DataW.trod_int Try.underlying2 t1
        simp at e0 e1
        subst e0 e1
        exact ⟨⟨l0, l1⟩, fun _ => ⟨c0, c1⟩⟩
      · exact ⟨⟨0, 0⟩, fun h => absurd h hil⟩
    obtain ⟨g, hg⟩ := Classical.axiomOfChoice K0
    unfold maxLen at hm
    refine ⟨g, ⟨by omega, ?_⟩⟩
    rcases Nat.eq_zero_or_pos len with h0 | h0
    · exact .inl h0
    · obtain ⟨b, off, spot⟩ := x
      have hspot : spot = none := by simpa [Addr.add] using World.cell?_spot (hg 0 h0).1
      subst hspot
      refine .inr ⟨b, off, rfl, ?_, fun j hj => ?_⟩
      · have := cell_lt (hg 0 h0).1
        simpa [Addr.add] using this
      · obtain ⟨c0, c1⟩ := hg (j / 2) (by omega)
        rw [add_plain] at c0 c1
        rcases (show j = j / 2 * 2 ∨ j = j / 2 * 2 + 1 by omega) with e | e
        · rw [e, dV0, ← c0]; simp
        · rw [e, dV1, ← c1]
theorem open_lnks {H : Type} {enc : TypeId × Value → H} {w : World} {a : Option Addr} {len cap : Nat} {d : DataW H} {p : List MemPlace}
    (h : DataW.Trod enc Try.prog w 0 (fun _ => true) true 23 (.slice a len cap) d p) : ∃ g, Fl w a 3 len (lV g) := by
  obtain ⟨fuel, hf⟩ := h
  rcases open_slice_fields Try.underlying23 Try.underlying34 (by kernel_rfl) (by kernel_rfl) hf with ⟨hcs, _⟩ | ⟨x, l, c, m, D, Pl, hcs, _, hl, hm, hmm, _, hi⟩
  · simp [Value.cells] at hcs
    obtain ⟨rfl, rfl, rfl⟩ := hcs
    exact ⟨fun _ => ⟨0, 0, 0⟩, ⟨by omega, .inl rfl⟩⟩
  · simp [Value.cells] at hcs
    obtain ⟨rfl, rfl, rfl⟩ := hcs
    have hmm : m = cap := by simpa using hmm
    subst hmm
    have K0 : ∀ i, ∃ s : Lk, i < len → w.cell? (x.add (i * 3 + 0)) = some (.int .i64 s.a) ∧ w.cell? (x.add (i * 3 + 1)) = some (.int .i64 s.b) ∧ w.cell? (x.add (i * 3 + 2)) = some (.int .i64 s.c) := by
      intro i
      by_cases hil : i < len
      · obtain ⟨ys, n, _, _, _, hf⟩ := hi i (by omega)
        obtain ⟨v0, y0, c0, _, t0⟩ := hf 0 _ rfl
        obtain ⟨v1, y1, c1, _, t1⟩ := hf 1 _ rfl
        obtain ⟨v2, y2, c2, _, t2⟩ := hf 2 _ rfl
        obtain ⟨l0, e0, _, w0⟩ := DataW.trod_int Try.underlying3 t0
        obtain ⟨l1, e1, _, w1⟩ := DataW.trod_int Try.underlying3 t1
        obtain ⟨l2, e2, _, w2⟩ := DataW.trod_int Try.underlying2 t2
        simp at e0 e1 e2
        subst e0 e1 e2
        exact ⟨⟨l0, l1, l2⟩, fun _ => ⟨c0, c1, c2⟩⟩
      · exact ⟨⟨0, 0, 0⟩, fun h => absurd h hil⟩
    obtain ⟨g, hg⟩ := Classical.axiomOfChoice K0
    unfold maxLen at hm
    refine ⟨g, ⟨by omega, ?_⟩⟩
    rcases Nat.eq_zero_or_pos len with h0 | h0
    · exact .inl h0
    · obtain ⟨b, off, spot⟩ := x
      have hspot : spot = none := by simpa [Addr.add] using World.cell?_spot (hg 0 h0).1
      subst hspot
      refine .inr ⟨b, off, rfl, ?_, fun j hj => ?_⟩
      · have := cell_lt (hg 0 h0).1
        simpa [Addr.add] using this
      · obtain ⟨c0, c1, c2⟩ := hg (j / 3) (by omega)
        rw [add_plain] at c0 c1 c2
        rcases (show j = j / 3 * 3 ∨ j = j / 3 * 3 + 1 ∨ j = j / 3 * 3 + 2 by omega) with e | e | e
        · rw [e, lV0, ← c0]; simp
        · rw [e, lV1, ← c1]
        · rw [e, lV2, ← c2]
theorem open_nums {H : Type} {enc : TypeId × Value → H} {w : World} {a : Option Addr} {len cap : Nat} {d : DataW H} {p : List MemPlace}
    (h : DataW.Trod enc Try.prog w 0 (fun _ => true) true 24 (.slice a len cap) d p) : ∃ g, Fl w a 1 len (eV g) := by
  obtain ⟨g, hg, _, _⟩ := open_ns (K := .i64) Try.underlying24 Try.underlying2 (by kernel_rfl) h
  refine ⟨g, ⟨hg.len, ?_⟩⟩
  rcases hg.row with h0 | ⟨b, off, hA, hlt, hc⟩
  · exact .inl h0
  · exact .inr ⟨b, off, hA, hlt, fun j hj => hc j (by omega)⟩
structure Pw where
  a : Option Addr
  l : Nat
  c : Nat
  z : Nat → Int
/-- A slice of slices of numbers. -/
structure Pws (w : World) (A : Option Addr) (n : Nat) (g : Nat → Pw) : Prop where
  len : n ≤ 9223372036854775807
  row : n = 0 ∨ ∃ b off, A = some ⟨b, off, none⟩ ∧ b < w.heap.size ∧ ∀ i, i < n → w.cell? ⟨b, off + i, none⟩ = some (.slice (g i).a (g i).l (g i).c)
  fl : ∀ i, i < n → Fl w (g i).a 1 (g i).l (eV (g i).z)
theorem Pws.at {w w' : World} {A : Option Addr} {n : Nat} {g : Nat → Pw} (h : Pws w A n g) (hb : Below w.heap.size w w') {i : Nat} (hi : i < n) : ∃ b off, A = some ⟨b, off, none⟩ ∧ b < w'.heap.size ∧ w'.cell? ⟨b, off + i, none⟩ = some (.slice (g i).a (g i).l (g i).c) ∧ Fl w' (g i).a 1 (g i).l (eV (g i).z) := by
  rcases h.row with h0 | ⟨b, off, hA, hlt, hc⟩
  · omega
  · exact ⟨b, off, hA, Nat.lt_of_lt_of_le hlt hb.size, by rw [hb.cell (by exact hlt)]; exact hc i hi, (h.fl i hi).below hb (Nat.le_refl _)⟩
theorem open_pws {H : Type} {enc : TypeId × Value → H} {w : World} {a : Option Addr} {len cap : Nat} {d : DataW H} {p : List MemPlace}
    (h : DataW.Trod enc Try.prog w 0 (fun _ => true) true 47 (.slice a len cap) d p) : ∃ g, Pws w a len g := by
  obtain ⟨fuel, hf⟩ := h
  rcases open_int_rows Try.underlying47 Try.underlying24 Try.underlying2 (by kernel_rfl) (by kernel_rfl) hf with ⟨hcs, _⟩ | ⟨x, l, c, A, L, C, Z, hcs, _, hl, hm, _, hi⟩
  · simp [Value.cells] at hcs
    obtain ⟨rfl, rfl, rfl⟩ := hcs
    exact ⟨fun _ => ⟨none, 0, 0, fun _ => 0⟩, ⟨by omega, .inl rfl, fun i hi => by omega⟩⟩
  · simp [Value.cells] at hcs
    obtain ⟨rfl, rfl, rfl⟩ := hcs
    unfold maxLen at hm
    refine ⟨fun r => ⟨A r, L r, C r, fun j => (Z r).getD j 0⟩, ⟨by omega, ?_, fun r hr => ?_⟩⟩
    · rcases Nat.eq_zero_or_pos len with h0 | h0
      · exact .inl h0
      · obtain ⟨b, off, spot⟩ := x
        have hspot : spot = none := by simpa [Addr.add] using World.cell?_spot (hi 0 (by omega)).1
        subst hspot
        refine .inr ⟨b, off, rfl, ?_, fun r hr => ?_⟩
        · have := cell_lt (hi 0 (by omega)).1
          simpa [Addr.add] using this
        · have := (hi r (by omega)).1
          rw [add_plain] at this
          exact this
    · obtain ⟨h1, h2, h3, h4, h5, h6, h7⟩ := hi r (by omega)
      unfold maxLen at h3
      refine ⟨by show L r ≤ _; omega, ?_⟩
      show L r = 0 ∨ _
      cases hA : A r with
      | none => have := h6 hA; exact .inl (by omega)
      | some a' =>
        rcases Nat.eq_zero_or_pos (L r) with h0 | h0
        · exact .inl h0
        · have hc := (h7 a' hA).2
          obtain ⟨b, off, spot⟩ := a'
          have hspot : spot = none := by simpa [Addr.add] using World.cell?_spot (hc 0 (by omega))
          subst hspot
          refine .inr ⟨b, off, rfl, ?_, fun j hj => ?_⟩
          · have := cell_lt (hc 0 (by omega))
            simpa [Addr.add] using this
          · have := hc j (by have hj : j < L r * 1 := hj; omega)
            rw [add_plain] at this
            exact this
end Go.Proofs.Ytidegjinfacjjaa
