/- A list of calls as an argument. -/
import Derived.Test.YtmhabdpnakbfpaaAtt
import Derived.Deep.Grids
namespace Go.Proofs.Ytmhabdpnakbfpaa
open Go.ChangeShapes Go.WideShapes Go.ChangeAt Go.RowKit Go.Deep Go.Joins

section
variable {H : Type} {enc : TypeId × Value → H} {P : Program} {w : World} {base : Nat} {spare : Nat → Bool} {held : Bool}
theorem open_slice_fields {t e : TypeId} {fs : Array Field} {fuel : Nat} {cs : List Value} {x : DataW H × List MemPlace} (ht : P.underlying t = some (.slice e)) (he : P.underlying e = some (.struct fs))
    (hone : oneCellFields P fs = true) (hC : P.cellsOf e = fs.size) (h : DataW.trod enc P w base spare held fuel t cs = some x) :
    (cs = [.slice none 0 0] ∧ x = (.nil, [])) ∨
    ∃ (a : Addr) (len cap m : Nat) (D : Nat → DataW H) (Pl : Nat → List MemPlace), cs = [.slice (some a) len cap] ∧ base ≤ a.block ∧ len ≤ cap ∧ cap ≤ maxLen ∧ m = (if spare a.block then cap else len) ∧
      x = (.slice ((List.range len).map D) ((List.range (m - len)).map fun j => D (len + j)), MemPlace.row a (m * fs.size) ++ (List.range m).flatMap Pl) ∧
      ∀ i, i < m → ∃ (ys : List (DataW H × List MemPlace)) (n : Nat), D i = .agg (ys.map (·.1)) ∧ Pl i = ys.flatMap (·.2) ∧ ys.length = fs.size ∧
        ∀ (j : Nat) (f : Field), fs[j]? = some f → ∃ (v : Value) (y : DataW H × List MemPlace), w.cell? (a.add (i * fs.size + j)) = some v ∧ ys[j]? = some y ∧ DataW.trod enc P w base spare held n f.type [v] = some y := by
  rcases open_slice ht h with h0 | ⟨a, len, cap, m, n, D, Pl, hcs, hb, hl, hm, hmm, hx, hi⟩
  · exact .inl h0
  · refine .inr ⟨a, len, cap, m, D, Pl, hcs, hb, hl, hm, hmm, by rw [hC] at hx; exact hx, fun i him => ?_⟩
    obtain ⟨cs', hc, ht'⟩ := hi i him
    rw [hC] at hc
    obtain ⟨ys, n', hn', hy, hlen, hyl, hf⟩ := DataW.trod_struct he ht'
    obtain ⟨_, hcl, hat⟩ := World.cells?_some hc
    simp only [Prod.mk.injEq] at hy
    refine ⟨ys, n', hy.1, hy.2, hyl, fun j f hj => ?_⟩
    obtain ⟨ho, hk⟩ := hone_of hone j f hj
    have hjl : j < fs.size := (Array.getElem?_eq_some_iff.1 hj).1
    have hcell := hat j hjl
    have hv : cs'[j]? = some (cs'[j]'(by omega)) := List.getElem?_eq_getElem (by omega)
    have h1 := hf j f hj
    rw [ho, hk] at h1
    have hone' : (cs'.drop j).take 1 = [cs'[j]'(by omega)] := by
      rw [List.drop_eq_getElem_cons (by omega)]
      rfl
    rw [hone'] at h1
    have hys : ys[j]? = some (ys[j]'(by omega)) := List.getElem?_eq_getElem (by omega)
    refine ⟨_, _, ?_, hys, h1.trans hys⟩
    rw [← Go.Deep.add_add, hcell, hv]
end
instance : Inhabited Cl := ⟨⟨0, 0, 0, 0, 0, false⟩⟩
def Clc (w : World) (b o : Nat) (x : Cl) : Prop :=
  w.cell? ⟨b, o, none⟩ = some (.int .i64 x.k) ∧ w.cell? ⟨b, o + 1, none⟩ = some (.int .i64 x.s) ∧ w.cell? ⟨b, o + 2, none⟩ = some (.int .u64 x.t) ∧ w.cell? ⟨b, o + 3, none⟩ = some (.int .u64 x.h) ∧ w.cell? ⟨b, o + 4, none⟩ = some (.int .i64 x.e) ∧ w.cell? ⟨b, o + 5, none⟩ = some (.bool x.raw)
/-- A list of calls. -/
structure Cs (w : World) (A : Option Addr) (n : Nat) (g : Nat → Cl) : Prop where
  len : n ≤ 9223372036854775807
  row : n = 0 ∨ ∃ b off, A = some ⟨b, off, none⟩ ∧ b < w.heap.size ∧ ∀ i, i < n → Clc w b (off + i * 6) (g i)
  wf : ∀ i, i < n → (Lit.int .i64 (g i).k).wf = true ∧ (Lit.int .i64 (g i).s).wf = true ∧ (Lit.int .u64 (g i).t).wf = true ∧ (Lit.int .u64 (g i).h).wf = true ∧ (Lit.int .i64 (g i).e).wf = true
theorem Cs.below {w w' : World} {A : Option Addr} {n : Nat} {g : Nat → Cl} (h : Cs w A n g) (hb : Below w.heap.size w w') : Cs w' A n g := by
  refine ⟨h.len, ?_, h.wf⟩
  rcases h.row with h0 | ⟨b, off, hA, hlt, hc⟩
  · exact .inl h0
  · refine .inr ⟨b, off, hA, Nat.lt_of_lt_of_le hlt hb.size, fun i hi => ?_⟩
    obtain ⟨c0, c1, c2, c3, c4, c5⟩ := hc i hi
    have e : ∀ o, w'.cell? ⟨b, o, none⟩ = w.cell? ⟨b, o, none⟩ := fun o => hb.cell (by exact hlt)
    exact ⟨(e _).trans c0, (e _).trans c1, (e _).trans c2, (e _).trans c3, (e _).trans c4, (e _).trans c5⟩
theorem open_cs {H : Type} {enc : TypeId × Value → H} {w : World} {a : Option Addr} {len cap : Nat} {d : DataW H} {p : List MemPlace}
    (h : DataW.Trod enc Try.prog w 0 (fun _ => true) true 22 (.slice a len cap) d p) : ∃ g, Cs w a len g := by
  obtain ⟨fuel, hf⟩ := h
  rcases open_slice_fields Try.underlying22 Try.underlying36 (by kernel_rfl) (by kernel_rfl) hf with ⟨hcs, _⟩ | ⟨x, l, c, m, D, Pl, hcs, _, hl, hm, hmm, hx, hi⟩
  · simp [Value.cells] at hcs
    obtain ⟨rfl, rfl, rfl⟩ := hcs
    exact ⟨fun _ => default, ⟨by omega, .inl rfl, fun i hi => by omega⟩⟩
  · simp [Value.cells] at hcs
    obtain ⟨rfl, rfl, rfl⟩ := hcs
    have hmm : m = cap := by simpa using hmm
    subst hmm
    have K0 : ∀ i, ∃ s : Cl, i < len → (w.cell? (x.add (i * 6 + 0)) = some (.int .i64 s.k) ∧ w.cell? (x.add (i * 6 + 1)) = some (.int .i64 s.s) ∧ w.cell? (x.add (i * 6 + 2)) = some (.int .u64 s.t) ∧ w.cell? (x.add (i * 6 + 3)) = some (.int .u64 s.h) ∧ w.cell? (x.add (i * 6 + 4)) = some (.int .i64 s.e) ∧ w.cell? (x.add (i * 6 + 5)) = some (.bool s.raw)) ∧
        (Lit.int .i64 s.k).wf = true ∧ (Lit.int .i64 s.s).wf = true ∧ (Lit.int .u64 s.t).wf = true ∧ (Lit.int .u64 s.h).wf = true ∧ (Lit.int .i64 s.e).wf = true := by
      intro i
      by_cases hil : i < len
      · obtain ⟨ys, n, hD, _, _, hf⟩ := hi i (by omega)
        obtain ⟨v0, y0, c0, _, t0⟩ := hf 0 _ rfl
        obtain ⟨v1, y1, c1, _, t1⟩ := hf 1 _ rfl
        obtain ⟨v2, y2, c2, _, t2⟩ := hf 2 _ rfl
        obtain ⟨v3, y3, c3, _, t3⟩ := hf 3 _ rfl
        obtain ⟨v4, y4, c4, _, t4⟩ := hf 4 _ rfl
        obtain ⟨v5, y5, c5, _, t5⟩ := hf 5 _ rfl
        obtain ⟨l0, e0, _, q0⟩ := DataW.trod_int Try.underlying3 t0
        obtain ⟨l1, e1, _, q1⟩ := DataW.trod_int Try.underlying3 t1
        obtain ⟨l2, e2, _, q2⟩ := DataW.trod_int Try.underlying32 t2
        obtain ⟨l3, e3, _, q3⟩ := DataW.trod_int Try.underlying32 t3
        obtain ⟨l4, e4, _, q4⟩ := DataW.trod_int Try.underlying3 t4
        obtain ⟨l5, e5, _⟩ := DataW.trod_bool Try.underlying4 t5
        simp at e0 e1 e2 e3 e4 e5
        subst e0 e1 e2 e3 e4 e5
        exact ⟨⟨l0, l1, l2, l3, l4, l5⟩, fun _ => ⟨⟨c0, c1, c2, c3, c4, c5⟩, q0, q1, q2, q3, q4⟩⟩
      · exact ⟨default, fun h => absurd h hil⟩
    obtain ⟨g, hg⟩ := Classical.axiomOfChoice K0
    unfold maxLen at hm
    refine ⟨g, ⟨by omega, ?_, fun i hil => (hg i hil).2⟩⟩
    rcases Nat.eq_zero_or_pos len with h0 | h0
    · exact .inl h0
    · obtain ⟨b, off, spot⟩ := x
      have hspot : spot = none := by simpa [Addr.add] using World.cell?_spot (hg 0 h0).1.1
      subst hspot
      refine .inr ⟨b, off, rfl, ?_, fun i hil => ?_⟩
      · have := cell_lt (hg 0 h0).1.1
        simpa [Addr.add] using this
      · obtain ⟨c0, c1, c2, c3, c4, c5⟩ := (hg i hil).1
        rw [add_plain, ← Nat.add_assoc] at c0 c1 c2 c3 c4 c5
        exact ⟨c0, c1, c2, c3, c4, c5⟩
end Go.Proofs.Ytmhabdpnakbfpaa
