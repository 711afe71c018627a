/- The statements' arguments: lists of truth values, lists of calls. -/
import Derived.Test.YtoafoikphpdimaaDsk
import Derived.SizedLaws
import Derived.Deep.Grids
namespace Go.Proofs.Ytoafoikphpdimaa
open Go.ChangeShapes Go.WideShapes Go.ChangeAt Go.RowKit Go.Deep Go.Joins

section
variable {H : Type} {enc : TypeId × Value → H} {P : Program} {w : World} {base : Nat} {spare : Nat → Bool} {held : Bool}
theorem open_slice_fields {t e : TypeId} {fs : Array Field} {fuel : Nat} {cs : List Value} {x : DataW H × List MemPlace} (ht : P.underlying t = some (.slice e)) (he : P.underlying e = some (.struct fs))
    (hone : oneCellFields P fs = true) (hC : P.cellsOf e = fs.size) (h : DataW.trod enc P w base spare held fuel t cs = some x) :
    (cs = [.slice none 0 0] ∧ x = (.nil, [])) ∨
    ∃ (a : Addr) (len cap m : Nat) (D : Nat → DataW H) (Pl : Nat → List MemPlace), cs = [.slice (some a) len cap] ∧ base ≤ a.block ∧ len ≤ cap ∧ cap ≤ maxLen ∧ m = (if spare a.block then cap else len) ∧
      x = (.slice ((List.range len).map D) ((List.range (m - len)).map fun j => D (len + j)), MemPlace.row a (m * fs.size) ++ (List.range m).flatMap Pl) ∧
      ∀ i, i < m → ∃ (ys : List (DataW H × List MemPlace)) (n : Nat), D i = .agg (ys.map (·.1)) ∧ Pl i = ys.flatMap (·.2) ∧ ys.length = fs.size ∧
        ∀ (j : Nat) (f : Field), fs[j]? = some f → ∃ (v : Value) (y : DataW H × List MemPlace), w.cell? (a.add (i * fs.size + j)) = some v ∧ ys[j]? = some y ∧ DataW.trod enc P w base spare held n f.type [v] = some y := by
  rcases open_slice ht h with h0 | ⟨a, len, cap, m, n, D, Pl, hcs, hb, hl, hm, hmm, hx, hi⟩
  · exact .inl h0
  · refine .inr ⟨a, len, cap, m, D, Pl, hcs, hb, hl, hm, hmm, by rw [hC] at hx; exact hx, fun i him => ?_⟩
    obtain ⟨cs', hc, ht'⟩ := hi i him
    rw [hC] at hc
    obtain ⟨ys, n', hn', hy, hlen, hyl, hf⟩ := DataW.trod_struct he ht'
    obtain ⟨_, hcl, hat⟩ := World.cells?_some hc
    simp only [Prod.mk.injEq] at hy
    refine ⟨ys, n', hy.1, hy.2, hyl, fun j f hj => ?_⟩
    obtain ⟨ho, hk⟩ := hone_of hone j f hj
    have hjl : j < fs.size := (Array.getElem?_eq_some_iff.1 hj).1
    have hcell := hat j hjl
    have hv : cs'[j]? = some (cs'[j]'(by omega)) := List.getElem?_eq_getElem (by omega)
    have h1 := hf j f hj
    rw [ho, hk] at h1
    have hone' : (cs'.drop j).take 1 = [cs'[j]'(by omega)] := by
      rw [List.drop_eq_getElem_cons (by omega)]
      rfl
    rw [hone'] at h1
    have hys : ys[j]? = some (ys[j]'(by omega)) := List.getElem?_eq_getElem (by omega)
    refine ⟨_, _, ?_, hys, h1.trans hys⟩
    rw [← Go.Deep.add_add, hcell, hv]
end
theorem open_bs {H : Type} {enc : TypeId × Value → H} {w : World} {a : Option Addr} {len cap : Nat} {d : DataW H} {p : List MemPlace}
    (h : DataW.Trod enc Try.prog w 0 (fun _ => true) true 34 (.slice a len cap) d p) (hw : ∀ x ∈ d.weights Try.prog 34, x ≤ reachBytes) : ∃ q, Bs w a len cap q ∧ len ≤ 140737488355328 := by
  obtain ⟨fuel, hf⟩ := h
  rcases open_bools Try.underlying34 Try.underlying4 (by kernel_rfl) hf with ⟨hcs, _⟩ | ⟨x, l, c, B, hcs, _, hl, hm, hx, hc⟩
  · simp [Value.cells] at hcs
    obtain ⟨rfl, rfl, rfl⟩ := hcs
    exact ⟨fun _ => false, bs_nil _ _, by omega⟩
  · simp [Value.cells] at hcs
    obtain ⟨rfl, rfl, rfl⟩ := hcs
    injection hx with hx _
    subst hx
    unfold maxLen at hm
    have hz : cap ≤ 140737488355328 := by
      have := hw ((((List.range len).map fun i => (DataW.lit (.bool (B i)) : DataW H)).length + ((List.range (cap - len)).map fun j => (DataW.lit (.bool (B (len + j))) : DataW H)).length) * Try.prog.bytesOf 4) (by
        show _ ∈ DataW.weights Try.prog 34 (.slice _ _)
        simp only [DataW.weights, Try.underlying34]
        exact List.mem_cons_self ..)
      rw [show Try.prog.bytesOf 4 = 1 by kernel_rfl] at this
      simp at this
      have h9 : reachBytes < 2 ^ 47 := reachBytes_lt
      omega
    refine ⟨B, ⟨⟨hl, by omega⟩, (fun e => by cases e), ?_⟩, by omega⟩
    rcases Nat.eq_zero_or_pos len with h0 | h0
    · exact .inl h0
    · obtain ⟨b, off, spot⟩ := x
      have hspot : spot = none := by simpa [Addr.add] using World.cell?_spot (hc 0 (by omega))
      subst hspot
      refine .inr ⟨b, off, rfl, ?_, fun i hi => ?_⟩
      · have := cell_lt (hc 0 (by omega))
        simpa [Addr.add] using this
      · have := hc i (by omega)
        rwa [add_plain] at this
structure Cl where
  k : Int
  s : Int
  d : Int
  A : Option Addr
  n : Nat
  c : Nat
  q : Nat → Bool
  raw : Bool
instance : Inhabited Cl := ⟨⟨0, 0, 0, none, 0, 0, fun _ => false, false⟩⟩
def Clc (w : World) (b o : Nat) (x : Cl) : Prop :=
  w.cell? ⟨b, o, none⟩ = some (.int .i64 x.k) ∧ w.cell? ⟨b, o + 1, none⟩ = some (.int .i64 x.s) ∧ w.cell? ⟨b, o + 2, none⟩ = some (.int .i64 x.d) ∧ w.cell? ⟨b, o + 3, none⟩ = some (.slice x.A x.n x.c) ∧ w.cell? ⟨b, o + 4, none⟩ = some (.bool x.raw) ∧ Bs w x.A x.n x.c x.q ∧ x.n ≤ 140737488355328
/-- A list of calls. -/
structure Cs (w : World) (A : Option Addr) (n : Nat) (g : Nat → Cl) : Prop where
  len : n ≤ 9223372036854775807
  row : n = 0 ∨ ∃ b off, A = some ⟨b, off, none⟩ ∧ b < w.heap.size ∧ ∀ i, i < n → Clc w b (off + i * 5) (g i)
theorem Cs.below {w w' : World} {A : Option Addr} {n : Nat} {g : Nat → Cl} (h : Cs w A n g) (hb : Below w.heap.size w w') : Cs w' A n g := by
  refine ⟨h.len, ?_⟩
  rcases h.row with h0 | ⟨b, off, hA, hlt, hc⟩
  · exact .inl h0
  · refine .inr ⟨b, off, hA, Nat.lt_of_lt_of_le hlt hb.size, fun i hi => ?_⟩
    obtain ⟨c0, c1, c2, c3, c4, c5, c6⟩ := hc i hi
    have e : ∀ o, w'.cell? ⟨b, o, none⟩ = w.cell? ⟨b, o, none⟩ := fun o => hb.cell (by exact hlt)
    exact ⟨(e _).trans c0, (e _).trans c1, (e _).trans c2, (e _).trans c3, (e _).trans c4, c5.below hb, c6⟩
theorem wEach_mem {H : Type} {P : Program} {t : TypeId} {d : DataW H} : ∀ {ts : List TypeId} {ds : List (DataW H)} {j : Nat}, ts[j]? = some t → ds[j]? = some d → ∀ n ∈ d.weights P t, n ∈ DataW.weightsEach P ts ds := fun h1 h2 n hn => DataW.weights_mem_each h1 h2 n hn
theorem wAll_mem {H : Type} {P : Program} {e : TypeId} {d : DataW H} : ∀ {ds : List (DataW H)}, d ∈ ds → ∀ n ∈ d.weights P e, n ∈ DataW.weightsAll P e ds
  | [], h, _, _ => by cases h
  | x :: r, h, n, hn => by
    simp only [DataW.weightsAll, List.mem_append]
    rcases List.mem_cons.1 h with rfl | h
    · exact Or.inl hn
    · exact Or.inr (wAll_mem h n hn)
theorem open_cs {H : Type} {enc : TypeId × Value → H} {w : World} {a : Option Addr} {len cap : Nat} {d : DataW H} {p : List MemPlace}
    (h : DataW.Trod enc Try.prog w 0 (fun _ => true) true 22 (.slice a len cap) d p) (hw : ∀ x ∈ d.weights Try.prog 22, x ≤ reachBytes) : ∃ g, Cs w a len g := by
  obtain ⟨fuel, hf⟩ := h
  rcases open_slice_fields Try.underlying22 Try.underlying36 (by kernel_rfl) (by kernel_rfl) hf with ⟨hcs, _⟩ | ⟨x, l, c, m, D, Pl, hcs, _, hl, hm, hmm, hx, hi⟩
  · simp [Value.cells] at hcs
    obtain ⟨rfl, rfl, rfl⟩ := hcs
    exact ⟨fun _ => default, ⟨by omega, .inl rfl⟩⟩
  · simp [Value.cells] at hcs
    obtain ⟨rfl, rfl, rfl⟩ := hcs
    have hmm : m = cap := by simpa using hmm
    subst hmm
    injection hx with hx _
    subst hx
    have K0 : ∀ i, ∃ s : Cl, i < len → w.cell? (x.add (i * 5 + 0)) = some (.int .i64 s.k) ∧ w.cell? (x.add (i * 5 + 1)) = some (.int .i64 s.s) ∧ w.cell? (x.add (i * 5 + 2)) = some (.int .i64 s.d) ∧ w.cell? (x.add (i * 5 + 3)) = some (.slice s.A s.n s.c) ∧ w.cell? (x.add (i * 5 + 4)) = some (.bool s.raw) ∧ Bs w s.A s.n s.c s.q ∧ s.n ≤ 140737488355328 := by
      intro i
      by_cases hil : i < len
      · obtain ⟨ys, n, hD, _, _, hf⟩ := hi i (by omega)
        obtain ⟨v0, y0, c0, _, t0⟩ := hf 0 _ rfl
        obtain ⟨v1, y1, c1, _, t1⟩ := hf 1 _ rfl
        obtain ⟨v2, y2, c2, _, t2⟩ := hf 2 _ rfl
        obtain ⟨v3, y3, c3, hy3, t3⟩ := hf 3 _ rfl
        obtain ⟨v4, y4, c4, _, t4⟩ := hf 4 _ rfl
        obtain ⟨l0, e0, _, _⟩ := DataW.trod_int Try.underlying3 t0
        obtain ⟨l1, e1, _, _⟩ := DataW.trod_int Try.underlying3 t1
        obtain ⟨l2, e2, _, _⟩ := DataW.trod_int Try.underlying3 t2
        obtain ⟨l4, e4, _⟩ := DataW.trod_bool Try.underlying4 t4
        simp at e0 e1 e2 e4
        subst e0 e1 e2 e4
        have W3 : ∀ z ∈ y3.1.weights Try.prog 34, z ≤ reachBytes := fun z hz => by
          apply hw
          simp only [DataW.weights, Try.underlying22]
          refine List.mem_cons_of_mem _ (List.mem_append.2 (.inl ?_))
          refine wAll_mem (d := D i) (List.mem_map.2 ⟨i, List.mem_range.2 hil, rfl⟩) z ?_
          rw [hD]
          simp only [DataW.weights, Try.underlying36]
          refine wEach_mem (j := 3) (t := 34) (d := y3.1) rfl ?_ z hz
          rw [List.getElem?_map, hy3]
          rfl
        have hv3 : ∃ a l c, v3 = .slice a l c := by
          rcases open_bools Try.underlying34 Try.underlying4 (by kernel_rfl) t3 with ⟨hcs, _⟩ | ⟨x, l, c, B, hcs, _⟩
          · simp at hcs; exact ⟨_, _, _, hcs⟩
          · simp at hcs; exact ⟨_, _, _, hcs⟩
        obtain ⟨a3, l3, c3', rfl⟩ := hv3
        obtain ⟨q, hq, hn⟩ := open_bs (d := y3.1) (p := y3.2) ⟨n, by simpa [Value.cells] using t3⟩ W3
        exact ⟨⟨l0, l1, l2, a3, l3, c3', q, l4⟩, fun _ => ⟨c0, c1, c2, c3, c4, hq, hn⟩⟩
      · exact ⟨default, fun h => absurd h hil⟩
    obtain ⟨g, hg⟩ := Classical.axiomOfChoice K0
    unfold maxLen at hm
    refine ⟨g, ⟨by omega, ?_⟩⟩
    rcases Nat.eq_zero_or_pos len with h0 | h0
    · exact .inl h0
    · obtain ⟨b, off, spot⟩ := x
      have hspot : spot = none := by simpa [Addr.add] using World.cell?_spot (hg 0 h0).1
      subst hspot
      refine .inr ⟨b, off, rfl, ?_, fun i hil => ?_⟩
      · have := cell_lt (hg 0 h0).1
        simpa [Addr.add] using this
      · obtain ⟨c0, c1, c2, c3, c4, c5, c6⟩ := hg i hil
        rw [add_plain, ← Nat.add_assoc] at c0 c1 c2 c3 c4
        exact ⟨c0, c1, c2, c3, c4, c5, c6⟩
end Go.Proofs.Ytoafoikphpdimaa
