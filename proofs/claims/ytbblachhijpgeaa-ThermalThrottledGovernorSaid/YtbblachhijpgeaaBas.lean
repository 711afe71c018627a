/- Slices of structs of three numbers of one kind: as cells, as arguments, made by append. -/
import Derived.Test.YtbblachhijpgeaaGen
namespace Go.Proofs.Ytbblachhijpgeaa
open Go.ChangeShapes Go.WideShapes Go.ChangeAt Go.RowKit Go.Deep Go.Joins

structure St where
  a : Int
  b : Int
  c : Int
def Wf (K : IntKind) (x : Int) : Prop := (Lit.int K x).wf = true
theorem wf_u64 {x : Int} (h : Wf .u64 x) : 0 ≤ x ∧ x < 18446744073709551616 := by
  have := bounds_u64 h
  omega
theorem wf_i64 {x : Int} (h : Wf .i64 x) : -9223372036854775808 ≤ x ∧ x ≤ 9223372036854775807 := bounds_i64 h
theorem wf_u64_mk {x : Int} (h : 0 ≤ x ∧ x < 18446744073709551616) : Wf .u64 x := by
  unfold Wf
  simp [Lit.wf, IntKind.min, IntKind.max, IntKind.signed, IntKind.bits]
  omega
theorem wf_i64_mk {x : Int} (h : -9223372036854775808 ≤ x ∧ x ≤ 9223372036854775807) : Wf .i64 x := WalkArith.wf_i64 (by omega)
def WfS (K : IntKind) (s : St) : Prop := Wf K s.a ∧ Wf K s.b ∧ Wf K s.c
/-- The cells of a slice of triples. -/
def Sts (K : IntKind) (w : World) (b off n : Nat) (f : Nat → St) : Prop :=
  ∀ i, i < n → w.cell? ⟨b, off + i * 3, none⟩ = some (.int K (f i).a) ∧ w.cell? ⟨b, off + i * 3 + 1, none⟩ = some (.int K (f i).b) ∧ w.cell? ⟨b, off + i * 3 + 2, none⟩ = some (.int K (f i).c)
/-- A slice of triples in a world: nil or empty, or a row of cells. -/
structure SlS (K : IntKind) (w : World) (A : Option Addr) (n : Nat) (f : Nat → St) : Prop where
  len : n ≤ 9223372036854775807
  row : n = 0 ∨ ∃ b off, A = some ⟨b, off, none⟩ ∧ b < w.heap.size ∧ Sts K w b off n f
  wf : ∀ i, i < n → WfS K (f i)
theorem SlS.below {K : IntKind} {w w' : World} {A : Option Addr} {n : Nat} {f : Nat → St} {B : Nat} (h : SlS K w A n f) (hb : Below B w w') (hB : w.heap.size ≤ B) : SlS K w' A n f := by
  refine ⟨h.len, ?_, h.wf⟩
  rcases h.row with h0 | ⟨b, off, hA, hlt, hc⟩
  · exact .inl h0
  · refine .inr ⟨b, off, hA, Nat.lt_of_lt_of_le hlt hb.size, fun i hi => ?_⟩
    obtain ⟨c0, c1, c2⟩ := hc i hi
    rw [← hb.cell (by show b < B; omega)] at c0 c1 c2
    exact ⟨c0, c1, c2⟩
section
variable {H : Type} {enc : TypeId × Value → H} {P : Program} {w : World} {base : Nat} {spare : Nat → Bool} {held : Bool}
theorem open_slice_fields {t e : TypeId} {fs : Array Field} {fuel : Nat} {cs : List Value} {x : DataW H × List MemPlace} (ht : P.underlying t = some (.slice e)) (he : P.underlying e = some (.struct fs))
    (hone : oneCellFields P fs = true) (hC : P.cellsOf e = fs.size) (h : DataW.trod enc P w base spare held fuel t cs = some x) :
    (cs = [.slice none 0 0] ∧ x = (.nil, [])) ∨
    ∃ (a : Addr) (len cap m : Nat) (D : Nat → DataW H) (Pl : Nat → List MemPlace), cs = [.slice (some a) len cap] ∧ base ≤ a.block ∧ len ≤ cap ∧ cap ≤ maxLen ∧ m = (if spare a.block then cap else len) ∧
      x = (.slice ((List.range len).map D) ((List.range (m - len)).map fun j => D (len + j)), MemPlace.row a (m * fs.size) ++ (List.range m).flatMap Pl) ∧
      ∀ i, i < m → ∃ (ys : List (DataW H × List MemPlace)) (n : Nat), D i = .agg (ys.map (·.1)) ∧ Pl i = ys.flatMap (·.2) ∧ ys.length = fs.size ∧
        ∀ (j : Nat) (f : Field), fs[j]? = some f → ∃ (v : Value) (y : DataW H × List MemPlace), w.cell? (a.add (i * fs.size + j)) = some v ∧ ys[j]? = some y ∧ DataW.trod enc P w base spare held n f.type [v] = some y := by
  rcases open_slice ht h with h0 | ⟨a, len, cap, m, n, D, Pl, hcs, hb, hl, hm, hmm, hx, hi⟩
  · exact .inl h0
  · refine .inr ⟨a, len, cap, m, D, Pl, hcs, hb, hl, hm, hmm, by rw [hC] at hx; exact hx, fun i him => ?_⟩
    obtain ⟨cs', hc, ht'⟩ := hi i him
    rw [hC] at hc
    obtain ⟨ys, n', hn', hy, hlen, hyl, hf⟩ := DataW.trod_struct he ht'
    obtain ⟨_, hcl, hat⟩ := World.cells?_some hc
    simp only [Prod.mk.injEq] at hy
    refine ⟨ys, n', hy.1, hy.2, hyl, fun j f hj => ?_⟩
    obtain ⟨ho, hk⟩ := hone_of hone j f hj
    have hjl : j < fs.size := (Array.getElem?_eq_some_iff.1 hj).1
    have hcell := hat j hjl
    have hv : cs'[j]? = some (cs'[j]'(by omega)) := List.getElem?_eq_getElem (by omega)
    have h1 := hf j f hj
    rw [ho, hk] at h1
    have hone' : (cs'.drop j).take 1 = [cs'[j]'(by omega)] := by
      rw [List.drop_eq_getElem_cons (by omega)]
      rfl
    rw [hone'] at h1
    have hys : ys[j]? = some (ys[j]'(by omega)) := List.getElem?_eq_getElem (by omega)
    refine ⟨_, _, ?_, hys, h1.trans hys⟩
    rw [← Go.Deep.add_add, hcell, hv]
end
theorem open_sls {K : IntKind} {t e t0 t1 t2 : TypeId} {n0 n1 n2 : Field} {H : Type} {enc : TypeId × Value → H} {w : World} {a : Option Addr} {len cap : Nat} {d : DataW H} {p : List MemPlace}
    (ht : Try.prog.underlying t = some (.slice e)) (he : Try.prog.underlying e = some (.struct #[n0, n1, n2])) (hone : oneCellFields Try.prog #[n0, n1, n2] = true) (hC : Try.prog.cellsOf e = 3)
    (e0 : n0.type = t0) (e1 : n1.type = t1) (e2 : n2.type = t2) (u0 : Try.prog.underlying t0 = some (.int K)) (u1 : Try.prog.underlying t1 = some (.int K)) (u2 : Try.prog.underlying t2 = some (.int K))
    (h : DataW.Trod enc Try.prog w 0 (fun _ => true) true t (.slice a len cap) d p) : ∃ g, SlS K w a len g ∧ len ≤ cap ∧ cap ≤ 9223372036854775807 ∧ (a = none → cap = 0) := by
  obtain ⟨fuel, hf⟩ := h
  rcases open_slice_fields ht he hone hC hf with ⟨hcs, _⟩ | ⟨x, l, c, m, D, Pl, hcs, _, hl, hm, hmm, _, hi⟩
  · simp [Value.cells] at hcs
    obtain ⟨rfl, rfl, rfl⟩ := hcs
    exact ⟨fun _ => ⟨0, 0, 0⟩, ⟨by omega, .inl rfl, fun i hi => by omega⟩, by omega, by omega, fun _ => rfl⟩
  · simp [Value.cells] at hcs
    obtain ⟨rfl, rfl, rfl⟩ := hcs
    have hmm : m = cap := by simpa using hmm
    subst hmm
    have K0 : ∀ i, ∃ s : St, i < len → w.cell? (x.add (i * 3 + 0)) = some (.int K s.a) ∧ w.cell? (x.add (i * 3 + 1)) = some (.int K s.b) ∧ w.cell? (x.add (i * 3 + 2)) = some (.int K s.c) ∧ WfS K s := by
      intro i
      by_cases hil : i < len
      · obtain ⟨ys, n, _, _, _, hf⟩ := hi i (by omega)
        obtain ⟨v0, y0, c0, _, t0⟩ := hf 0 _ rfl
        obtain ⟨v1, y1, c1, _, t1⟩ := hf 1 _ rfl
        obtain ⟨v2, y2, c2, _, t2⟩ := hf 2 _ rfl
        have U0 : Try.prog.underlying n0.type = some (.int K) := by rw [e0]; exact u0
        have U1 : Try.prog.underlying n1.type = some (.int K) := by rw [e1]; exact u1
        have U2 : Try.prog.underlying n2.type = some (.int K) := by rw [e2]; exact u2
        obtain ⟨l0, e0, _, w0⟩ := DataW.trod_int U0 t0
        obtain ⟨l1, e1, _, w1⟩ := DataW.trod_int U1 t1
        obtain ⟨l2, e2, _, w2⟩ := DataW.trod_int U2 t2
        simp at e0 e1 e2
        subst e0 e1 e2
        exact ⟨⟨l0, l1, l2⟩, fun _ => ⟨c0, c1, c2, w0, w1, w2⟩⟩
      · exact ⟨⟨0, 0, 0⟩, fun h => absurd h hil⟩
    have K2 := Classical.axiomOfChoice K0
    obtain ⟨g, hg⟩ := K2
    unfold maxLen at hm
    refine ⟨g, ⟨by omega, ?_, fun i hil => (hg i hil).2.2.2⟩, hl, by omega, fun h => by cases h⟩
    rcases Nat.eq_zero_or_pos len with h0 | h0
    · exact .inl h0
    · obtain ⟨b, off, spot⟩ := x
      have hspot : spot = none := by simpa [Addr.add] using World.cell?_spot (hg 0 h0).1
      subst hspot
      refine .inr ⟨b, off, rfl, ?_, fun i hil => ?_⟩
      · have := cell_lt (hg 0 h0).1
        simpa [Addr.add] using this
      · obtain ⟨c0, c1, c2, _⟩ := hg i hil
        rw [add_plain] at c0 c1 c2
        exact ⟨c0, by rw [← Nat.add_assoc] at c1; exact c1, by rw [← Nat.add_assoc] at c2; exact c2⟩
theorem open_actors {H : Type} {enc : TypeId × Value → H} {w : World} {a : Option Addr} {len cap : Nat} {d : DataW H} {p : List MemPlace}
    (h : DataW.Trod enc Try.prog w 0 (fun _ => true) true 53 (.slice a len cap) d p) : ∃ g, SlS .u64 w a len g ∧ len ≤ cap ∧ cap ≤ 9223372036854775807 ∧ (a = none → cap = 0) :=
  open_sls Try.underlying53 Try.underlying77 (by kernel_rfl) (by kernel_rfl) rfl rfl rfl Try.underlying31 Try.underlying31 Try.underlying31 h
theorem open_trips {H : Type} {enc : TypeId × Value → H} {w : World} {a : Option Addr} {len cap : Nat} {d : DataW H} {p : List MemPlace}
    (h : DataW.Trod enc Try.prog w 0 (fun _ => true) true 49 (.slice a len cap) d p) : ∃ g, SlS .i64 w a len g ∧ len ≤ cap ∧ cap ≤ 9223372036854775807 ∧ (a = none → cap = 0) :=
  open_sls Try.underlying49 Try.underlying48 (by kernel_rfl) (by kernel_rfl) rfl rfl rfl Try.underlying3 Try.underlying2 Try.underlying2 h
theorem open_points {H : Type} {enc : TypeId × Value → H} {w : World} {a : Option Addr} {len cap : Nat} {d : DataW H} {p : List MemPlace}
    (h : DataW.Trod enc Try.prog w 0 (fun _ => true) true 60 (.slice a len cap) d p) : ∃ g, SlS .u64 w a len g ∧ len ≤ cap ∧ cap ≤ 9223372036854775807 ∧ (a = none → cap = 0) :=
  open_sls Try.underlying60 Try.underlying73 (by kernel_rfl) (by kernel_rfl) rfl rfl rfl Try.underlying31 Try.underlying31 Try.underlying31 h
/-- A row of triples as cells. -/
def cellOf (K : IntKind) (F : Nat → St) (j : Nat) : Value := .int K (if j % 3 = 0 then (F (j / 3)).a else if j % 3 = 1 then (F (j / 3)).b else (F (j / 3)).c)
theorem cellOf_0 (K : IntKind) (F : Nat → St) (i : Nat) : cellOf K F (i * 3) = .int K (F i).a := by simp [cellOf]
theorem cellOf_1 (K : IntKind) (F : Nat → St) (i : Nat) : cellOf K F (i * 3 + 1) = .int K (F i).b := by
  unfold cellOf
  rw [if_neg (by omega), if_pos (by omega), show (i * 3 + 1) / 3 = i from by omega]
theorem cellOf_2 (K : IntKind) (F : Nat → St) (i : Nat) : cellOf K F (i * 3 + 2) = .int K (F i).c := by
  unfold cellOf
  rw [if_neg (by omega), if_neg (by omega), show (i * 3 + 2) / 3 = i from by omega]
def newsL (K : IntKind) (f : Nat → St) (n : Nat) : List Value := (List.range (n * 3)).map (cellOf K f)
theorem newsL_len (K : IntKind) (f : Nat → St) (n : Nat) : (newsL K f n).length = n * 3 := by simp [newsL]
theorem newsL_get (K : IntKind) (f : Nat → St) (n j : Nat) (u : Value) : (newsL K f n)[j]? = some u ↔ j < n * 3 ∧ u = cellOf K f j := by
  unfold newsL
  rw [List.getElem?_map]
  by_cases h : j < n * 3
  · rw [List.getElem?_range h]; simp [h, eq_comm]
  · rw [List.getElem?_eq_none (by simpa using h)]; simp [h]
theorem newsL_one (K : IntKind) (f : Nat → St) (n : Nat) (u : Value) (hu : u ∈ newsL K f n) : u.oneCell' = true := by
  obtain ⟨j, hj, rfl⟩ := List.mem_map.1 hu
  rfl
theorem newsL_succ (K : IntKind) (f : Nat → St) (k : Nat) : newsL K f (k + 1) = newsL K f k ++ [.int K (f k).a, .int K (f k).b, .int K (f k).c] := by
  unfold newsL
  rw [show (k + 1) * 3 = k * 3 + 1 + 1 + 1 from by omega, List.range_succ, List.range_succ, List.range_succ]
  simp only [List.map_append, List.map_cons, List.map_nil, List.append_assoc, List.cons_append, List.nil_append]
  rw [cellOf_0, cellOf_1, cellOf_2]
/-- The slice that was made by append is a slice of triples. -/
theorem sls_of_own {K : IntKind} {w : World} {base e n : Nat} {v : Value} {f : Nat → St} (h : w.ownsRow base e 3 v n (newsL K f n)) (hn2 : n ≤ 9223372036854775807) (hw : ∀ i, i < n → WfS K (f i)) :
    ∃ A cap, v = .slice A n cap ∧ SlS K w A n f ∧ n ≤ cap ∧ ∀ g, v.ownBlock = some g → A = some ⟨g, 0, none⟩ ∧ base ≤ g ∧ g < w.heap.size ∧ ∀ k, w.frozen? ⟨g, k, none⟩ = false := by
  obtain ⟨hl, ⟨rfl, rfl⟩ | ⟨g, cap, cur, rfl, hb, hh, hnc, hcm, hcs, ht⟩⟩ := h
  · exact ⟨none, 0, rfl, ⟨by omega, .inl rfl, fun i hi => by omega⟩, by omega, fun g hg => by cases hg⟩
  · have hlt := blk_lt hh
    refine ⟨_, cap, rfl, ⟨hn2, .inr ⟨g, 0, rfl, hlt, fun i hi => ?_⟩, hw⟩, hnc, fun g' hg' => ?_⟩
    · have hc : ∀ j, j < n * 3 → w.cell? ⟨g, j, none⟩ = some (cellOf K f j) := fun j hj => by
        have h1 : (newsL K f n)[j]? = some (cellOf K f j) := (newsL_get K f n j _).2 ⟨hj, rfl⟩
        rw [← ht, List.getElem?_take, if_pos hj] at h1
        unfold World.cell?
        simp only [hh]
        simpa using h1
      have c0 := hc (i * 3) (by omega)
      have c1 := hc (i * 3 + 1) (by omega)
      have c2 := hc (i * 3 + 2) (by omega)
      rw [cellOf_0] at c0
      rw [cellOf_1] at c1
      rw [cellOf_2] at c2
      simpa using And.intro c0 (And.intro c1 c2)
    · injection hg' with hg'
      subst hg'
      exact ⟨rfl, hb, hlt, fun k => by simp [World.frozen?, hh]⟩
theorem box3 (K : IntKind) (t : TypeId) (w : World) (x y z : Int) :
    (w.alloc (Obj.cells #[Value.int K x, Value.int K y, Value.int K z] t)).cell? ⟨w.heap.size, 0, none⟩ = some (.int K x) ∧
    (w.alloc (Obj.cells #[Value.int K x, Value.int K y, Value.int K z] t)).cell? ⟨w.heap.size, 1, none⟩ = some (.int K y) ∧
    (w.alloc (Obj.cells #[Value.int K x, Value.int K y, Value.int K z] t)).cell? ⟨w.heap.size, 2, none⟩ = some (.int K z) := by
  refine ⟨?_, ?_, ?_⟩ <;> simp [go_sem]
theorem news3 (K : IntKind) (t : TypeId) (w : World) (x y z : Int) (j : Nat) (u : Value) (h : [Value.int K x, .int K y, .int K z][j]? = some u) :
    (w.alloc (Obj.cells #[.int K x, .int K y, .int K z] t)).cell? (Addr.add ⟨w.heap.size, 0, none⟩ j) = some u := by
  obtain ⟨a, b, c⟩ := box3 K t w x y z
  match j, h with
  | 0, h => simp at h; subst h; exact a
  | 1, h => simp at h; subst h; exact b
  | 2, h => simp at h; subst h; exact c
theorem one3 (K : IntKind) (x y z : Int) (u : Value) (h : u ∈ [Value.int K x, .int K y, .int K z]) : u.oneCell' = true := by
  simp at h
  rcases h with rfl | rfl | rfl <;> rfl
theorem mod_any (v : Int) (n : Nat) (hn : 1 ≤ n) (hn2 : n ≤ 1000000) (w : World) : Calls Try.prog 14 #[.int .i64 v, .int .i64 n] w fun e w' => e = .returned (.int .i64 (modOf v n : Nat)) ∧ w = w' := by
  have E := Lib.hid (modOf_spec v n hn hn2)
  go_enter Try.func14, Try.ntmps14
  go_wp2
  go_ret
  exact ⟨congrArg (fun x => Ending.returned (.int .i64 x)) E.out.1, rfl⟩
end Go.Proofs.Ytbblachhijpgeaa
