/- Slices of structs of three numbers: as cells, as arguments, made by append. Shared by the texts of this seat. -/
import Derived.Test.YtfmaadfccnjnjaaRows
import Derived.WalkKit
import Derived.WalkSpells
import Derived.WalkLawsBesides
import Derived.WalkSmall
import Derived.Lib.Hide
import Derived.Deep.QuietTactic
import Derived.BigQuiet
import Derived.ProofKit
import Derived.OpenShut
import Derived.ShutString
import Derived.ChangeOld
import Derived.Below
import Derived.Deep.Slices
import Derived.Deep.Fields
import Derived.ChangeSame
import Derived.Lib.SmallJoins
import Derived.Deep.OwnRows
import Derived.OwnWalk
import Derived.Outline
import Derived.StillTailTactics
import Derived.Deep.RegionWith
import Derived.Deep.DeepCutAuto
namespace Go.Proofs.Ytfmaadfccnjnjaa
open Go.ChangeShapes Go.WideShapes Go.ChangeAt Go.RowKit Go.Deep Go.Joins

/-- One state: latency, residency, power. -/
structure St where
  l : Int
  r : Int
  p : Int
/-- The cells of a slice of states. -/
def Sts (w : World) (b off n : Nat) (f : Nat → St) : Prop :=
  ∀ i, i < n → w.cell? ⟨b, off + i * 3, none⟩ = some (.int .u64 (f i).l) ∧ w.cell? ⟨b, off + i * 3 + 1, none⟩ = some (.int .u64 (f i).r) ∧ w.cell? ⟨b, off + i * 3 + 2, none⟩ = some (.int .u64 (f i).p)
def U64 (x : Int) : Prop := 0 ≤ x ∧ x < 18446744073709551616
theorem box3 (w : World) (x y z : Int) :
    (w.alloc (Obj.cells #[Value.int IntKind.u64 x, Value.int IntKind.u64 y, Value.int IntKind.u64 z] 25)).cell? ⟨w.heap.size, 0, none⟩ = some (.int .u64 x) ∧
    (w.alloc (Obj.cells #[Value.int IntKind.u64 x, Value.int IntKind.u64 y, Value.int IntKind.u64 z] 25)).cell? ⟨w.heap.size, 1, none⟩ = some (.int .u64 y) ∧
    (w.alloc (Obj.cells #[Value.int IntKind.u64 x, Value.int IntKind.u64 y, Value.int IntKind.u64 z] 25)).cell? ⟨w.heap.size, 2, none⟩ = some (.int .u64 z) := by
  refine ⟨?_, ?_, ?_⟩ <;> simp [go_sem]
/-- A slice of states in a world: nil or empty, or a row of cells. -/
structure SlS (w : World) (A : Option Addr) (n : Nat) (f : Nat → St) : Prop where
  len : n ≤ 9223372036854775807
  row : n = 0 ∨ ∃ b off, A = some ⟨b, off, none⟩ ∧ b < w.heap.size ∧ Sts w b off n f
  wf : ∀ i, i < n → U64 (f i).l ∧ U64 (f i).r ∧ U64 (f i).p
theorem SlS.below {w w' : World} {A : Option Addr} {n : Nat} {f : Nat → St} {B : Nat} (h : SlS w A n f) (hb : Below B w w') (hB : w.heap.size ≤ B) : SlS w' A n f := by
  refine ⟨h.len, ?_, h.wf⟩
  rcases h.row with h0 | ⟨b, off, hA, hlt, hc⟩
  · exact .inl h0
  · refine .inr ⟨b, off, hA, Nat.lt_of_lt_of_le hlt hb.size, fun i hi => ?_⟩
    obtain ⟨c0, c1, c2⟩ := hc i hi
    rw [← hb.cell (by show b < B; omega)] at c0 c1 c2
    exact ⟨c0, c1, c2⟩
section
variable {H : Type} {enc : TypeId × Value → H} {P : Program} {w : World} {base : Nat} {spare : Nat → Bool} {held : Bool}
theorem open_slice_fields {t e : TypeId} {fs : Array Field} {fuel : Nat} {cs : List Value} {x : DataW H × List MemPlace} (ht : P.underlying t = some (.slice e)) (he : P.underlying e = some (.struct fs))
    (hone : oneCellFields P fs = true) (hC : P.cellsOf e = fs.size) (h : DataW.trod enc P w base spare held fuel t cs = some x) :
    (cs = [.slice none 0 0] ∧ x = (.nil, [])) ∨
    ∃ (a : Addr) (len cap m : Nat) (D : Nat → DataW H) (Pl : Nat → List MemPlace), cs = [.slice (some a) len cap] ∧ base ≤ a.block ∧ len ≤ cap ∧ cap ≤ maxLen ∧ m = (if spare a.block then cap else len) ∧
      x = (.slice ((List.range len).map D) ((List.range (m - len)).map fun j => D (len + j)), MemPlace.row a (m * fs.size) ++ (List.range m).flatMap Pl) ∧
      ∀ i, i < m → ∃ (ys : List (DataW H × List MemPlace)) (n : Nat), D i = .agg (ys.map (·.1)) ∧ Pl i = ys.flatMap (·.2) ∧ ys.length = fs.size ∧
        ∀ (j : Nat) (f : Field), fs[j]? = some f → ∃ (v : Value) (y : DataW H × List MemPlace), w.cell? (a.add (i * fs.size + j)) = some v ∧ ys[j]? = some y ∧ DataW.trod enc P w base spare held n f.type [v] = some y := by
  rcases open_slice ht h with h0 | ⟨a, len, cap, m, n, D, Pl, hcs, hb, hl, hm, hmm, hx, hi⟩
  · exact .inl h0
  · refine .inr ⟨a, len, cap, m, D, Pl, hcs, hb, hl, hm, hmm, by rw [hC] at hx; exact hx, fun i him => ?_⟩
    obtain ⟨cs', hc, ht'⟩ := hi i him
    rw [hC] at hc
    obtain ⟨ys, n', hn', hy, hlen, hyl, hf⟩ := DataW.trod_struct he ht'
    obtain ⟨_, hcl, hat⟩ := World.cells?_some hc
    simp only [Prod.mk.injEq] at hy
    refine ⟨ys, n', hy.1, hy.2, hyl, fun j f hj => ?_⟩
    obtain ⟨ho, hk⟩ := hone_of hone j f hj
    have hjl : j < fs.size := (Array.getElem?_eq_some_iff.1 hj).1
    have hcell := hat j hjl
    have hv : cs'[j]? = some (cs'[j]'(by omega)) := List.getElem?_eq_getElem (by omega)
    have h1 := hf j f hj
    rw [ho, hk] at h1
    have hone' : (cs'.drop j).take 1 = [cs'[j]'(by omega)] := by
      rw [List.drop_eq_getElem_cons (by omega)]
      rfl
    rw [hone'] at h1
    have hys : ys[j]? = some (ys[j]'(by omega)) := List.getElem?_eq_getElem (by omega)
    refine ⟨_, _, ?_, hys, h1.trans hys⟩
    rw [← Go.Deep.add_add, hcell, hv]
end
theorem cell_lt {w : World} {a : Addr} {v : Value} (h : w.cell? a = some v) : a.block < w.heap.size := by
  rcases Nat.lt_or_ge a.block w.heap.size with h1 | h1
  · exact h1
  · unfold World.cell? at h
    rw [Array.getElem?_eq_none h1] at h
    cases h
theorem u64_of_wf {n : Int} (h : (Lit.int .u64 n).wf = true) : U64 n := by
  unfold U64
  have := bounds_u64 h
  omega
theorem open_sts {H : Type} {enc : TypeId × Value → H} {w : World} {a : Option Addr} {len cap : Nat} {d : DataW H} {p : List MemPlace}
    (h : DataW.Trod enc Try.prog w 0 (fun _ => true) true 22 (.slice a len cap) d p) : ∃ g, SlS w a len g := by
  obtain ⟨fuel, hf⟩ := h
  rcases open_slice_fields Try.underlying22 Try.underlying25 (by kernel_rfl) (by kernel_rfl) hf with ⟨hcs, _⟩ | ⟨x, l, c, m, D, Pl, hcs, _, hl, hm, hmm, _, hi⟩
  · simp [Value.cells] at hcs
    obtain ⟨rfl, rfl, rfl⟩ := hcs
    exact ⟨fun _ => ⟨0, 0, 0⟩, by omega, .inl rfl, fun i hi => by omega⟩
  · simp [Value.cells] at hcs
    obtain ⟨rfl, rfl, rfl⟩ := hcs
    have hmm : m = cap := by simpa using hmm
    subst hmm
    have K : ∀ i, ∃ s : St, i < len → w.cell? (x.add (i * 3 + 0)) = some (.int .u64 s.l) ∧ w.cell? (x.add (i * 3 + 1)) = some (.int .u64 s.r) ∧ w.cell? (x.add (i * 3 + 2)) = some (.int .u64 s.p) ∧ U64 s.l ∧ U64 s.r ∧ U64 s.p := by
      intro i
      by_cases hil : i < len
      · obtain ⟨ys, n, _, _, _, hf⟩ := hi i (by omega)
        obtain ⟨v0, y0, c0, _, t0⟩ := hf 0 _ rfl
        obtain ⟨v1, y1, c1, _, t1⟩ := hf 1 _ rfl
        obtain ⟨v2, y2, c2, _, t2⟩ := hf 2 _ rfl
        obtain ⟨l0, e0, _, u0⟩ := DataW.trod_int Try.underlying23 t0
        obtain ⟨l1, e1, _, u1⟩ := DataW.trod_int Try.underlying23 t1
        obtain ⟨l2, e2, _, u2⟩ := DataW.trod_int Try.underlying23 t2
        simp at e0 e1 e2
        subst e0 e1 e2
        exact ⟨⟨l0, l1, l2⟩, fun _ => ⟨c0, c1, c2, u64_of_wf u0, u64_of_wf u1, u64_of_wf u2⟩⟩
      · exact ⟨⟨0, 0, 0⟩, fun h => absurd h hil⟩
    have K2 := Classical.axiomOfChoice K
    obtain ⟨g, hg⟩ := K2
    refine ⟨g, by unfold maxLen at hm; omega, ?_, fun i hil => (hg i hil).2.2.2⟩
    rcases Nat.eq_zero_or_pos len with h0 | h0
    · exact .inl h0
    · obtain ⟨b, off, spot⟩ := x
      have hspot : spot = none := by simpa [Addr.add] using World.cell?_spot (hg 0 h0).1
      subst hspot
      refine .inr ⟨b, off, rfl, ?_, fun i hil => ?_⟩
      · have := cell_lt (hg 0 h0).1
        simpa [Addr.add] using this
      · obtain ⟨c0, c1, c2, _⟩ := hg i hil
        rw [add_plain] at c0 c1 c2
        exact ⟨c0, by rw [← Nat.add_assoc] at c1; exact c1, by rw [← Nat.add_assoc] at c2; exact c2⟩
theorem open_st {H : Type} {enc : TypeId × Value → H} {w : World} {r : Reach} {b0 : Nat} {v : Value} {d : DataW H} {p : List MemPlace}
    (hv : Value.okWide Try.prog w r b0 25 v) (h : DataW.Trod enc Try.prog w 0 (fun _ => true) true 25 v d p) :
    ∃ X : St, v = .agg #[.int .u64 X.l, .int .u64 X.r, .int .u64 X.p] ∧ (U64 X.l ∧ U64 X.r ∧ U64 X.p) := by
  obtain ⟨v0, v1, v2, y0, y1, y2, n, rfl, _, _, t0, t1, t2⟩ := open_agg3 Try.underlying25 (by kernel_rfl) (by kernel_rfl) hv h
  obtain ⟨l0, e0, _, u0⟩ := DataW.trod_int Try.underlying23 t0
  obtain ⟨l1, e1, _, u1⟩ := DataW.trod_int Try.underlying23 t1
  obtain ⟨l2, e2, _, u2⟩ := DataW.trod_int Try.underlying23 t2
  simp at e0 e1 e2
  subst e0 e1 e2
  exact ⟨⟨l0, l1, l2⟩, rfl, u64_of_wf u0, u64_of_wf u1, u64_of_wf u2⟩
theorem SlS.cells {w : World} {G n : Nat} {f : Nat → St} (h : SlS w (some ⟨G, 0, none⟩) n f) {i : Nat} (hi : i < n) :
    w.cell? ⟨G, i * 3, none⟩ = some (.int .u64 (f i).l) ∧ w.cell? ⟨G, i * 3 + 1, none⟩ = some (.int .u64 (f i).r) ∧ w.cell? ⟨G, i * 3 + 2, none⟩ = some (.int .u64 (f i).p) := by
  rcases h.row with h0 | ⟨b, off, hA, _, hc⟩
  · omega
  · injection hA with hA
    injection hA with h1 h2
    subst h1 h2
    have := hc i hi
    simpa using this
theorem SlS.lt {w : World} {G n : Nat} {f : Nat → St} (h : SlS w (some ⟨G, 0, none⟩) n f) (hn : 1 ≤ n) : G < w.heap.size := by
  rcases h.row with h0 | ⟨b, off, hA, hb, _⟩
  · omega
  · injection hA with hA
    injection hA with h1 h2
    subst h1; exact hb
def LawPost (w : World) (e : Ending) (w' : World) : Prop := e = .returned (.bool true) ∧ Below w.heap.size w w'
/-- help.Mod at a positive modulus. -/
def modOf (v : Int) (n : Nat) : Nat := (wrap64 ((IntKind.u64.wrap v).tmod n)).toNat
theorem modOf_spec (v : Int) (n : Nat) (hn : 1 ≤ n) (hn2 : n ≤ 1000000) : wrap64 ((IntKind.u64.wrap v).tmod n) = (modOf v n : Nat) ∧ modOf v n < n := by
  have h0 : 0 ≤ IntKind.u64.wrap v := by rw [IntKind.wrap_u64]; omega
  have h1 : (IntKind.u64.wrap v).tmod n = (IntKind.u64.wrap v) % n := Int.tmod_eq_emod_of_nonneg h0
  have h2 : 0 ≤ (IntKind.u64.wrap v) % n := Int.emod_nonneg _ (by omega)
  have h3 : (IntKind.u64.wrap v) % n < n := Int.emod_lt_of_pos _ (by omega)
  have h4 : wrap64 ((IntKind.u64.wrap v).tmod n) = (IntKind.u64.wrap v) % n := by rw [h1]; exact IntWalk.wrap64_in _ (by omega)
  unfold modOf
  rw [h4]
  omega
theorem mod_any (v : Int) (n : Nat) (hn : 1 ≤ n) (hn2 : n ≤ 1000000) (w : World) : Calls Try.prog 14 #[.int .i64 v, .int .i64 n] w fun e w' => e = .returned (.int .i64 (modOf v n : Nat)) ∧ w = w' := by
  have E := Lib.hid (modOf_spec v n hn hn2)
  go_enter Try.func14, Try.ntmps14
  go_wp2
  go_ret
  exact ⟨congrArg (fun x => Ending.returned (.int .i64 x)) E.out.1, rfl⟩
theorem bel2 {w a b : World} (h : Below w.heap.size w a) (k : Below a.heap.size a b) : Below w.heap.size w b := h.trans (k.mono h.size)
theorem info25 : (Try.prog.info? 25).map (fun i => (i.zero, i.size, i.bytes)) = some (some (.agg #[.int .u64 0, .int .u64 0, .int .u64 0]), 3, 24) := by kernel_rfl
/-- A row of states as cells. -/
def cellOf (F : Nat → St) (j : Nat) : Value := .int .u64 (if j % 3 = 0 then (F (j / 3)).l else if j % 3 = 1 then (F (j / 3)).r else (F (j / 3)).p)
theorem cellOf_0 (F : Nat → St) (i : Nat) : cellOf F (i * 3) = .int .u64 (F i).l := by simp [cellOf]
theorem cellOf_1 (F : Nat → St) (i : Nat) : cellOf F (i * 3 + 1) = .int .u64 (F i).r := by
  unfold cellOf
  rw [if_neg (by omega), if_pos (by omega), show (i * 3 + 1) / 3 = i from by omega]
theorem cellOf_2 (F : Nat → St) (i : Nat) : cellOf F (i * 3 + 2) = .int .u64 (F i).p := by
  unfold cellOf
  rw [if_neg (by omega), if_neg (by omega), show (i * 3 + 2) / 3 = i from by omega]
theorem cellOf_congr {F G : Nat → St} {n : Nat} (h : ∀ i, i < n → F i = G i) (j : Nat) (hj : j < n * 3) : cellOf F j = cellOf G j := by
  unfold cellOf; rw [h (j / 3) (by omega)]
def newsL (f : Nat → St) (n : Nat) : List Value := (List.range (n * 3)).map (cellOf f)
theorem newsL_len (f : Nat → St) (n : Nat) : (newsL f n).length = n * 3 := by simp [newsL]
theorem newsL_get (f : Nat → St) (n j : Nat) (u : Value) : (newsL f n)[j]? = some u ↔ j < n * 3 ∧ u = cellOf f j := by
  unfold newsL
  rw [List.getElem?_map]
  by_cases h : j < n * 3
  · rw [List.getElem?_range h]; simp [h, eq_comm]
  · rw [List.getElem?_eq_none (by simpa using h)]; simp [h]
theorem sls_cell {w : World} {G n : Nat} {f : Nat → St} (h : SlS w (some ⟨G, 0, none⟩) n f) (j : Nat) (hj : j < n * 3) : w.cell? ⟨G, j, none⟩ = some (cellOf f j) := by
  obtain ⟨c0, c1, c2⟩ := h.cells (show j / 3 < n by omega)
  rcases (show j = j / 3 * 3 ∨ j = j / 3 * 3 + 1 ∨ j = j / 3 * 3 + 2 by omega) with e | e | e
  · rw [e, c0, cellOf_0]
  · rw [e, c1, cellOf_1]
  · rw [e, c2, cellOf_2]
theorem sls_news {w : World} {G n : Nat} {f : Nat → St} (h : SlS w (some ⟨G, 0, none⟩) n f) (j : Nat) (u : Value) (hu : (newsL f n)[j]? = some u) : w.cell? (Addr.add ⟨G, 0, none⟩ j) = some u := by
  obtain ⟨hj, rfl⟩ := (newsL_get f n j u).1 hu
  rw [add_plain, Nat.zero_add]
  exact sls_cell h j hj
theorem newsL_one (f : Nat → St) (n : Nat) (u : Value) (hu : u ∈ newsL f n) : u.oneCell' = true := by
  obtain ⟨j, hj, rfl⟩ := List.mem_map.1 hu
  rfl
theorem sls_make {w : World} {G n : Nat} {f : Nat → St} (hG : G < w.heap.size) (hn : n ≤ 9223372036854775807) (hw : ∀ i, i < n → U64 (f i).l ∧ U64 (f i).r ∧ U64 (f i).p)
    (hc : ∀ j, j < n * 3 → w.cell? ⟨G, j, none⟩ = some (cellOf f j)) : SlS w (some ⟨G, 0, none⟩) n f := by
  refine ⟨hn, .inr ⟨G, 0, rfl, hG, fun i hi => ?_⟩, hw⟩
  have c0 := hc (i * 3) (by omega)
  have c1 := hc (i * 3 + 1) (by omega)
  have c2 := hc (i * 3 + 2) (by omega)
  rw [cellOf_0] at c0
  rw [cellOf_1] at c1
  rw [cellOf_2] at c2
  simpa using And.intro c0 (And.intro c1 c2)
theorem sls_of_own {w : World} {base n : Nat} {v : Value} {f : Nat → St} (h : w.ownsRow base 25 3 v n (newsL f n)) (hn : 1 ≤ n) (hn2 : n ≤ 9223372036854775807) (hw : ∀ i, i < n → U64 (f i).l ∧ U64 (f i).r ∧ U64 (f i).p) :
    ∃ g cap, v = .slice (some ⟨g, 0, none⟩) n cap ∧ base ≤ g ∧ SlS w (some ⟨g, 0, none⟩) n f ∧ ∀ k, w.frozen? ⟨g, k, none⟩ = false := by
  obtain ⟨hl, h | ⟨g, cap, cur, rfl, hb, hh, hnc, hcm, hcs, ht⟩⟩ := h
  · omega
  · refine ⟨g, cap, rfl, hb, sls_make ?_ hn2 hw ?_, ?_⟩
    · exact cell_lt (a := ⟨g, 0, none⟩) (v := cur[0]'(by omega)) (by unfold World.cell?; simp [hh])
    · intro j hj
      have h1 : (newsL f n)[j]? = some (cellOf f j) := (newsL_get f n j _).2 ⟨hj, rfl⟩
      rw [← ht, List.getElem?_take, if_pos hj] at h1
      unfold World.cell?
      simp only [hh]
      simpa using h1
    · intro k
      simp [World.frozen?, hh]
def upd (f : Nat → St) (j : Nat) (X : St) (i : Nat) : St := if i = j then X else f i
def RowF (w : World) (G N : Nat) (φ : Nat → Value) : Prop := ∀ k, k < N → w.cell? ⟨G, k, none⟩ = some (φ k)
theorem RowF.set_ {w : World} {G N : Nat} {φ : Nat → Value} (h : RowF w G N φ) (a : Nat) (v : Value) : RowF (w.setCell ⟨G, a, none⟩ v) G N (fun k => if k = a then v else φ k) := by
  intro k hk
  by_cases e : k = a
  · subst e
    simp [World.cell?_setCell_same _ _ _ (h k hk)]
  · have : (⟨G, a, none⟩ : Addr) ≠ ⟨G, k, none⟩ := by intro h; injection h with _ h2; exact e h2.symm
    rw [World.cell?_setCell_other _ _ _ _ this, h k hk]
    simp [e]
theorem sls_set {w : World} {G n j : Nat} {f : Nat → St} (X : St) (h : SlS w (some ⟨G, 0, none⟩) n f) (hj : j < n) (hX : U64 X.l ∧ U64 X.r ∧ U64 X.p) :
    SlS (((w.setCell ⟨G, j * 3, none⟩ (.int .u64 X.l)).setCell ⟨G, j * 3 + 1, none⟩ (.int .u64 X.r)).setCell ⟨G, j * 3 + 2, none⟩ (.int .u64 X.p)) (some ⟨G, 0, none⟩) n (upd f j X) := by
  have hG := h.lt (by omega)
  refine sls_make (by simpa [World.setCell] using hG) h.len (fun i hi => ?_) (fun k hk => ?_)
  · unfold upd; split
    · exact hX
    · exact h.wf i hi
  · have c : RowF w G (n * 3) (cellOf f) := fun k hk => sls_cell h k hk
    rw [(((c.set_ (j * 3) (.int .u64 X.l)).set_ (j * 3 + 1) (.int .u64 X.r)).set_ (j * 3 + 2) (.int .u64 X.p)) k hk]
    congr 1
    show (if k = j * 3 + 2 then Value.int .u64 X.p else if k = j * 3 + 1 then Value.int .u64 X.r else if k = j * 3 then Value.int .u64 X.l else cellOf f k) = cellOf (upd f j X) k
    by_cases hkj : k / 3 = j
    · rcases (show k = j * 3 ∨ k = j * 3 + 1 ∨ k = j * 3 + 2 by omega) with e | e | e
      · rw [if_neg (by omega), if_neg (by omega), if_pos e, e, cellOf_0]; simp [upd]
      · rw [if_neg (by omega), if_pos e, e, cellOf_1]; simp [upd]
      · rw [if_pos e, e, cellOf_2]; simp [upd]
    · rw [if_neg (by omega), if_neg (by omega), if_neg (by omega)]
      unfold cellOf upd
      rw [if_neg hkj]
theorem idx0 (x y z : Value) (W : World) : (Instr.index 29 (.agg #[x, y, z]) (.int .i64 0)).run Try.prog W = .ok x W := by kernel_rfl
theorem idx1 (x y z : Value) (W : World) : (Instr.index 29 (.agg #[x, y, z]) (.int .i64 1)).run Try.prog W = .ok y W := by kernel_rfl
theorem idx2 (x y z : Value) (W : World) : (Instr.index 29 (.agg #[x, y, z]) (.int .i64 2)).run Try.prog W = .ok z W := by kernel_rfl
theorem box3' {w w1 : World} {x y z : Int} (h : Below (w.alloc (Obj.cells #[Value.int IntKind.u64 x, Value.int IntKind.u64 y, Value.int IntKind.u64 z] 25)).heap.size (w.alloc (Obj.cells #[Value.int IntKind.u64 x, Value.int IntKind.u64 y, Value.int IntKind.u64 z] 25)) w1) :
    w1.cell? ⟨w.heap.size, 0, none⟩ = some (.int .u64 x) ∧ w1.cell? ⟨w.heap.size, 1, none⟩ = some (.int .u64 y) ∧ w1.cell? ⟨w.heap.size, 2, none⟩ = some (.int .u64 z) := by
  obtain ⟨a, b, c⟩ := box3 w x y z
  exact ⟨(h.cell (by simp)).trans a, (h.cell (by simp)).trans b, (h.cell (by simp)).trans c⟩
theorem SlS.grown {w w' : World} {G n : Nat} {f : Nat → St} {b : Nat} (h : SlS w (some ⟨G, 0, none⟩) n f) (hg : w.grownBy w' (some b)) (hne : G ≠ b) : SlS w' (some ⟨G, 0, none⟩) n f := by
  refine ⟨h.len, ?_, h.wf⟩
  rcases h.row with h0 | ⟨b', off, hA, hlt, hc⟩
  · exact .inl h0
  · refine .inr ⟨b', off, hA, Nat.lt_of_lt_of_le hlt hg.size, fun i hi => ?_⟩
    have hb : b' = G := by injection hA with hA; injection hA with h1 _; exact h1.symm
    obtain ⟨c0, c1, c2⟩ := hc i hi
    have e : ∀ o, w'.cell? ⟨b', o, none⟩ = w.cell? ⟨b', o, none⟩ := fun o => World.cell?_of_block (hg.block b' hlt (fun x => by injection x with x; omega))
    rw [← e] at c0 c1 c2
    exact ⟨c0, c1, c2⟩
theorem bel_only {w a b : World} {g : Nat} (h : Below w.heap.size w a) (k : a.grownBy b (some g)) (hg : w.heap.size ≤ g) : Below w.heap.size w b :=
  h.grown k h.size (fun j hj => by injection hj with hj; omega)
theorem row_below {w w' : World} {b t n B : Nat} {φ : Nat → Value} (h : w.rowIs b t n φ) (hb : Below B w w') (hB : w.heap.size ≤ B) : w'.rowIs b t n φ :=
  h.of_block (hb.block b (Nat.lt_of_lt_of_le h.lt hB))
end Go.Proofs.Ytfmaadfccnjnjaa
