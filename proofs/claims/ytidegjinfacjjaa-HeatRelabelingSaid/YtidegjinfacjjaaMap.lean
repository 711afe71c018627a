/- The map of pairs that valid makes. -/
import Derived.Test.YtidegjinfacjjaaMdl
import Derived.Maps.Own
import Derived.DeepKeys4
namespace Go.Proofs.Ytidegjinfacjjaa
open Go.ChangeShapes Go.WideShapes Go.ChangeAt Go.RowKit Go.Deep Go.Joins Go.Maps
theorem pk : Keyed Try.prog 76 := Keyed.of_law (deep_law_laid (m := 2) (by kernel_rfl) (by omega) (of_decide_eq_true (by kernel_rfl)) (by kernel_rfl) (by kernel_rfl))
def pv (a b : Int) : Value := .agg #[.int .i64 a, .int .i64 b]
theorem pv_inj {a b c d : Int} (h : pv a b = pv c d) : a = c ∧ b = d := by
  unfold pv at h
  injection h with h
  simpa using h
theorem kl_int (d : Nat) (a : Int) (ha : (Lit.int .i64 a).wf = true) : Try.prog.keyLits (d + 1) 3 [Value.int IntKind.i64 a] = some [.int .i64 a] := by
  unfold Program.keyLits
  rw [Try.underlying3]
  simp [ha]
theorem pk_key (a b : Int) (ha : (Lit.int .i64 a).wf = true) (hb : (Lit.int .i64 b).wf = true) : ∃ kl, keyOf Try.prog 76 (pv a b) = some kl := by
  unfold keyOf
  rw [Try.underlying76]
  have k1 : Try.prog.keyType 76 = true := by kernel_rfl
  have k2 : (pv a b).formed Try.prog 76 = true := by kernel_rfl
  rw [k1, k2]
  have c76 : Try.prog.cellsOf 76 = 2 := by kernel_rfl
  have c3 : Try.prog.cellsOf 3 = 1 := by kernel_rfl
  have k3 : Try.prog.keyLits (Try.prog.types.size + 1) 76 (pv a b).cells.toList = some [.int .i64 a, .int .i64 b] := by
    unfold Program.keyLits
    rw [Try.underlying76]
    simp [pv, Value.cells, c76, c3, kl_int _ a ha, kl_int _ b hb]
  exact ⟨_, by rw [k3]; rfl⟩
/-- A map that holds the pairs of S, each with true. -/
def Pm (w : World) (b : Nat) (S : List (Int × Int)) : Prop := ∃ es clock, w.heap[b]? = some (.map es clock) ∧ WideElems.Fit (H := Unit) Try.prog 76 (plainElem Try.prog 4) es clock ∧ es.size ≤ S.length ∧ ∀ x ∈ es.toList, ∃ p ∈ S, x.key = pv p.1 p.2
theorem Pm.lt {w : World} {b : Nat} {S : List (Int × Int)} (h : Pm w b S) : b < w.heap.size := by
  obtain ⟨es, clock, hb, _⟩ := h
  exact (Array.getElem?_eq_some_iff.1 hb).1
theorem Pm.chg {T : Nat → Prop} {w w' : World} {b : Nat} {S : List (Int × Int)} (h : Pm w b S) (hc : Chg T w w') (hn : ¬ T b) : Pm w' b S := by
  have hlt := h.lt
  obtain ⟨es, clock, hb, r⟩ := h
  exact ⟨es, clock, (hc.block b hlt hn).trans hb, r⟩
theorem pm_made (w : World) : Pm (w.alloc (.map #[] 0)) w.heap.size [] :=
  ⟨#[], 0, (MapKept.heap_alloc w _).1, ⟨by simp, MapKept.stamped_empty 0, by simp⟩, Nat.le_refl _, by simp⟩
/-- A pair that is not there. -/
theorem Pm.miss {w : World} {b : Nat} {S : List (Int × Int)} (h : Pm w b S) (x y : Int) (hx : (Lit.int .i64 x).wf = true) (hy : (Lit.int .i64 y).wf = true) (hno : ∀ p ∈ S, p ≠ (x, y)) :
    (Instr.lookup 74 (.map (some b)) (pv x y) false).run Try.prog w = .ok (.bool false) w := by
  obtain ⟨es, clock, hb, F, hs, hk⟩ := h
  obtain ⟨kl, hkl⟩ := pk_key x y hx hy
  have hz : (zeroValue 4).run Try.prog w = .ok (.bool false) w := by kernel_rfl
  rcases fit_look false pk Try.underlying74 hz hb F hkl with ⟨hrun, _, _⟩ | ⟨e0, yy, hm, he, _⟩
  · exact hrun
  · obtain ⟨p, hp, e⟩ := hk e0 hm
    rw [he] at e
    obtain ⟨e1, e2⟩ := pv_inj e
    exact absurd (Prod.ext e1.symm e2.symm) (hno p hp)
theorem Pm.put {w : World} {b : Nat} {S : List (Int × Int)} (h : Pm w b S) (x y : Int) (hx : (Lit.int .i64 x).wf = true) (hy : (Lit.int .i64 y).wf = true) (hl : S.length ≤ 100000) :
    ∃ w', (Instr.mapUpdate 74 (.map (some b)) (pv x y) (.bool true)).run Try.prog w = .ok () w' ∧ Pm w' b ((x, y) :: S) ∧ Chg (fun k => k = b) w w' := by
  obtain ⟨es, clock, hb, F, hs, hk⟩ := h
  obtain ⟨kl, hkl⟩ := pk_key x y hx hy
  obtain ⟨es', clock', hrun, F', hput, _, _, hor⟩ := fit_store (R' := plainElem Try.prog 4) pk Try.underlying74 hb F (by unfold maxLen; omega) (fun _ _ _ _ hz => hz) hkl (plainElem_bool (H := Unit) Try.underlying4 true)
  refine ⟨_, hrun, ⟨es', clock', ChangeMaps.heap_setBlock_same hb _, F', ?_, fun x' hx' => ?_⟩, ⟨rfl, rfl, rfl, by simp [ChangeMaps.setBlock], fun i _ hi => ChangeMaps.heap_setBlock_other hb _ (fun e => hi e)⟩⟩
  · have e1 : es'.size = ((es'.toList.map (WideElems.rg Try.prog 76 (plainElem (H := Unit) Try.prog 4))).foldr DataW.insert []).length := by rw [length_sorted]; simp
    rw [e1, hput]
    unfold ChangeMaps.putKey
    rw [length_insert]
    have e2 := List.length_filter_le (ChangeMaps.notKey kl) ((es.toList.map (WideElems.rg Try.prog 76 (plainElem (H := Unit) Try.prog 4))).foldr DataW.insert [])
    rw [length_sorted] at e2
    simp at e2
    show _ ≤ S.length + 1
    omega
  · rcases hor x' hx' with ⟨hm, _⟩ | ⟨he, _⟩
    · obtain ⟨p, hp, e⟩ := hk x' hm
      exact ⟨p, List.mem_cons_of_mem _ hp, e⟩
    · exact ⟨(x, y), List.mem_cons_self, he⟩
end Go.Proofs.Ytidegjinfacjjaa
