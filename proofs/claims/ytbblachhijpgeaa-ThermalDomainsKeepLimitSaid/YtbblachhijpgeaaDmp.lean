/- Several domains: the actors' block, the openers. -/
import Derived.Test.YtbblachhijpgeaaOne
import Derived.Test.YtbblachhijpgeaaFpu
import Derived.Test.YtbblachhijpgeaaHOpn
import Derived.Deep.Matrix
namespace Go.Proofs.Ytbblachhijpgeaa
open Go.ChangeShapes Go.WideShapes Go.ChangeAt Go.RowKit Go.Deep Go.Joins

/-- The actors' block. -/
structure AcS (w : World) (Q n : Nat) (f : Nat → St) : Prop where
  c0 : ∀ i, i < n → w.cell? ⟨Q, i * 3, none⟩ = some (.int .u64 (f i).a)
  c1 : ∀ i, i < n → w.cell? ⟨Q, i * 3 + 1, none⟩ = some (.int .u64 (f i).b)
  c2 : ∀ i, i < n → w.cell? ⟨Q, i * 3 + 2, none⟩ = some (.int .u64 (f i).c)
  fz : ∀ j, w.frozen? ⟨Q, j, none⟩ = false
  lt : Q < w.heap.size
theorem AcS.chg {S : Nat → Prop} {w w' : World} {Q n : Nat} {f : Nat → St} (h : AcS w Q n f) (hc : Chg S w w') (hn : ¬ S Q) : AcS w' Q n f := by
  have e := hc.block Q h.lt hn
  exact ⟨fun i hi => (blk_cell e _).trans (h.c0 i hi), fun i hi => (blk_cell e _).trans (h.c1 i hi), fun i hi => (blk_cell e _).trans (h.c2 i hi), fun j => (blk_frz e j).trans (h.fz j), Nat.lt_of_lt_of_le h.lt hc.size⟩
theorem AcS.below {w w' : World} {Q n : Nat} {f : Nat → St} (h : AcS w Q n f) (hb : Below w.heap.size w w') : AcS w' Q n f := h.chg (Chg.of_below hb (fun _ => False)) (fun x => x)
def putR (f : Nat → St) (i : Nat) (x : Int) : Nat → St := fun j => if j = i then ⟨x, (f j).b, (f j).c⟩ else f j
def putM (f : Nat → St) (i : Nat) (x : Int) : Nat → St := fun j => if j = i then ⟨(f j).a, (f j).b, x⟩ else f j
theorem AcS.setA {w : World} {Q n : Nat} {f : Nat → St} (h : AcS w Q n f) (i : Nat) (hi : i < n) (x : Int) : AcS (w.setCell ⟨Q, i * 3, none⟩ (.int .u64 x)) Q n (putR f i x) := by
  refine ⟨fun j hj => ?_, fun j hj => ?_, fun j hj => ?_, fun j => (set_frz ..).trans (h.fz j), Nat.lt_of_lt_of_le h.lt (by simp)⟩
  · by_cases e : j = i
    · subst e; unfold putR; rw [if_pos rfl]; exact set_same _ _ _ _ _ (h.c0 j hj)
    · unfold putR; rw [if_neg e]; exact (set_off _ _ _ _ _ (by omega)).trans (h.c0 j hj)
  · rw [set_off _ _ _ _ _ (by omega), h.c1 j hj]; unfold putR; split <;> rfl
  · rw [set_off _ _ _ _ _ (by omega), h.c2 j hj]; unfold putR; split <;> rfl
theorem AcS.setC {w : World} {Q n : Nat} {f : Nat → St} (h : AcS w Q n f) (i : Nat) (hi : i < n) (x : Int) : AcS (w.setCell ⟨Q, i * 3 + 2, none⟩ (.int .u64 x)) Q n (putM f i x) := by
  refine ⟨fun j hj => ?_, fun j hj => ?_, fun j hj => ?_, fun j => (set_frz ..).trans (h.fz j), Nat.lt_of_lt_of_le h.lt (by simp)⟩
  · rw [set_off _ _ _ _ _ (by omega), h.c0 j hj]; unfold putM; split <;> rfl
  · rw [set_off _ _ _ _ _ (by omega), h.c1 j hj]; unfold putM; split <;> rfl
  · by_cases e : j = i
    · subst e; unfold putM; rw [if_pos rfl]; exact set_same _ _ _ _ _ (h.c2 j hj)
    · unfold putM; rw [if_neg e]; exact (set_off _ _ _ _ _ (by omega)).trans (h.c2 j hj)
theorem AcS.sls {w : World} {Q n : Nat} {f : Nat → St} (h : AcS w Q n f) (hn : n ≤ 1000) (hw : ∀ i, i < n → WfS .u64 (f i)) : SlS .u64 w (some ⟨Q, 0, none⟩) n f :=
  ⟨by omega, .inr ⟨Q, 0, rfl, h.lt, fun i hi => by simp only [Nat.zero_add]; exact ⟨h.c0 i hi, h.c1 i hi, h.c2 i hi⟩⟩, hw⟩
theorem info77 : (Try.prog.info? 77).map (fun i => (i.zero, i.size, i.bytes)) = some (some (.agg #[.int .u64 0, .int .u64 0, .int .u64 0]), 3, 24) := by kernel_rfl
def zer3 (n : Nat) : Array Value := madeCells #[.int .u64 0, .int .u64 0, .int .u64 0] (n * 3)
set_option maxRecDepth 100000 in
theorem mk53 (n : Nat) (hn : n ≤ 32) (w : World) : (Instr.makeSlice 53 (.int .i64 (n : Int)) (.int .i64 (n : Int))).run Try.prog w = .ok (.slice (some ⟨w.heap.size, 0, none⟩) n n) (w.alloc (.cells (zer3 n) 77)) := by
  obtain ⟨i, hi, hzz⟩ := Option.map_eq_some_iff.1 info77
  simp only [Prod.mk.injEq] at hzz
  obtain ⟨hz, hs, hb⟩ := hzz
  have hr := run_make (P := Try.prog) w 53 77 i _ Try.underlying53 hi hz .i64 .i64 n n (by omega) (Int.le_refl _) (by rw [hb]; omega) (by omega)
  simp only [Int.toNat_natCast, hs] at hr
  exact hr
def f00 : Nat → St := fun _ => ⟨0, 0, 0⟩
theorem acs_new (n : Nat) (w : World) : AcS (w.alloc (.cells (zer3 n) 77)) w.heap.size n f00 := by
  have z : ∀ j, j < n * 3 → (zer3 n)[j]? = some (.int .u64 0) := fun j hj => by
    unfold zer3
    rcases (show j % 3 = 0 ∨ j % 3 = 1 ∨ j % 3 = 2 by omega) with e | e | e <;> simp [madeCells, hj, e]
  exact ⟨fun i hi => (new_c ..).trans (z _ (by omega)), fun i hi => (new_c ..).trans (z _ (by omega)), fun i hi => (new_c ..).trans (z _ (by omega)), fun j => frozen_of_row _ _ j _ _ (heap_alloc_new w _), by simp⟩
/-- What is always so of the actors: least 0, most P, any request. -/
def AcF (n : Nat) (P : Nat → Int) (f : Nat → St) : Prop := ∀ i, i < n → (f i).b = 0 ∧ (f i).c = P i ∧ 0 ≤ (f i).a ∧ (f i).a < 18446744073709551616
theorem AcF.put {n : Nat} {P : Nat → Int} {f : Nat → St} (h : AcF n P f) (k : Nat) {x : Int} (h0 : 0 ≤ x) (h1 : x < 18446744073709551616) : AcF n P (putR f k x) := fun i hi => by
  obtain ⟨a, b, c, d⟩ := h i hi
  unfold putR
  split
  · exact ⟨a, b, h0, h1⟩
  · exact ⟨a, b, c, d⟩
theorem AcF.wf {n : Nat} {P : Nat → Int} {f : Nat → St} (h : AcF n P f) (hP : ∀ i, i < n → 0 ≤ P i ∧ P i ≤ 4294967296) : ∀ i, i < n → WfS .u64 (f i) := fun i hi => by
  obtain ⟨a, b, c, d⟩ := h i hi
  have := hP i hi
  exact ⟨wf_u64_mk (x := (f i).a) ⟨c, d⟩, wf_u64_mk (x := (f i).b) (by omega), wf_u64_mk (x := (f i).c) (by omega)⟩
theorem AcF.ok {n : Nat} {P : Nat → Int} {f : Nat → St} (h : AcF n P f) (hP : ∀ i, i < n → 0 ≤ P i ∧ P i ≤ 4294967296) (hn : n ≤ 32) : vA n f = true := by
  unfold vA
  rw [allTo_of fun k hk => ?_, decide_eq_true (by omega)]
  · rfl
  · obtain ⟨a, b, c, d⟩ := h k hk
    have := hP k hk
    show (decide ((f k).b ≤ (f k).c) && decide ((f k).c ≤ 4294967296)) = true
    rw [decide_eq_true (by omega), decide_eq_true (by omega)]
    rfl
theorem AcF.at0 {n : Nat} {P : Nat → Int} {f : Nat → St} (h : AcF n P f) (hP : ∀ i, i < n → 0 ≤ P i) (k : Nat) (hk : k ≤ n) : atS 0 f k = 0 := by
  induction k with
  | zero => rfl
  | succ k ih =>
    obtain ⟨a, b, c, d⟩ := h k (by omega)
    have := hP k (by omega)
    have e : atG 0 (f k) = 0 := by unfold atG wantI; omega
    show atS 0 f k + atG 0 (f k) = 0
    rw [ih (by omega), e]
    rfl
theorem Lr.fl {w wr : World} {Y n : Nat} {Z : Nat → Int} (h : Lr w wr Y n Z) (hn : n ≤ 1000) : Fl wr (some ⟨Y, 0, none⟩) 1 n (eV Z) :=
  ⟨by omega, .inr ⟨Y, 0, rfl, h.lY, fun j hj => by rw [Nat.zero_add]; exact h.at_ j (by omega)⟩⟩
theorem Lr.drewN {w wr : World} {Y n : Nat} {Z : Nat → Int} (h : Lr w wr Y n Z) (k : Nat) : Lr w (wr.drewN k) Y n Z := h.below (bel_drewN (Below.refl _ _) k)
/-- A slice of slices of words. -/
def uV (E : Nat → Int) (j : Nat) : Value := .int .u64 (E j)
structure Pwu (w : World) (A : Option Addr) (n : Nat) (g : Nat → Pw) : Prop where
  len : n ≤ 9223372036854775807
  row : n = 0 ∨ ∃ b off, A = some ⟨b, off, none⟩ ∧ b < w.heap.size ∧ ∀ i, i < n → w.cell? ⟨b, off + i, none⟩ = some (.slice (g i).a (g i).l (g i).c)
  fl : ∀ i, i < n → Fl w (g i).a 1 (g i).l (uV (g i).z)
  wf : ∀ i j, i < n → j < (g i).l → 0 ≤ (g i).z j ∧ (g i).z j < 18446744073709551616
theorem Pwu.at {w w' : World} {A : Option Addr} {n : Nat} {g : Nat → Pw} (h : Pwu w A n g) (hb : Below w.heap.size w w') {i : Nat} (hi : i < n) : ∃ b off, A = some ⟨b, off, none⟩ ∧ b < w'.heap.size ∧ w'.cell? ⟨b, off + i, none⟩ = some (.slice (g i).a (g i).l (g i).c) ∧ Fl w' (g i).a 1 (g i).l (uV (g i).z) := by
  rcases h.row with h0 | ⟨b, off, hA, hlt, hc⟩
  · omega
  · exact ⟨b, off, hA, Nat.lt_of_lt_of_le hlt hb.size, by rw [hb.cell (by exact hlt)]; exact hc i hi, (h.fl i hi).below hb (Nat.le_refl _)⟩
theorem open_pwu {H : Type} {enc : TypeId × Value → H} {w : World} {a : Option Addr} {len cap : Nat} {d : DataW H} {p : List MemPlace}
    (h : DataW.Trod enc Try.prog w 0 (fun _ => true) true 75 (.slice a len cap) d p) : ∃ g, Pwu w a len g := by
  obtain ⟨fuel, hf⟩ := h
  rcases open_int_rows Try.underlying75 Try.underlying55 Try.underlying31 (by kernel_rfl) (by kernel_rfl) hf with ⟨hcs, _⟩ | ⟨x, l, c, A, L, C, Z, hcs, _, hl, hm, _, hi⟩
  · simp [Value.cells] at hcs
    obtain ⟨rfl, rfl, rfl⟩ := hcs
    exact ⟨fun _ => ⟨none, 0, 0, fun _ => 0⟩, ⟨by omega, .inl rfl, fun i hi => by omega, fun i j hi => by omega⟩⟩
  · simp [Value.cells] at hcs
    obtain ⟨rfl, rfl, rfl⟩ := hcs
    unfold maxLen at hm
    refine ⟨fun r => ⟨A r, L r, C r, fun j => (Z r).getD j 0⟩, ⟨by omega, ?_, fun r hr => ?_, fun r j hr hj => ?_⟩⟩
    · rcases Nat.eq_zero_or_pos len with h0 | h0
      · exact .inl h0
      · obtain ⟨b, off, spot⟩ := x
        have hspot : spot = none := by simpa [Addr.add] using World.cell?_spot (hi 0 (by omega)).1
        subst hspot
        refine .inr ⟨b, off, rfl, ?_, fun r hr => ?_⟩
        · have := cell_lt (hi 0 (by omega)).1
          simpa [Addr.add] using this
        · have := (hi r (by omega)).1
          rw [add_plain] at this
          exact this
    · obtain ⟨h1, h2, h3, h4, h5, h6, h7⟩ := hi r (by omega)
      unfold maxLen at h3
      refine ⟨by show L r ≤ _; omega, ?_⟩
      show L r = 0 ∨ _
      cases hA : A r with
      | none => have := h6 hA; exact .inl (by omega)
      | some a' =>
        rcases Nat.eq_zero_or_pos (L r) with h0 | h0
        · exact .inl h0
        · have hc := (h7 a' hA).2
          obtain ⟨b, off, spot⟩ := a'
          have hspot : spot = none := by simpa [Addr.add] using World.cell?_spot (hc 0 (by omega))
          subst hspot
          refine .inr ⟨b, off, rfl, ?_, fun j hj => ?_⟩
          · have := cell_lt (hc 0 (by omega))
            simpa [Addr.add] using this
          · have := hc j (by have hj : j < L r * 1 := hj; omega)
            rw [add_plain] at this
            exact this
    · obtain ⟨h1, h2, h3, h4, h5, h6, h7⟩ := hi r (by omega)
      have hj : j < L r := hj
      show 0 ≤ (Z r).getD j 0 ∧ (Z r).getD j 0 < _
      have : (Z r).getD j 0 ∈ Z r := by
        rw [List.getD_eq_getElem?_getD, List.getElem?_eq_getElem (by omega)]
        exact List.getElem_mem _
      exact wf_u64 (h5 _ this)
theorem open_words {H : Type} {enc : TypeId × Value → H} {w : World} {a : Option Addr} {len cap : Nat} {d : DataW H} {p : List MemPlace}
    (h : DataW.Trod enc Try.prog w 0 (fun _ => true) true 55 (.slice a len cap) d p) : ∃ Z, Ns .u64 w a len Z := by
  obtain ⟨Z, h1, _⟩ := open_ns Try.underlying55 Try.underlying31 (by kernel_rfl) h
  exact ⟨Z, h1⟩
end Go.Proofs.Ytbblachhijpgeaa
