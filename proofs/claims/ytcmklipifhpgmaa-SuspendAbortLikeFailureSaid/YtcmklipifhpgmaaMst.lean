/- The map of operations that have succeeded. -/
import Derived.Test.YtcmklipifhpgmaaBas
import Derived.Maps.Own
import Derived.DeepKeys4
namespace Go.Proofs.Ytcmklipifhpgmaa
open Go.ChangeShapes Go.WideShapes Go.ChangeAt Go.RowKit Go.Deep Go.Joins Go.Maps

theorem pk : Keyed Try.prog 30 := Keyed.of_law (deep_law_laid (m := 2) (by kernel_rfl) (by omega) (of_decide_eq_true (by kernel_rfl)) (by kernel_rfl) (by kernel_rfl))
def pv (a b : Int) : Value := .agg #[.int .i64 a, .int .i64 b]
theorem pv_inj {a b c d : Int} (h : pv a b = pv c d) : a = c ∧ b = d := by
  unfold pv at h
  injection h with h
  simpa using h
theorem kl_int (d : Nat) (a : Int) (ha : (Lit.int .i64 a).wf = true) : Try.prog.keyLits (d + 1) 3 [Value.int IntKind.i64 a] = some [.int .i64 a] := by
  unfold Program.keyLits
  rw [Try.underlying3]
  simp [ha]
theorem pk_key (a b : Int) (ha : (Lit.int .i64 a).wf = true) (hb : (Lit.int .i64 b).wf = true) : ∃ kl, keyOf Try.prog 30 (pv a b) = some kl := by
  unfold keyOf
  rw [Try.underlying30]
  have k1 : Try.prog.keyType 30 = true := by kernel_rfl
  have k2 : (pv a b).formed Try.prog 30 = true := by kernel_rfl
  rw [k1, k2]
  have c76 : Try.prog.cellsOf 30 = 2 := by kernel_rfl
  have c3 : Try.prog.cellsOf 3 = 1 := by kernel_rfl
  have k3 : Try.prog.keyLits (Try.prog.types.size + 1) 30 (pv a b).cells.toList = some [.int .i64 a, .int .i64 b] := by
    unfold Program.keyLits
    rw [Try.underlying30]
    simp [pv, Value.cells, c76, c3, kl_int _ a ha, kl_int _ b hb]
  exact ⟨_, by rw [k3]; rfl⟩
/-- A number of the machine. -/
abbrev W64 (x : Int) : Prop := (Lit.int .i64 x).wf = true
/-- Block b is a map of at most n entries whose true keys are those of S. -/
def Sd (w : World) (b n : Nat) (S : Int → Int → Bool) : Prop := ∃ D, w.ownsMap (H := Unit) Try.prog 30 (plainElem Try.prog 4) b n D ∧ IsMap D ∧ ∀ x y kl, W64 x → W64 y → keyOf Try.prog 30 (pv x y) = some kl → D.atKey kl (.lit (.bool false)) = .lit (.bool (S x y))
theorem Sd.lt {w : World} {b n : Nat} {S : Int → Int → Bool} (h : Sd w b n S) : b < w.heap.size := by
  obtain ⟨D, h, _⟩ := h
  exact h.lt
theorem Sd.chg {T : Nat → Prop} {w w' : World} {b n : Nat} {S : Int → Int → Bool} (h : Sd w b n S) (hc : Chg T w w') (hn : ¬ T b) : Sd w' b n S := by
  have hlt := h.lt
  obtain ⟨D, ⟨es, clock, hb, r⟩, q⟩ := h
  exact ⟨D, ⟨es, clock, (hc.block b hlt hn).trans hb, r⟩, q⟩
theorem sd_made (w : World) : Sd (w.alloc (.map #[] 0)) w.heap.size 0 (fun _ _ => false) :=
  ⟨_, World.ownsMap_made w _ _ _, ⟨_, rfl⟩, fun _ _ _ _ _ _ => rfl⟩
theorem Sd.look {w : World} {b n : Nat} {S : Int → Int → Bool} (h : Sd w b n S) (x y : Int) (hx : W64 x) (hy : W64 y) :
    (Instr.lookup 56 (.map (some b)) (pv x y) false).run Try.prog w = .ok (.bool (S x y)) w := by
  obtain ⟨D, ho, _, hS⟩ := h
  obtain ⟨kl, hkl⟩ := pk_key x y hx hy
  have hz : (zeroValue 4).run Try.prog w = .ok (.bool false) w := by kernel_rfl
  obtain ⟨v, ps, hrun, hv⟩ := ho.lookup pk Try.underlying56 hz (plainElem_bool Try.underlying4 false) hkl
  rw [hS x y kl hx hy hkl] at hv
  have : v = .bool (S x y) := by
    unfold plainElem at hv
    rw [Try.underlying4] at hv
    cases v <;> simp at hv
    rw [hv.1]
  rw [← this]
  exact hrun
theorem Sd.put {w : World} {b n : Nat} {S : Int → Int → Bool} (h : Sd w b n S) (x y : Int) (hx : W64 x) (hy : W64 y) (hl : n ≤ 100000) :
    ∃ w', (Instr.mapUpdate 56 (.map (some b)) (pv x y) (.bool true)).run Try.prog w = .ok () w' ∧ Sd w' b (n + 1) (fun a c => (decide (a = x) && decide (c = y)) || S a c) ∧ Chg (fun k => k = b) w w' := by
  obtain ⟨D, ho, hM, hS⟩ := h
  obtain ⟨kl, hkl⟩ := pk_key x y hx hy
  obtain ⟨w', hrun, ho', hg⟩ := ho.update pk Try.underlying56 (by unfold maxLen; omega) hkl (plainElem_bool Try.underlying4 true)
  refine ⟨w', hrun, ⟨_, ho', ?_, fun a c kl' ha hc hk => ?_⟩, (Chg.of_grown hg).mono (fun k _ e => by injection e with e; exact e.symm)⟩
  · obtain ⟨es, rfl⟩ := hM
    exact ⟨_, rfl⟩
  · by_cases e : a = x ∧ c = y
    · obtain ⟨rfl, rfl⟩ := e
      rw [hkl] at hk
      injection hk with hk
      subst hk
      rw [atKey_put_same hM (pk.key hkl)]
      simp
    · have hne : kl' ≠ kl := fun e2 => by
        subst e2
        exact e (pv_inj (pk.inj hk hkl))
      rw [atKey_put_other hne, hS a c kl' ha hc hk]
      have : (decide (a = x) && decide (c = y)) = false := by
        rw [Bool.and_eq_false_iff]
        by_cases h1 : a = x
        · exact .inr (decide_eq_false (fun h2 => e ⟨h1, h2⟩))
        · exact .inl (decide_eq_false h1)
      show _ = DataW.lit (.bool ((decide (a = x) && decide (c = y)) || S a c))
      rw [this, Bool.false_or]
end Go.Proofs.Ytcmklipifhpgmaa
