/- Order: a permutation of at most 7 numbers. -/
import Derived.Test.YtcmklipifhpgmaaAwk
namespace Go.Proofs.Ytcmklipifhpgmaa
open Go.ChangeShapes Go.WideShapes Go.ChangeAt Go.RowKit Go.Deep Go.Joins

def kO (R : Nat → Int) (i : Nat) : Nat := modOf (R i) (i + 1)
def oF (R : Nat → Int) : Nat → Nat → Int
  | 0, _ => 0
  | i + 1, j => if j < kO R i then oF R i j else if j = kO R i then (i : Int) else oF R i (j - 1)
theorem kO_lt (R : Nat → Int) (i : Nat) (hi : i < 1000) : kO R i ≤ i := by
  have := (modOf_spec (R i) (i + 1) (by omega) (by omega)).2
  unfold kO
  omega
theorem oF_good (R : Nat → Int) (i : Nat) (hi : i ≤ 64) : good i (oF R i) := by
  induction i with
  | zero => exact ⟨by omega, fun i h => by omega, fun i j h => by omega⟩
  | succ i ih =>
    have ih := ih (by omega)
    have hk := kO_lt R i (by omega)
    have hr : ∀ j, j < i + 1 → j ≠ kO R i → ∃ t, t < i ∧ oF R (i + 1) j = oF R i t ∧ (t = if j < kO R i then j else j - 1) := fun j hj hne => by
      by_cases h1 : j < kO R i
      · exact ⟨j, by omega, by rw [oF, if_pos h1], by rw [if_pos h1]⟩
      · exact ⟨j - 1, by omega, by rw [oF, if_neg h1, if_neg hne], by rw [if_neg h1]⟩
    have he : oF R (i + 1) (kO R i) = (i : Int) := by rw [oF, if_neg (Nat.lt_irrefl _), if_pos rfl]
    refine ⟨hi, fun j hj => ?_, fun j l hj hl e => ?_⟩
    · by_cases h1 : j = kO R i
      · rw [h1, he]; omega
      · obtain ⟨t, ht, e, -⟩ := hr j hj h1
        have := ih.2.1 t ht
        rw [e]; omega
    · by_cases h1 : j = kO R i
      · by_cases h2 : l = kO R i
        · omega
        · obtain ⟨t, ht, e2, -⟩ := hr l hl h2
          have := ih.2.1 t ht
          rw [h1, he, e2] at e; omega
      · obtain ⟨t, ht, e1, ht1⟩ := hr j hj h1
        by_cases h2 : l = kO R i
        · have := ih.2.1 t ht
          rw [h2, he, e1] at e; omega
        · obtain ⟨u, hu, e2, hu1⟩ := hr l hl h2
          rw [e1, e2] at e
          have := ih.2.2 t u ht hu e
          split at ht1 <;> split at hu1 <;> omega
/-- A block of cells of a size. -/
def Shp (w : World) (g e sz : Nat) : Prop := ∃ cur : Array Value, w.heap[g]? = some (.cells cur e (0, 0)) ∧ cur.size = sz
theorem Shp.set {w : World} {g e sz : Nat} (h : Shp w g e sz) (i : Nat) (v : Value) : Shp (w.setCell ⟨g, i, none⟩ v) g e sz := by
  obtain ⟨cur, h1, h2⟩ := h
  exact ⟨_, heap_setCell_same w g i cur e v h1, by simpa using h2⟩
theorem Shp.sets {g e sz : Nat} : ∀ (vs : List Value) (o : Nat) (w : World), Shp w g e sz → Shp (w.setCells g o vs) g e sz
  | [], _, _, h => h
  | v :: r, o, _, h => Shp.sets r (o + 1) _ (h.set o v)
theorem Shp.make {w : World} {g e cap base n : Nat} {V : Nat → Value} (h : Shp w g e cap) (hb : base ≤ g) (hn : n ≤ cap) (hm : cap ≤ maxLen) (hV : ∀ j, j < n → w.cell? ⟨g, j, none⟩ = some (V j)) : w.ownsRow base e 1 (.slice (some ⟨g, 0, none⟩) n cap) n (vsL V n) := by
  obtain ⟨cur, h1, h2⟩ := h
  refine ⟨by simp [vsL_len], .inr ⟨g, cap, cur, rfl, hb, h1, hn, hm, by omega, ?_⟩⟩
  apply List.ext_getElem?
  intro j
  rw [Nat.mul_one, List.getElem?_take]
  by_cases hj : j < n
  · rw [if_pos hj]
    have := hV j hj
    rw [cells_at h1] at this
    rw [(vsL_get V n j _).2 ⟨hj, rfl⟩]
    simpa using this
  · rw [if_neg hj, List.getElem?_eq_none (by rw [vsL_len]; omega)]
theorem own_shp {w : World} {base e n cap g : Nat} {xs : List Value} (h : w.ownsRow base e 1 (.slice (some ⟨g, 0, none⟩) n cap) n xs) : Shp w g e cap ∧ base ≤ g ∧ n ≤ cap ∧ cap ≤ maxLen := by
  rcases h.2 with ⟨e1, _⟩ | ⟨g', cap', cur, e1, h1, h2, h3, h4, h5, _⟩
  · cases e1
  · injection e1 with e2 e3 e4
    injection e2 with e2
    injection e2 with e2
    subst e2 e4
    exact ⟨⟨cur, h2, by omega⟩, h1, h3, h4⟩
/-- The cells behind the copy and the store. -/
theorem ord_cells {w : World} {g i k : Nat} {E : Nat → Int} (hk : k ≤ i) (hc : ∀ j, j < i → w.cell? ⟨g, j, none⟩ = some (eV E j)) (hl : (w.cell? ⟨g, i, none⟩).isSome = true) :
    ∀ j, j < i + 1 → ((w.setCells g (k + 1) ((List.range (i - k)).map fun t => eV E (k + t))).setCell ⟨g, k, none⟩ (.int .i64 i)).cell? ⟨g, j, none⟩ = some (eV (fun j => if j < k then E j else if j = k then (i : Int) else E (j - 1)) j) := by
  intro j hj
  have hsome : ∀ t, t < i + 1 → (w.cell? ⟨g, t, none⟩).isSome = true := fun t ht => by
    by_cases e : t = i
    · rw [e]; exact hl
    · rw [hc t (by omega)]; rfl
  by_cases h1 : j = k
  · subst h1
    have : ((w.setCells g (j + 1) ((List.range (i - j)).map fun t => eV E (j + t))).cell? ⟨g, j, none⟩).isSome = true := by
      rw [World.cell?_setCells_out g _ _ _ _ (fun _ _ => .inl (by show j < j + 1; omega))]
      exact hsome j hj
    obtain ⟨u, hu⟩ := Option.isSome_iff_exists.1 this
    rw [set_same _ _ _ _ _ hu]
    simp [eV]
  · rw [set_off _ _ _ _ _ h1]
    by_cases h2 : j < k
    · rw [World.cell?_setCells_out g _ _ _ _ (fun _ _ => .inl (by show j < k + 1; omega)), hc j (by omega)]
      simp [eV, h2]
    · have := World.cell?_setCells_in g ((List.range (i - k)).map fun t => eV E (k + t)) (k + 1) w (fun t ht => hsome _ (by simp at ht; omega)) (j - (k + 1)) (by simp; omega)
      rw [show k + 1 + (j - (k + 1)) = j by omega] at this
      rw [this]
      simp only [List.getElem_map, List.getElem_range]
      rw [show k + (j - (k + 1)) = j - 1 by omega]
      simp [eV, h1, h2]
end Go.Proofs.Ytcmklipifhpgmaa
