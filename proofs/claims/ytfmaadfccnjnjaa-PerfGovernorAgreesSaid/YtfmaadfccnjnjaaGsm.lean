/- The walk of PerfGovernorSwitchesSafely. -/
import Derived.Test.YtfmaadfccnjnjaaGwm
import Derived.Maps.AppendAt
namespace Go.Proofs.Ytfmaadfccnjnjaa
open Go.ChangeShapes Go.WideShapes Go.ChangeAt Go.RowKit Go.Deep Go.Joins

/-- A slice of numbers of kind K in a world, as an argument: nil or empty, or a row of cells. -/
structure Ns (K : IntKind) (w : World) (A : Option Addr) (n : Nat) (Z : Nat → Int) : Prop where
  len : n ≤ 9223372036854775807
  row : n = 0 ∨ ∃ b off, A = some ⟨b, off, none⟩ ∧ b < w.heap.size ∧ ∀ i, i < n → w.cell? ⟨b, off + i, none⟩ = some (.int K (Z i))
  wf : ∀ i, i < n → (Lit.int K (Z i)).wf = true
theorem Ns.below {K : IntKind} {w w' : World} {A : Option Addr} {n : Nat} {Z : Nat → Int} {B : Nat} (h : Ns K w A n Z) (hb : Below B w w') (hB : w.heap.size ≤ B) : Ns K w' A n Z := by
  refine ⟨h.len, ?_, h.wf⟩
  rcases h.row with h0 | ⟨b, off, hA, hlt, hc⟩
  · exact .inl h0
  · exact .inr ⟨b, off, hA, Nat.lt_of_lt_of_le hlt hb.size, fun i hi => by rw [hb.cell (by show b < B; omega)]; exact hc i hi⟩
/-- The cell of an argument, later: nothing below the base has changed. -/
theorem Ns.at {K : IntKind} {w w' : World} {A : Option Addr} {n : Nat} {Z : Nat → Int} {B : Nat} (h : Ns K w A n Z) (hb : Below B w w') (hB : w.heap.size ≤ B) {i : Nat} (hi : i < n) : ∃ b off, A = some ⟨b, off, none⟩ ∧ w'.cell? ⟨b, off + i, none⟩ = some (.int K (Z i)) := by
  rcases h.row with h0 | ⟨b, off, hA, hlt, hc⟩
  · omega
  · exact ⟨b, off, hA, by rw [hb.cell (by show b < B; omega)]; exact hc i hi⟩
theorem open_ns {H : Type} {enc : TypeId × Value → H} {P : Program} {w : World} {t e : TypeId} {K : IntKind} {a : Option Addr} {len cap : Nat} {d : DataW H} {p : List MemPlace}
    (ht : P.underlying t = some (.slice e)) (he : P.underlying e = some (.int K)) (hC : P.cellsOf e = 1) (h : DataW.Trod enc P w 0 (fun _ => true) true t (.slice a len cap) d p) : ∃ Z, Ns K w a len Z ∧ len ≤ cap ∧ cap ≤ 9223372036854775807 := by
  obtain ⟨fuel, hf⟩ := h
  rcases open_ints ht he hC hf with ⟨hcs, _⟩ | ⟨x, l, c, zs, hcs, _, hl, hm, hz, _, hcell, hwz⟩
  · simp [Value.cells] at hcs
    obtain ⟨rfl, rfl, rfl⟩ := hcs
    exact ⟨fun _ => 0, ⟨by omega, .inl rfl, fun i hi => by omega⟩, by omega, by omega⟩
  · simp [Value.cells] at hcs
    obtain ⟨rfl, rfl, rfl⟩ := hcs
    have hz : zs.length = cap := by simpa using hz
    unfold maxLen at hm
    refine ⟨fun i => zs.getD i 0, ⟨by omega, ?_, fun i hi => ?_⟩, hl, by omega⟩
    · rcases Nat.eq_zero_or_pos len with h0 | h0
      · exact .inl h0
      · obtain ⟨b, off, rfl, hc⟩ := ints_at hcell (by omega)
        refine .inr ⟨b, off, rfl, ?_, fun i hi => hc i (by omega)⟩
        exact cell_lt (hc 0 (by omega))
    · apply hwz
      rw [List.getD_eq_getElem?_getD, List.getElem?_eq_getElem (by omega)]
      simp
theorem open_is {H : Type} {enc : TypeId × Value → H} {w : World} {a : Option Addr} {len cap : Nat} {d : DataW H} {p : List MemPlace}
    (h : DataW.Trod enc Try.prog w 0 (fun _ => true) true 45 (.slice a len cap) d p) : ∃ Z, Ns .i64 w a len Z ∧ len ≤ cap ∧ cap ≤ 9223372036854775807 := open_ns Try.underlying45 Try.underlying3 (by kernel_rfl) h
/-- A list of operations from a state: whether it is safe, and where it ends. -/
def okL (n : Nat) (f : Nat → St) (s : FV) (l : List PO) : Bool := okSTo n f (atL l) s l.length
def stL (s : FV) (l : List PO) : FV := stTo (atL l) s l.length
theorem atL_left {a b : List PO} {i : Nat} (h : i < a.length) : atL (a ++ b) i = atL a i := by
  unfold atL
  rw [List.getD_eq_getElem?_getD, List.getD_eq_getElem?_getD, List.getElem?_append_left h]
theorem atL_right {a b : List PO} (j : Nat) : atL (a ++ b) (a.length + j) = atL b j := by
  unfold atL
  rw [List.getD_eq_getElem?_getD, List.getD_eq_getElem?_getD, List.getElem?_append_right (by omega), Nat.add_sub_cancel_left]
theorem stTo_left (a b : List PO) (s : FV) : ∀ k, k ≤ a.length → stTo (atL (a ++ b)) s k = stTo (atL a) s k := by
  intro k
  induction k with
  | zero => intro _; rfl
  | succ k ih => intro h; simp only [stTo]; rw [ih (by omega), atL_left (by omega)]
theorem stTo_right (a b : List PO) (s : FV) : ∀ k, stTo (atL (a ++ b)) s (a.length + k) = stTo (atL b) (stL s a) k := by
  intro k
  induction k with
  | zero => exact stTo_left a b s a.length (Nat.le_refl _)
  | succ k ih => rw [← Nat.add_assoc]; simp only [stTo]; rw [ih, atL_right]
theorem stL_app (a b : List PO) (s : FV) : stL s (a ++ b) = stL (stL s a) b := by
  unfold stL
  rw [List.length_append]
  exact stTo_right a b s b.length
theorem okSTo_left (n : Nat) (f : Nat → St) (a b : List PO) (s : FV) : ∀ k, k ≤ a.length → okSTo n f (atL (a ++ b)) s k = okSTo n f (atL a) s k := by
  intro k
  induction k with
  | zero => intro _; rfl
  | succ k ih => intro h; simp only [okSTo]; rw [ih (by omega), stTo_left a b s (k + 1) h]
theorem okSTo_right (n : Nat) (f : Nat → St) (a b : List PO) (s : FV) : ∀ k, okSTo n f (atL (a ++ b)) s (a.length + k) = (okL n f s a && okSTo n f (atL b) (stL s a) k) := by
  intro k
  induction k with
  | zero => simp only [Nat.add_zero, okSTo, Bool.and_true]; exact okSTo_left n f a b s a.length (Nat.le_refl _)
  | succ k ih =>
    rw [← Nat.add_assoc]
    simp only [okSTo]
    rw [ih, show a.length + k + 1 = a.length + (k + 1) from rfl, stTo_right a b s (k + 1), Bool.and_assoc]
theorem okL_app (n : Nat) (f : Nat → St) (a b : List PO) (s : FV) : okL n f s (a ++ b) = (okL n f s a && okL n f (stL s a) b) := by
  unfold okL
  rw [List.length_append]
  exact okSTo_right n f a b s b.length
theorem newsP_add (h : Nat → PO) (n m : Nat) : newsP h (n + m) = newsP h n ++ newsP (fun j => h (n + j)) m := by
  induction m with
  | zero => simp [newsP]
  | succ m ih => rw [← Nat.add_assoc]; simp only [newsP]; rw [ih, List.append_assoc]
theorem newsP_congr {h k : Nat → PO} {n : Nat} (e : ∀ i, i < n → h i = k i) : newsP h n = newsP k n := by
  induction n with
  | zero => rfl
  | succ n ih => simp only [newsP]; rw [ih (fun i hi => e i (by omega)), e n (by omega)]
/-- The cells of a list of operations. -/
def poL (l : List PO) : List Value := newsP (atL l) l.length
theorem poL_app (a b : List PO) : poL (a ++ b) = poL a ++ poL b := by
  unfold poL
  rw [List.length_append, newsP_add, newsP_congr (k := atL a) (fun i hi => atL_left hi), newsP_congr (h := fun j => atL (a ++ b) (a.length + j)) (k := atL b) (fun i _ => atL_right i)]
theorem poL_len (l : List PO) : (poL l).length = l.length * 2 := newsP_len _ _
theorem poL_one (l : List PO) (u : Value) (hu : u ∈ poL l) : u.oneCell' = true := by
  unfold poL at hu
  generalize l.length = n at hu
  induction n with
  | zero => simp [newsP] at hu
  | succ n ih =>
    simp only [newsP, List.mem_append] at hu
    rcases hu with hu | hu
    · exact ih hu
    · exact one2 _ _ u hu
theorem poL_get (l : List PO) (j : Nat) (u : Value) (h : (poL l)[j]? = some u) : j < l.length * 2 ∧ u = if j % 2 = 0 then .bool (atL l (j / 2)).v else .int .u64 (atL l (j / 2)).x := by
  have hj : j < l.length * 2 := by rw [← poL_len]; exact (List.getElem?_eq_some_iff.1 h).1
  refine ⟨hj, ?_⟩
  obtain ⟨h0, h1⟩ := newsP_get (atL l) l.length (j / 2) (by omega)
  rcases (show j = j / 2 * 2 ∨ j = j / 2 * 2 + 1 by omega) with e | e
  · rw [if_pos (by omega)]
    unfold poL at h
    rw [e, h0] at h
    injection h with h; exact h.symm
  · rw [if_neg (by omega)]
    unfold poL at h
    rw [e, h1] at h
    injection h with h; exact h.symm
theorem pls_news {w : World} {b off : Nat} {l : List PO} (h : PlS w (some ⟨b, off, none⟩) l.length (atL l)) (j : Nat) (u : Value) (hu : (poL l)[j]? = some u) : w.cell? (Addr.add ⟨b, off, none⟩ j) = some u := by
  obtain ⟨hj, rfl⟩ := poL_get l j u hu
  rw [add_plain]
  rcases h.row with h0 | ⟨b', off', hA, -, hc⟩
  · omega
  · injection hA with hA
    injection hA with e1 e2
    subst e1 e2
    obtain ⟨c0, c1⟩ := hc (j / 2) (by omega)
    rcases (show j = j / 2 * 2 ∨ j = j / 2 * 2 + 1 by omega) with e | e
    · rw [if_pos (by omega), show off + j = off + j / 2 * 2 by omega]; exact c0
    · rw [if_neg (by omega), show off + j = off + j / 2 * 2 + 1 by omega]; exact c1
theorem suf_bd (f : Nat → St) (up : Nat) (W : Int) (lo cu : Nat) (hlc : lo ≤ cu) : lo ≤ suf f up W lo cu ∧ suf f up W lo cu ≤ cu := by
  unfold suf
  cases h : (List.range cu).find? (fun p => decide (lo ≤ p) && decide (W ≤ up * (f p).l)) with
  | none => exact ⟨hlc, Nat.le_refl _⟩
  | some p =>
    rw [List.find?_range_eq_some] at h
    obtain ⟨h1, h2, h3⟩ := h
    simp at h1 h2
    exact ⟨h1.1, by simp; omega⟩
theorem gok_smp {n : Nat} {s : GV} (h : GOk n s) (f : Nat → St) (x : Nat) : GOk n (smpS f s x) := by
  obtain ⟨h1, h2, h3, h4, h5, h6, h7⟩ := h
  have sb := suf_bd f s.up (x * (f s.cu).l) s.lo s.cu h5
  unfold smpS
  split
  · exact ⟨h1, h2, h3, by simp only; omega, by simp only; omega, by simp only; omega, h7⟩
  · split
    · split
      · exact ⟨h1, h2, h3, by simp only; omega, sb.1, by simp only; omega, h7⟩
      · exact ⟨h1, h2, h3, by simp only; omega, h5, h6, h7⟩
    · exact ⟨h1, h2, h3, by simp only; omega, h5, h6, h7⟩
theorem tra_nil (A : Option Addr) (n c : Nat) (f : Nat → St) (a : Nat) (w : World) (h : SlS w A n f) (hv : vld n f = true) (ha : a < n) :
    Calls Try.prog 19 #[.slice A n c, .int .i64 (a : Int), .int .i64 (a : Int)] w fun e w' => e = .returned (.tuple #[.slice none 0 0, .int .i64 0]) ∧ Below w.heap.size w w' := by
  have C := chk_any A n c f w h
  have HV := Lib.hid hv
  have IT : Hid (inT n (a : Int) = true) := by show _ = _; unfold inT; simp; omega
  clear hv
  go_enter Try.func19, Try.ntmps19
  go_wp2_with fail
  refine C.mono ?_
  rintro e w1 ⟨rfl, b1⟩
  rw [HV.out]
  go_wp2_with (go_at_call 33; refine (isp_any A n c (a : Int) _).mono ?_; rintro e w' ⟨rfl, rfl⟩; rw [IT.out])
  go_ret2
  exact ⟨rfl, b1⟩
end Go.Proofs.Ytfmaadfccnjnjaa
