/- Plain facts on eight durations in another order; two predictors of idle. -/
import Derived.Test.YtfbgkdjjfjlhhaaPag
namespace Go.Proofs.Ytfbgkdjjfjlhhaa
open Go.RowKit Go.ChangeShapes Go.WideShapes

theorem mx_le {f : Nat → Int} {n : Nat} {b : Int} (h0 : 0 ≤ b) (h : ∀ i, i < n → f i ≤ b) : mx f n ≤ b := by
  induction n with
  | zero => exact h0
  | succ n ih => have := ih (fun i hi => h i (by omega)); have := h n (by omega); simp only [mx]; omega
theorem le_mx {f : Nat → Int} {n i : Nat} (hi : i < n) : f i ≤ mx f n := by
  induction n with
  | zero => omega
  | succ n ih =>
    simp only [mx]
    rcases Nat.lt_or_ge i n with h | h
    · have := ih h; omega
    · have : i = n := by omega
      subst this; omega
theorem mx_nn (f : Nat → Int) (n : Nat) : 0 ≤ mx f n := by
  induction n with
  | zero => simp [mx]
  | succ n ih => simp only [mx]; omega
theorem mx_in {f : Nat → Int} {n : Nat} (h : ∀ i, i < n → 0 ≤ f i) (hn : 1 ≤ n) : ∃ i, i < n ∧ mx f n = f i := by
  induction n with
  | zero => omega
  | succ n ih =>
    rcases Nat.eq_zero_or_pos n with h0 | h0
    · subst h0; exact ⟨0, by omega, by have := h 0 (by omega); simp only [mx]; omega⟩
    · obtain ⟨i, hi, e⟩ := ih (fun i hi => h i (by omega)) h0
      rcases Int.lt_or_le (f n) (f i) with g | g
      · exact ⟨i, by omega, by simp only [mx]; omega⟩
      · exact ⟨n, by omega, by simp only [mx]; omega⟩
/-- The smallest, at most a. -/
def mn (a : Int) (f : Nat → Int) : Nat → Int
  | 0 => a
  | k + 1 => min (mn a f k) (f k)
theorem mn_le {a : Int} {f : Nat → Int} {n i : Nat} (hi : i < n) : mn a f n ≤ f i := by
  induction n with
  | zero => omega
  | succ n ih =>
    simp only [mn]
    rcases Nat.lt_or_ge i n with h | h
    · have := ih h; omega
    · have : i = n := by omega
      subst this; omega
def rot (f : Nat → Int) (s : Nat) (i : Nat) : Int := f ((i + s) % 8)
theorem sm_rot (f : Nat → Int) (s : Nat) (hs : s < 8) : sm (rot f s) 8 = sm f 8 := by
  rcases (show s = 0 ∨ s = 1 ∨ s = 2 ∨ s = 3 ∨ s = 4 ∨ s = 5 ∨ s = 6 ∨ s = 7 by omega) with h | h | h | h | h | h | h | h <;> subst h <;> simp [sm, rot] <;> omega
theorem mx_rot (f : Nat → Int) (s : Nat) (hs : s < 8) : mx (rot f s) 8 = mx f 8 := by
  have h1 : mx (rot f s) 8 ≤ mx f 8 := mx_le (mx_nn _ _) (fun i _ => le_mx (by omega))
  have h2 : mx f 8 ≤ mx (rot f s) 8 := mx_le (mx_nn _ _) (fun i hi => by
    have := le_mx (f := rot f s) (n := 8) (i := (i + (8 - s)) % 8) (by omega)
    unfold rot at this ⊢
    rw [show ((i + (8 - s)) % 8 + s) % 8 = i by omega] at this
    exact this)
  omega
/-- The mean of all but the greatest lies between the smallest and the greatest. -/
theorem mean_bd (a : Int) (f : Nat → Int) (s : Nat) (hs : s < 8) (h : ∀ i, i < 8 → 0 ≤ f i) : mn a (rot f s) 8 ≤ (sm f 8 - mx f 8) / 7 ∧ (sm f 8 - mx f 8) / 7 ≤ mx (rot f s) 8 := by
  have L : ∀ i, i < 8 → mn a (rot f s) 8 ≤ f i := fun i hi => by
    have := mn_le (a := a) (f := rot f s) (n := 8) (i := (i + (8 - s)) % 8) (by omega)
    unfold rot at this ⊢
    rw [show ((i + (8 - s)) % 8 + s) % 8 = i by omega] at this
    exact this
  have G : ∀ i, i < 8 → f i ≤ mx f 8 := fun i hi => le_mx hi
  rw [mx_rot f s hs]
  generalize mn a (rot f s) 8 = b at *
  obtain ⟨i, hi, e⟩ := mx_in h (by omega)
  have l0 := L 0 (by omega); have l1 := L 1 (by omega); have l2 := L 2 (by omega); have l3 := L 3 (by omega); have l4 := L 4 (by omega); have l5 := L 5 (by omega); have l6 := L 6 (by omega); have l7 := L 7 (by omega)
  have g0 := G 0 (by omega); have g1 := G 1 (by omega); have g2 := G 2 (by omega); have g3 := G 3 (by omega); have g4 := G 4 (by omega); have g5 := G 5 (by omega); have g6 := G 6 (by omega); have g7 := G 7 (by omega)
  have es : sm f 8 = f 0 + f 1 + f 2 + f 3 + f 4 + f 5 + f 6 + f 7 := by simp [sm]
  rw [es]
  clear es L G
  generalize mx f 8 = M at *
  rcases (show i = 0 ∨ i = 1 ∨ i = 2 ∨ i = 3 ∨ i = 4 ∨ i = 5 ∨ i = 6 ∨ i = 7 by omega) with h | h | h | h | h | h | h | h <;> subst h <;> constructor <;> omega

/-- Two predictors of idle, apart. -/
structure Duo (w : World) (B L1 L2 : Nat) (xs ys : List Int) : Prop where
  ex : ∃ r1 r2, PrW 73 w B L1 r1 xs ∧ PrW 73 w B L2 r2 ys ∧ r1 ≠ some L2 ∧ r2 ≠ some L1 ∧ ∀ k, r1 = some k → r2 ≠ some k
  ne : L1 ≠ L2
theorem Duo.swap {w : World} {B L1 L2 : Nat} {xs ys : List Int} (h : Duo w B L1 L2 xs ys) : Duo w B L2 L1 ys xs := by
  obtain ⟨⟨r1, r2, p1, p2, n1, n2, n3⟩, hne⟩ := h
  exact ⟨⟨r2, r1, p2, p1, n2, n1, fun k h2 h1 => n3 k h1 h2⟩, hne.symm⟩
theorem duo_rec {w : World} {B L1 L2 : Nat} {xs ys : List Int} {x : Int} (h : Duo w B L1 L2 xs ys) (hx : x ≤ 1152921504606846976) (hl : xs.length ≤ 8) (hB : B ≤ w.heap.size) (h1 : B ≤ L1) :
    Calls Try.prog 32 #[.pointer (some ⟨L1, 0, none⟩), .int .u64 x] w fun e w1 => e = .returned (.int .i64 0) ∧ Duo w1 B L1 L2 (last8 (xs ++ [x])) ys ∧ Below B w w1 := by
  obtain ⟨⟨r1, r2, p1, p2, n1, n2, n3⟩, hne⟩ := h
  have q1 := p1.row
  have q2 := p2.row
  have l2 := p2.lt
  refine (rec_a w B L1 r1 xs x hx hl hB p1).mono ?_
  rintro e w1 ⟨rfl, s1, hs1, pa, ca⟩
  have p2' : PrW 73 w1 B L2 r2 ys := p2.kept ca (fun h => h.elim (fun e => hne e.symm) (fun e => n1 e)) (fun k hk h => h.elim (fun e => n2 (by rw [hk, e])) (fun e => n3 k e hk))
  have hs1' : ∀ k, s1 = some k → r1 = some k ∨ w.heap.size ≤ k := fun k hk => by
    rcases hs1 with e | ⟨k', e, hk'⟩
    · exact .inl (by rw [← e]; exact hk)
    · rw [e] at hk; injection hk with hk; exact .inr (by omega)
  refine ⟨rfl, ⟨⟨s1, r2, pa, p2', ?_, n2, ?_⟩, hne⟩, Below.chg (Below.refl _ _) ca hB ?_⟩
  · intro hk
    rcases hs1' _ hk with e1 | e1
    · exact n1 e1
    · omega
  · intro k hk hk2
    rcases hs1' _ hk with e2 | e2
    · exact n3 k e2 hk2
    · have := q2 k hk2; omega
  · rintro k (rfl | hk)
    · exact h1
    · exact (q1 k hk).1
theorem duo_new (w : World) : Duo ((w.alloc (.cells #[.slice none 0 0] 73)).alloc (.cells #[.slice none 0 0] 73)) w.heap.size w.heap.size (w.heap.size + 1) [] [] := by
  have h1 := prw_new 73 w w.heap.size
  have h2 := prw_new 73 (w.alloc (.cells #[.slice none 0 0] 73)) w.heap.size
  have e : (w.alloc (.cells #[.slice none 0 0] 73)).heap.size = w.heap.size + 1 := by simp
  rw [e] at h2
  exact ⟨⟨none, none, h1.kept (Chg.alloc (fun _ => False) _ _) (fun h => h) (fun k hk => by cases hk), h2, by simp, by simp, fun k hk => by cases hk⟩, by omega⟩
theorem Duo.exp {w : World} {B L1 L2 : Nat} {xs ys : List Int} (h : Duo w B L1 L2 xs ys) (h8 : xs.length = 8) (f : Nat → Int) (hf : ∀ i, i < 8 → xs.getD i 0 = f i) (hy : ∀ i, i < 8 → 0 ≤ f i ∧ f i ≤ 1125899906842624) (t : Int) :
    Calls Try.prog 34 #[.pointer (some ⟨L1, 0, none⟩), .int .u64 t] w fun e w' => e = .returned (.int .u64 (min t ((sm f 8 - mx f 8) / 7))) ∧ w = w' := by
  obtain ⟨⟨r1, r2, ⟨v, hv, -⟩, -⟩, -⟩ := h
  have := exp_a w B L1 v xs t hv (by omega) (fun y hy' => by
    obtain ⟨i, hi, e⟩ := List.getElem_of_mem hy'
    have h1 := hf i (by omega)
    rw [List.getD_eq_getElem?_getD, List.getElem?_eq_getElem hi] at h1
    simp only [Option.getD_some] at h1
    have := hy i (by omega)
    omega)
  have e : exV t xs.length (fun i => xs.getD i 0) = min t ((sm f 8 - mx f 8) / 7) := by
    unfold exV
    rw [if_neg (by omega)]
    have es : ∀ k, k ≤ 8 → sm (fun i => xs.getD i 0) k = sm f k ∧ mx (fun i => xs.getD i 0) k = mx f k := by
      intro k
      induction k with
      | zero => intro _; exact ⟨rfl, rfl⟩
      | succ k ih => intro hk; obtain ⟨a, b⟩ := ih (by omega); refine ⟨?_, ?_⟩ <;> simp only [sm, mx, a, b, hf k (by omega)]
    rw [(es 8 (by omega)).1, (es 8 (by omega)).2]
  rw [e] at this
  exact this
/-- A slice of numbers and its capacity, as an argument. -/
theorem open_u64c {H : Type} {enc : TypeId × Value → H} {w : World} {a : Option Addr} {len cap : Nat} {d : DataW H} {p : List MemPlace}
    (h : DataW.Trod enc Try.prog w 0 (fun _ => true) true 50 (.slice a len cap) d p) : ∃ Z, Zs w a len Z ∧ len ≤ cap ∧ cap ≤ 9223372036854775807 := by
  obtain ⟨Z, hZ⟩ := open_u64s h
  refine ⟨Z, hZ, ?_⟩
  obtain ⟨fuel, hf⟩ := h
  rcases open_ints Try.underlying50 Try.underlying23 (by kernel_rfl) hf with ⟨hcs, _⟩ | ⟨x, l, c, zs, hcs, _, hl, hm, -⟩
  · simp [Value.cells] at hcs
    obtain ⟨rfl, rfl, rfl⟩ := hcs
    omega
  · simp [Value.cells] at hcs
    obtain ⟨rfl, rfl, rfl⟩ := hcs
    unfold maxLen at hm; omega
end Go.Proofs.Ytfbgkdjjfjlhhaa
