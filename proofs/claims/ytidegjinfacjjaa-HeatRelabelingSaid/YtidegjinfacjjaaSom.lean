/- Some: a system in the making. -/
import Derived.Test.YtidegjinfacjjaaPow
import Derived.Test.YtidegjinfacjjaaTkc
namespace Go.Proofs.Ytidegjinfacjjaa
open Go.ChangeShapes Go.WideShapes Go.ChangeAt Go.RowKit Go.Deep Go.Joins

def pl (r : Int) (k : Nat) : Nat := ((IntKind.u64.wrap r).tmod (k : Int)).toNat
theorem pl_spec (r : Int) (k : Nat) (h0 : 0 < k) (h : k ≤ 100000) : (IntKind.i64.wrap ((IntKind.u64.wrap r).tmod (k : Int)) = (pl r k : Nat) ∧ wrap64 ((IntKind.u64.wrap r).tmod (k : Int)) = (pl r k : Nat)) ∧ pl r k < k := by
  have h1 : 0 ≤ IntKind.u64.wrap r := by rw [IntKind.wrap_u64]; omega
  have h2 := Int.tmod_nonneg (k : Int) h1
  have h3 := Int.tmod_lt_of_pos (IntKind.u64.wrap r) (show 0 < (k : Int) by omega)
  unfold pl
  exact ⟨both (by omega) (by omega), by omega⟩
structure Sy (w wr : World) (R Y X n m : Nat) (D : Nat → Dm) (K : Nat → Lk) (amb : Int) (v : Value) : Prop where
  x0 : wr.cell? ⟨X, 0, none⟩ = some (.slice (some ⟨Y, 0, none⟩) n n)
  x1 : wr.cell? ⟨X, 1, none⟩ = some v
  x2 : wr.cell? ⟨X, 2, none⟩ = some (.int .i64 amb)
  fX : ∀ j, wr.frozen? ⟨X, j, none⟩ = false
  fY : ∀ j, wr.frozen? ⟨Y, j, none⟩ = false
  lX : X < wr.heap.size
  dm : ∀ j, j < n * 2 → wr.cell? ⟨Y, j, none⟩ = some (dV D j)
  own : wr.ownsRow (X + 1) 34 3 v m (vsL (lV K) (m * 3))
  bel : Below w.heap.size w wr
  wR : w.heap.size ≤ R
  RY : R < Y
  YX : Y < X
  r0 : wr.heap[R]? = some (.cells #[.slice none 0 0, .slice none 0 0, .int .i64 0] 27 (0, 0))
section
variable {w wr wx : World} {R Y X n m : Nat} {D : Nat → Dm} {K : Nat → Lk} {amb : Int} {v : Value}
theorem Sy.chg {S : Nat → Prop} (h : Sy w wr R Y X n m D K amb v) (hc : Chg S wr wx) (hS : ∀ b, S b → X < b) (hv : ∀ b, v.ownBlock = some b → ¬ S b) : Sy w wx R Y X n m D K amb v := by
  have lX := h.lX
  have RY := h.RY
  have YX := h.YX
  have eX := hc.block X h.lX (fun x => by have := hS _ x; omega)
  have eY := hc.block Y (by omega) (fun x => by have := hS _ x; omega)
  have eR := hc.block R (by omega) (fun x => by have := hS _ x; omega)
  exact ⟨(blk_cell eX _).trans h.x0, (blk_cell eX _).trans h.x1, (blk_cell eX _).trans h.x2, fun j => (blk_frz eX j).trans (h.fX j), fun j => (blk_frz eY j).trans (h.fY j), Nat.lt_of_lt_of_le h.lX hc.size, fun j hj => (blk_cell eY _).trans (h.dm j hj), own_chg h.own hc hv, Below.chg h.bel hc h.bel.size (fun b x => by have := hS _ x; have := h.wR; omega), h.wR, RY, YX, eR.trans h.r0⟩
theorem Sy.below (h : Sy w wr R Y X n m D K amb v) (hb : Below wr.heap.size wr wx) : Sy w wx R Y X n m D K amb v := h.chg (Chg.of_below hb (fun _ => False)) (fun _ x => x.elim) (fun _ _ x => x)
/-- A domain's cell is stored. -/
theorem Sy.setD (h : Sy w wr R Y X n m D K amb v) (j : Nat) (hj : j < n * 2) (x : Value) (D' : Nat → Dm) (hD : ∀ k, k < n * 2 → dV D' k = if k = j then x else dV D k) : Sy w (wr.setCell ⟨Y, j, none⟩ x) R Y X n m D' K amb v := by
  have lX := h.lX
  have RY := h.RY
  have YX := h.YX
  have wR := h.wR
  have hc := Chg.set wr Y j x
  have eX := hc.block X h.lX (by omega)
  have eR := hc.block R (by omega) (by omega)
  refine ⟨(blk_cell eX _).trans h.x0, (blk_cell eX _).trans h.x1, (blk_cell eX _).trans h.x2, fun j => (blk_frz eX j).trans (h.fX j), fun j => (set_frz ..).trans (h.fY j), Nat.lt_of_lt_of_le h.lX hc.size, fun k hk => ?_, own_chg h.own hc (fun b hb x => by have := (own_lo h.own b hb).1; omega), Below.chg h.bel hc h.bel.size (fun b x => by omega), h.wR, RY, YX, eR.trans h.r0⟩
  rw [hD k hk]
  by_cases e : k = j
  · subst e; rw [if_pos rfl]; exact set_same _ _ _ _ _ (h.dm k hj)
  · rw [if_neg e]; exact (set_off _ _ _ _ _ e).trans (h.dm k hk)
def putC (D : Nat → Dm) (i : Nat) (x : Int) : Nat → Dm := fun j => if j = i then ⟨x, (D i).a⟩ else D j
def putA (D : Nat → Dm) (i : Nat) (x : Int) : Nat → Dm := fun j => if j = i then ⟨(D i).c, x⟩ else D j
theorem Sy.setC (h : Sy w wr R Y X n m D K amb v) (i : Nat) (hi : i < n) (x : Int) : Sy w (wr.setCell ⟨Y, i * 2, none⟩ (.int .i64 x)) R Y X n m (putC D i x) K amb v :=
  h.setD (i * 2) (by omega) _ _ (fun k _ => by
    unfold dV putC
    by_cases e : k = i * 2
    · subst e; simp
    · by_cases e2 : k / 2 = i
      · have e3 : ¬ k % 2 = 0 := by omega
        simp [e, e2, e3]
      · simp [e, e2])
theorem Sy.setA (h : Sy w wr R Y X n m D K amb v) (i : Nat) (hi : i < n) (x : Int) : Sy w (wr.setCell ⟨Y, i * 2 + 1, none⟩ (.int .i64 x)) R Y X n m (putA D i x) K amb v :=
  h.setD (i * 2 + 1) (by omega) _ _ (fun k _ => by
    unfold dV putA
    by_cases e : k = i * 2 + 1
    · subst e
      have e4 : (i * 2 + 1) / 2 = i := by omega
      simp [e4]
    · by_cases e2 : k / 2 = i
      · have e3 : k % 2 = 0 := by omega
        simp [e, e2, e3]
      · simp [e, e2])
/-- A link more. -/
theorem Sy.app {w3 : World} (h : Sy w wr R Y X n m D K amb v) {v' : Value} {K' : Nat → Lk} (hg : wr.grownBy w3 v.ownBlock) (ho : w3.ownsRow (X + 1) 34 3 v' (m + 1) (vsL (lV K') ((m + 1) * 3))) : Sy w (w3.setCell ⟨X, 1, none⟩ v') R Y X n (m + 1) D K' amb v' := by
  have lX := h.lX
  have RY := h.RY
  have YX := h.YX
  have wR := h.wR
  have hc := Chg.of_grown hg
  have hS : ∀ b, v.ownBlock = some b → X < b := fun b hb => by have := (own_lo h.own b hb).1; omega
  have cc := Chg.set w3 X 1 v'
  have hc2 : Chg (fun b => v.ownBlock = some b ∨ b = X) wr (w3.setCell ⟨X, 1, none⟩ v') := (hc.mono (fun _ _ x => .inl x)).trans (cc.mono (fun _ _ x => .inr x))
  have eX := hc.block X h.lX (fun x => by have := hS _ x; omega)
  have eY := hc2.block Y (by omega) (fun x => by rcases x with x | x; · have := hS _ x; omega
                                                 · omega)
  have eR := hc2.block R (by omega) (fun x => by rcases x with x | x; · have := hS _ x; omega
                                                 · omega)
  exact ⟨(set_off _ _ _ _ _ (by decide)).trans ((blk_cell eX _).trans h.x0), set_same _ _ _ _ _ ((blk_cell eX _).trans h.x1), (set_off _ _ _ _ _ (by decide)).trans ((blk_cell eX _).trans h.x2), fun j => (set_frz ..).trans ((blk_frz eX j).trans (h.fX j)), fun j => (blk_frz eY j).trans (h.fY j), Nat.lt_of_lt_of_le h.lX hc2.size, fun j hj => (blk_cell eY _).trans (h.dm j hj), own_chg ho cc (fun b hb x => by have := (own_lo ho b hb).1; omega), Below.chg h.bel hc2 h.bel.size (fun b x => by
    rcases x with x | x
    · have := hS _ x; omega
    · omega), h.wR, RY, YX, eR.trans h.r0⟩
end
/-! ## The system is good -/
def same (K : Nat → Lk) (p q : Int) (j : Nat) : Bool := ((K j).a == p && (K j).b == q) || ((K j).a == q && (K j).b == p)
def okK (K : Nat → Lk) (p q : Int) : Nat → Bool
  | 0 => p != q
  | k + 1 => okK K p q k && !same K p q k
theorem okK_at {K : Nat → Lk} {p q : Int} {k : Nat} (h : okK K p q k = true) : p ≠ q ∧ ∀ j, j < k → same K p q j = false := by
  induction k with
  | zero => exact ⟨bne_iff_ne.1 h, fun j hj => by omega⟩
  | succ k ih =>
    unfold okK at h
    rw [Bool.and_eq_true] at h
    refine ⟨(ih h.1).1, fun j hj => ?_⟩
    rcases Nat.lt_or_ge j k with e | e
    · exact (ih h.1).2 j e
    · obtain rfl : j = k := by omega
      simpa using h.2
structure Gd (n m : Nat) (D : Nat → Dm) (K : Nat → Lk) : Prop where
  d : ∀ j, j < n → 1 ≤ (D j).a ∧ (D j).a ≤ 6 ∧ ldK D K m j ≤ (D j).c ∧ (D j).c ≤ 13 + 10 * (m : Int)
  l : ∀ l, l < m → ∃ p q : Nat, (K l).a = p ∧ (K l).b = q ∧ p < n ∧ q < n ∧ p ≠ q ∧ 1 ≤ (K l).c ∧ (K l).c ≤ 5
  pr : ∀ l l2, l < l2 → l2 < m → prL K l ≠ prL K l2
theorem ldK_congr {D D' : Nat → Dm} {K K' : Nat → Lk} {m j : Nat} (hd : (D' j).a = (D j).a) (hk : ∀ l, l < m → K' l = K l) : ldK D' K' m j = ldK D K m j := by
  induction m with
  | zero => exact hd
  | succ m ih =>
    unfold ldK
    rw [ih (fun l hl => hk l (by omega)), hk m (by omega)]
def addK (K : Nat → Lk) (m : Nat) (x : Lk) : Nat → Lk := fun l => if l = m then x else K l
theorem Gd.add {n m : Nat} {D : Nat → Dm} {K : Nat → Lk} (g : Gd n m D K) {p q : Nat} {c : Int} (hp : p < n) (hq : q < n) (hc : 1 ≤ c ∧ c ≤ 5) (ok : okK K p q m = true) :
    Gd n (m + 1) (putC (putC D p ((D p).c + c)) q ((putC D p ((D p).c + c) q).c + c)) (addK K m ⟨p, q, c⟩) := by
  obtain ⟨hne, hs⟩ := okK_at ok
  have hpq : p ≠ q := fun e => hne (by rw [e])
  have hk : ∀ l, l < m → addK K m ⟨p, q, c⟩ l = K l := fun l hl => if_neg (by omega)
  have hm : addK K m ⟨p, q, c⟩ m = ⟨p, q, c⟩ := if_pos rfl
  refine ⟨fun j hj => ?_, fun l hl => ?_, fun l l2 h1 h2 => ?_⟩
  · obtain ⟨a1, a2, a3, a4⟩ := g.d j hj
    have e : ldK (putC (putC D p ((D p).c + c)) q ((putC D p ((D p).c + c) q).c + c)) (addK K m ⟨p, q, c⟩) m j = ldK D K m j := ldK_congr (by
      unfold putC
      by_cases e1 : j = q
      · rw [if_pos e1]; simp only; rw [if_neg (by omega), e1]
      · rw [if_neg e1]
        by_cases e2 : j = p
        · rw [if_pos e2, e2]
        · rw [if_neg e2]) hk
    show _ ∧ _ ∧ ldK _ _ m j + (if (addK K m ⟨p, q, c⟩ m).a = (j : Int) then (addK K m ⟨p, q, c⟩ m).c else 0) + (if (addK K m ⟨p, q, c⟩ m).b = (j : Int) then (addK K m ⟨p, q, c⟩ m).c else 0) ≤ _ ∧ _
    rw [e, hm]
    show _ ∧ _ ∧ ldK D K m j + (if (p : Int) = (j : Int) then c else 0) + (if (q : Int) = (j : Int) then c else 0) ≤ _ ∧ _
    unfold putC
    by_cases e1 : j = q
    · subst e1
      rw [if_pos rfl, if_neg (by omega), if_pos rfl]
      simp only
      rw [if_neg (by omega)]
      omega
    · rw [if_neg e1]
      by_cases e2 : j = p
      · subst e2
        rw [if_pos rfl, if_pos rfl, if_neg (by omega)]
        simp only
        omega
      · rw [if_neg e2, if_neg (by omega), if_neg (by omega)]
        omega
  · rcases Nat.lt_or_ge l m with e | e
    · rw [hk l e]; exact g.l l e
    · obtain rfl : l = m := by omega
      rw [hm]
      exact ⟨p, q, rfl, rfl, hp, hq, hpq, hc.1, hc.2⟩
  · rcases Nat.lt_or_ge l2 m with e | e
    · unfold prL
      rw [hk l (by omega), hk l2 e]
      exact g.pr l l2 h1 e
    · obtain rfl : l2 = m := by omega
      have S := hs l h1
      unfold prL
      rw [hk l h1, hm]
      intro e
      injection e with e1 e2
      simp only at e1 e2
      have S2 : ¬ (((K l).a = p ∧ (K l).b = q) ∨ ((K l).a = q ∧ (K l).b = p)) := fun h => by
        have : same K p q l = true := by
          unfold same
          rcases h with ⟨x, y⟩ | ⟨x, y⟩ <;> rw [x, y] <;> simp
        rw [S] at this
        cases this
      by_cases c1 : (K l).a ≤ (K l).b
      · rw [if_pos c1] at e1 e2
        by_cases c2 : (p : Int) ≤ q
        · rw [if_pos c2] at e1 e2; exact S2 (.inl ⟨e1, e2⟩)
        · rw [if_neg c2] at e1 e2; exact S2 (.inr ⟨e1, e2⟩)
      · rw [if_neg c1] at e1 e2
        by_cases c2 : (p : Int) ≤ q
        · rw [if_pos c2] at e1 e2; exact S2 (.inr ⟨e2, e1⟩)
        · rw [if_neg c2] at e1 e2; exact S2 (.inl ⟨e2, e1⟩)
def SoP (w : World) (e : Ending) (w' : World) : Prop := ∃ n D m K amb A B cb, e = .returned (.agg #[.slice (some A) n n, .slice B m cb, .int .i64 amb]) ∧ Fl w' (some A) 2 n (dV D) ∧ Fl w' B 3 m (lV K) ∧ (B = none → m = 0 ∧ cb = 0) ∧ Gd n m D K ∧ 1 ≤ n ∧ n ≤ 5 ∧ m ≤ 12 ∧ -100 ≤ amb ∧ amb ≤ 100 ∧ Below w.heap.size w w'
theorem Gd.va {n m : Nat} {D : Nat → Dm} {K : Nat → Lk} (g : Gd n m D K) {s : Int} (n1 : 1 ≤ n) (n2 : n ≤ 5) (m1 : m ≤ 12) (s1 : -100 ≤ s) (s2 : s ≤ 70000) : Va n D m K s :=
  ⟨n1, by omega, by omega, by omega, fun i hi => by have := g.d i hi; omega, fun l hl => by
    obtain ⟨p, q, a, b, c, d, e, f, g⟩ := g.l l hl
    exact ⟨p, q, a, b, c, d, e, f, by omega⟩, g.pr, fun i hi => (g.d i hi).2.2.1⟩
end Go.Proofs.Ytidegjinfacjjaa
