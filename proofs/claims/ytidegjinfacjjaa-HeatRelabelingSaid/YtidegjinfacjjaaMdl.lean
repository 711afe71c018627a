/- The heat model, plain; it lies in memory. -/
import Derived.Test.YtidegjinfacjjaaBas
namespace Go.Proofs.Ytidegjinfacjjaa
open Go.ChangeShapes Go.WideShapes Go.ChangeAt Go.RowKit Go.Deep Go.Joins

structure Dm where
  c : Int
  a : Int
structure Lk where
  a : Int
  b : Int
  c : Int
def dV (D : Nat → Dm) (j : Nat) : Value := .int .i64 (if j % 2 = 0 then (D (j / 2)).c else (D (j / 2)).a)
def lV (K : Nat → Lk) (j : Nat) : Value := .int .i64 (if j % 3 = 0 then (K (j / 3)).a else if j % 3 = 1 then (K (j / 3)).b else (K (j / 3)).c)
def eV (E : Nat → Int) (j : Nat) : Value := .int .i64 (E j)
theorem dV0 (D : Nat → Dm) (i : Nat) : dV D (i * 2) = .int .i64 (D i).c := by simp [dV]
theorem dV1 (D : Nat → Dm) (i : Nat) : dV D (i * 2 + 1) = .int .i64 (D i).a := by
  unfold dV
  rw [if_neg (by omega), show (i * 2 + 1) / 2 = i by omega]
theorem lV0 (K : Nat → Lk) (i : Nat) : lV K (i * 3) = .int .i64 (K i).a := by simp [lV]
theorem lV1 (K : Nat → Lk) (i : Nat) : lV K (i * 3 + 1) = .int .i64 (K i).b := by
  unfold lV
  rw [if_neg (by omega), if_pos (by omega), show (i * 3 + 1) / 3 = i by omega]
theorem lV2 (K : Nat → Lk) (i : Nat) : lV K (i * 3 + 2) = .int .i64 (K i).c := by
  unfold lV
  rw [if_neg (by omega), if_neg (by omega), show (i * 3 + 2) / 3 = i by omega]
theorem dV_one (D : Nat → Dm) (j : Nat) : (dV D j).oneCell' = true := rfl
theorem lV_one (K : Nat → Lk) (j : Nat) : (lV K j).oneCell' = true := rfl
theorem eV_one (E : Nat → Int) (j : Nat) : (eV E j).oneCell' = true := rfl
theorem Fl.dat {w : World} {A : Option Addr} {n : Nat} {D : Nat → Dm} (h : Fl w A 2 n (dV D)) {i : Nat} (hi : i < n) : ∃ b off, A = some ⟨b, off, none⟩ ∧ b < w.heap.size ∧ w.cell? ⟨b, off + i * 2, none⟩ = some (.int .i64 (D i).c) ∧ w.cell? ⟨b, off + i * 2 + 1, none⟩ = some (.int .i64 (D i).a) := by
  rcases h.row with h0 | ⟨b, off, hA, hlt, hc⟩
  · omega
  · exact ⟨b, off, hA, hlt, by rw [hc _ (by omega), dV0], by rw [Nat.add_assoc, hc _ (by omega), dV1]⟩
theorem Fl.lat {w : World} {A : Option Addr} {n : Nat} {K : Nat → Lk} (h : Fl w A 3 n (lV K)) {i : Nat} (hi : i < n) : ∃ b off, A = some ⟨b, off, none⟩ ∧ b < w.heap.size ∧ w.cell? ⟨b, off + i * 3, none⟩ = some (.int .i64 (K i).a) ∧ w.cell? ⟨b, off + i * 3 + 1, none⟩ = some (.int .i64 (K i).b) ∧ w.cell? ⟨b, off + i * 3 + 2, none⟩ = some (.int .i64 (K i).c) := by
  rcases h.row with h0 | ⟨b, off, hA, hlt, hc⟩
  · omega
  · exact ⟨b, off, hA, hlt, by rw [hc _ (by omega), lV0], by rw [Nat.add_assoc, hc _ (by omega), lV1], by rw [Nat.add_assoc, hc _ (by omega), lV2]⟩
theorem Fl.eat {w : World} {A : Option Addr} {n : Nat} {E : Nat → Int} (h : Fl w A 1 n (eV E)) {i : Nat} (hi : i < n) : ∃ b off, A = some ⟨b, off, none⟩ ∧ b < w.heap.size ∧ w.cell? ⟨b, off + i, none⟩ = some (.int .i64 (E i)) := by
  rcases h.row with h0 | ⟨b, off, hA, hlt, hc⟩
  · omega
  · exact ⟨b, off, hA, hlt, by rw [hc _ (by omega)]; rfl⟩
theorem Fl.dat' {w : World} {A : Option Addr} {b off n : Nat} {D : Nat → Dm} (h : Fl w A 2 n (dV D)) (e : A = some ⟨b, off, none⟩) {i : Nat} (hi : i < n) : b < w.heap.size ∧ w.cell? ⟨b, off + i * 2, none⟩ = some (.int .i64 (D i).c) ∧ w.cell? ⟨b, off + i * 2 + 1, none⟩ = some (.int .i64 (D i).a) := by
  obtain ⟨b', off', hA, r⟩ := h.dat hi
  rw [hA] at e
  injection e with e
  injection e with e1 e2 _
  subst e1 e2
  exact r
theorem Fl.lat' {w : World} {A : Option Addr} {b off n : Nat} {K : Nat → Lk} (h : Fl w A 3 n (lV K)) (e : A = some ⟨b, off, none⟩) {i : Nat} (hi : i < n) : b < w.heap.size ∧ w.cell? ⟨b, off + i * 3, none⟩ = some (.int .i64 (K i).a) ∧ w.cell? ⟨b, off + i * 3 + 1, none⟩ = some (.int .i64 (K i).b) ∧ w.cell? ⟨b, off + i * 3 + 2, none⟩ = some (.int .i64 (K i).c) := by
  obtain ⟨b', off', hA, r⟩ := h.lat hi
  rw [hA] at e
  injection e with e
  injection e with e1 e2 _
  subst e1 e2
  exact r
theorem Fl.eat' {w : World} {A : Option Addr} {b off n : Nat} {E : Nat → Int} (h : Fl w A 1 n (eV E)) (e : A = some ⟨b, off, none⟩) {i : Nat} (hi : i < n) : b < w.heap.size ∧ w.cell? ⟨b, off + i, none⟩ = some (.int .i64 (E i)) := by
  obtain ⟨b', off', hA, r⟩ := h.eat hi
  rw [hA] at e
  injection e with e
  injection e with e1 e2 _
  subst e1 e2
  exact r
theorem Fl.addr {w : World} {A : Option Addr} {k n : Nat} {V : Nat → Value} (h : Fl w A k n V) (hn : 0 < n) : ∃ b off, A = some ⟨b, off, none⟩ ∧ b < w.heap.size := by
  rcases h.row with h0 | ⟨b, off, hA, hlt, _⟩
  · omega
  · exact ⟨b, off, hA, hlt⟩
/-- A model; ghosts: its blocks L and X, the addresses of its slices. -/
structure Mo where
  L : Nat
  X : Nat
  A : Option Addr
  ca : Nat
  B : Option Addr
  cb : Nat
  ce : Nat
  n : Nat
  D : Nat → Dm
  m : Nat
  K : Nat → Lk
  s : Int
  E : Nat → Int
  o : Int
/-- It lies in memory. -/
structure Hm (w : World) (h : Mo) : Prop where
  c0 : w.cell? ⟨h.L, 0, none⟩ = some (.slice h.A h.n h.ca)
  c1 : w.cell? ⟨h.L, 1, none⟩ = some (.slice h.B h.m h.cb)
  c2 : w.cell? ⟨h.L, 2, none⟩ = some (.int .i64 h.s)
  c3 : w.cell? ⟨h.L, 3, none⟩ = some (.slice (some ⟨h.X, 0, none⟩) h.n h.ce)
  c4 : w.cell? ⟨h.L, 4, none⟩ = some (.int .i64 h.o)
  fL : ∀ j, w.frozen? ⟨h.L, j, none⟩ = false
  fX : ∀ j, w.frozen? ⟨h.X, j, none⟩ = false
  lL : h.L < w.heap.size
  lX : h.X < w.heap.size
  LX : h.L ≠ h.X
  dm : Fl w h.A 2 h.n (dV h.D)
  lk : Fl w h.B 3 h.m (lV h.K)
  aL : ∀ a, h.A = some a → a.block ≠ h.L ∧ a.block ≠ h.X
  bL : ∀ a, h.B = some a → a.block ≠ h.L ∧ a.block ≠ h.X
  en : ∀ i, i < h.n → w.cell? ⟨h.X, i, none⟩ = some (.int .i64 (h.E i))
  n1 : 1 ≤ h.n
  n2 : h.n ≤ 16
  m1 : h.m ≤ 1000
def Mo.uses (h : Mo) (b : Nat) : Prop := b = h.L ∨ b = h.X ∨ (∃ a, h.A = some a ∧ a.block = b) ∨ (∃ a, h.B = some a ∧ a.block = b)
def Mo.wr (h : Mo) (b : Nat) : Prop := b = h.L ∨ b = h.X
theorem blk_cell {w w' : World} {b : Nat} (h : w'.heap[b]? = w.heap[b]?) (j : Nat) : w'.cell? ⟨b, j, none⟩ = w.cell? ⟨b, j, none⟩ := World.cell?_of_block h
theorem blk_frz {w w' : World} {b : Nat} (h : w'.heap[b]? = w.heap[b]?) (j : Nat) : w'.frozen? ⟨b, j, none⟩ = w.frozen? ⟨b, j, none⟩ := by unfold World.frozen?; rw [h]
section
variable {w w' : World} {h : Mo}
theorem Hm.keep {S : Nat → Prop} (k : Hm w h) (hc : Chg S w w') (hs : ∀ b, h.uses b → ¬ S b) : Hm w' h := by
  have eL := hc.block h.L k.lL (hs _ (.inl rfl))
  have eX := hc.block h.X k.lX (hs _ (.inr (.inl rfl)))
  exact ⟨(blk_cell eL _).trans k.c0, (blk_cell eL _).trans k.c1, (blk_cell eL _).trans k.c2, (blk_cell eL _).trans k.c3, (blk_cell eL _).trans k.c4, fun j => (blk_frz eL j).trans (k.fL j), fun j => (blk_frz eX j).trans (k.fX j), Nat.lt_of_lt_of_le k.lL hc.size, Nat.lt_of_lt_of_le k.lX hc.size, k.LX, k.dm.chg hc (fun a e _ => hs _ (.inr (.inr (.inl ⟨a, e, rfl⟩)))), k.lk.chg hc (fun a e _ => hs _ (.inr (.inr (.inr ⟨a, e, rfl⟩)))), k.aL, k.bL, fun i hi => (blk_cell eX _).trans (k.en i hi), k.n1, k.n2, k.m1⟩
theorem Hm.below (k : Hm w h) (hb : Below w.heap.size w w') : Hm w' h := k.keep (Chg.of_below hb (fun _ => False)) (fun _ _ x => x)
theorem set_same (w : World) (b j : Nat) (v u : Value) (hu : w.cell? ⟨b, j, none⟩ = some u) : (w.setCell ⟨b, j, none⟩ v).cell? ⟨b, j, none⟩ = some v := World.cell?_setCell_same w _ _ hu
theorem set_off (w : World) (b j i : Nat) (v : Value) (h : i ≠ j) : (w.setCell ⟨b, j, none⟩ v).cell? ⟨b, i, none⟩ = w.cell? ⟨b, i, none⟩ :=
  World.cell?_setCell_other w _ _ _ (fun e => h (by injection e with _ e2; exact e2.symm))
theorem set_frz (w : World) (b j x i : Nat) (v : Value) : (w.setCell ⟨b, j, none⟩ v).frozen? ⟨x, i, none⟩ = w.frozen? ⟨x, i, none⟩ := by simp [go_sem]
def Mo.setE (h : Mo) (i : Nat) (x : Int) : Mo := { h with E := fun j => if j = i then x else h.E j }
def Mo.setO (h : Mo) (x : Int) : Mo := { h with o := x }
theorem Hm.setE (k : Hm w h) (i : Nat) (hi : i < h.n) (x : Int) : Hm (w.setCell ⟨h.X, i, none⟩ (.int .i64 x)) (h.setE i x) := by
  have hc := Chg.set w h.X i (.int .i64 x)
  have eL := hc.block h.L k.lL k.LX
  refine ⟨(blk_cell eL _).trans k.c0, (blk_cell eL _).trans k.c1, (blk_cell eL _).trans k.c2, (blk_cell eL _).trans k.c3, (blk_cell eL _).trans k.c4, fun j => (set_frz ..).trans (k.fL j), fun j => (set_frz ..).trans (k.fX j), Nat.lt_of_lt_of_le k.lL hc.size, Nat.lt_of_lt_of_le k.lX hc.size, k.LX, k.dm.chg hc (fun a e _ => (k.aL a e).2), k.lk.chg hc (fun a e _ => (k.bL a e).2), k.aL, k.bL, fun j hj => ?_, k.n1, k.n2, k.m1⟩
  show _ = some (Value.int .i64 (if j = i then x else h.E j))
  by_cases e : j = i
  · subst e; rw [if_pos rfl]; exact set_same _ _ _ _ _ (k.en j hi)
  · rw [if_neg e]; exact (set_off _ _ _ _ _ e).trans (k.en j hj)
theorem Hm.setO (k : Hm w h) (x : Int) : Hm (w.setCell ⟨h.L, 4, none⟩ (.int .i64 x)) (h.setO x) := by
  have hc := Chg.set w h.L 4 (.int .i64 x)
  have eX := hc.block h.X k.lX (fun e => k.LX e.symm)
  exact ⟨(set_off _ _ _ _ _ (by decide)).trans k.c0, (set_off _ _ _ _ _ (by decide)).trans k.c1, (set_off _ _ _ _ _ (by decide)).trans k.c2, (set_off _ _ _ _ _ (by decide)).trans k.c3, set_same _ _ _ _ _ k.c4, fun j => (set_frz ..).trans (k.fL j), fun j => (set_frz ..).trans (k.fX j), Nat.lt_of_lt_of_le k.lL hc.size, Nat.lt_of_lt_of_le k.lX hc.size, k.LX, k.dm.chg hc (fun a e _ => (k.aL a e).1), k.lk.chg hc (fun a e _ => (k.bL a e).1), k.aL, k.bL, fun i hi => (blk_cell eX _).trans (k.en i hi), k.n1, k.n2, k.m1⟩
end
/-! ## Numbers -/
theorem tdiv_fix (a b : Int) (hb : 0 < b) : (if a.tmod b < 0 then a.tdiv b - 1 else a.tdiv b) = a / b := by
  have h1 := Int.tmod_add_mul_tdiv a b
  have h2 := Int.tmod_lt_of_pos a hb
  have h3 : -b < a.tmod b := by
    have := Int.lt_tmod_of_pos a hb
    omega
  split
  · exact ((Int.ediv_emod_unique (r := a.tmod b + b) hb).2 ⟨by rw [Int.mul_sub, Int.mul_one]; omega, by omega, by omega⟩).1.symm
  · exact ((Int.ediv_emod_unique (r := a.tmod b) hb).2 ⟨by omega, by omega, by omega⟩).1.symm
def big : Int := 1125899906842624
/-- The temperature of domain i. -/
def Mo.T (h : Mo) (i : Nat) : Int := h.E i / (h.D i).c
theorem cells_at {w : World} {b t : Nat} {cs : Array Value} {fr : Nat × Nat} (h : w.heap[b]? = some (.cells cs t fr)) (j : Nat) : w.cell? ⟨b, j, none⟩ = cs[j]? := by
  unfold World.cell?
  rw [h]
  rfl
theorem new_c (w : World) (cs : Array Value) (t j : Nat) : (w.alloc (.cells cs t)).cell? ⟨w.heap.size, j, none⟩ = cs[j]? := cells_at (heap_alloc_new w _) j
theorem bx3 (w : World) (x y z : Value) (t : Nat) : (w.alloc (.cells #[x, y, z] t)).cell? ⟨w.heap.size, 0, none⟩ = some x ∧ (w.alloc (.cells #[x, y, z] t)).cell? ⟨w.heap.size, 1, none⟩ = some y ∧ (w.alloc (.cells #[x, y, z] t)).cell? ⟨w.heap.size, 2, none⟩ = some z := ⟨new_c .., new_c .., new_c ..⟩
theorem bx2 (w : World) (x y : Value) (t : Nat) : (w.alloc (.cells #[x, y] t)).cell? ⟨w.heap.size, 0, none⟩ = some x ∧ (w.alloc (.cells #[x, y] t)).cell? ⟨w.heap.size, 1, none⟩ = some y := ⟨new_c .., new_c ..⟩
theorem both {x y : Int} (h : -9223372036854775808 ≤ x ∧ x ≤ 9223372036854775807) (e : x = y) : IntKind.i64.wrap x = y ∧ wrap64 x = y := by
  subst e
  exact ⟨IntWalk.i64_in _ h, IntWalk.wrap64_in _ h⟩
end Go.Proofs.Ytidegjinfacjjaa
