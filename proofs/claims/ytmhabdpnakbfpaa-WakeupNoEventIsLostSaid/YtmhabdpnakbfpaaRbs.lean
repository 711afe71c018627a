/- The reference's sources in memory: the same plain state. -/
import Derived.Test.YtmhabdpnakbfpaaEvs
namespace Go.Proofs.Ytmhabdpnakbfpaa
open Go.ChangeShapes Go.WideShapes Go.ChangeAt Go.RowKit Go.Deep Go.Joins

/-- Where the reference's sources lie. -/
structure Ry where
  L : Nat
  X : Nat
  Y : Nat
  c : Nat
  d : Nat
structure Rk (w : World) (s : WS) (y : Ry) : Prop where
  c0 : w.cell? ⟨y.L, 0, none⟩ = some (.slice (some ⟨y.X, 0, none⟩) s.n y.c)
  c1 : w.cell? ⟨y.L, 1, none⟩ = some (.slice (some ⟨y.Y, 0, none⟩) s.n y.d)
  c2 : ∃ v, w.cell? ⟨y.L, 2, none⟩ = some (.int .u64 v) ∧ (s.al = true → v = s.a)
  c3 : w.cell? ⟨y.L, 3, none⟩ = some (.bool s.al)
  c4 : w.cell? ⟨y.L, 4, none⟩ = some (.int .i64 s.ev)
  c5 : w.cell? ⟨y.L, 5, none⟩ = some (.bool s.ar)
  c6 : ∃ v, w.cell? ⟨y.L, 6, none⟩ = some (.int .i64 v) ∧ (s.ar = true → v = s.rm)
  c7 : w.cell? ⟨y.L, 7, none⟩ = some (.int .u64 s.ck)
  f : ∀ b, b = y.L ∨ b = y.X ∨ b = y.Y → ∀ j, w.frozen? ⟨b, j, none⟩ = false
  lL : y.L < w.heap.size
  lX : y.X < w.heap.size
  lY : y.Y < w.heap.size
  XL : y.X ≠ y.L
  YL : y.Y ≠ y.L
  XY : y.X ≠ y.Y
  hn : s.n ≤ 32
  on : ∀ i, i < s.n → w.cell? ⟨y.X, i, none⟩ = some (.bool (s.q i).on)
  hd : ∀ i, i < s.n → ∃ v, w.cell? ⟨y.Y, i, none⟩ = some (.int .u64 v) ∧ ((s.q i).on = true → v = if (s.q i).hd then (s.q i).t + 1 else 0)
  tb : ∀ i, i < s.n → (s.q i).on = true → (s.q i).hd = true → 0 ≤ (s.q i).t ∧ (s.q i).t ≤ 2305843009213693952
  ck0 : 0 ≤ s.ck
/-- The worlds differ at the places of P alone. -/
structure Df (w W : World) (P : Nat → Nat → Prop) : Prop where
  c : ∀ b j, ¬ P b j → W.cell? ⟨b, j, none⟩ = w.cell? ⟨b, j, none⟩
  f : ∀ a, W.frozen? a = w.frozen? a
  s : W.heap.size = w.heap.size
theorem Df.refl (w : World) (P : Nat → Nat → Prop) : Df w w P := ⟨fun _ _ _ => rfl, fun _ => rfl, rfl⟩
theorem Df.set {w W : World} {P : Nat → Nat → Prop} (h : Df w W P) (b j : Nat) (v : Value) (hp : P b j) : Df w (W.setCell ⟨b, j, none⟩ v) P :=
  ⟨fun b' j' hn => (World.cell?_setCell_other W _ _ _ (fun e => hn (by injection e with e1 e2; rw [← e1, ← e2]; exact hp))).trans (h.c b' j' hn), fun a => (World.frozen?_setCell _ _ _ _).trans (h.f a), by simpa using h.s⟩
/-- Only the blocks of the reference's sources have changed. -/
def CY (y : Ry) (w w' : World) : Prop := Chg (fun b => b = y.L ∨ b = y.X ∨ b = y.Y) w w'
def RoP (w : World) (y : Ry) (s' : WS) (v : Value) (e : Ending) (w' : World) : Prop := e = .returned v ∧ Rk w' s' y ∧ CY y w w'
section
variable {w : World} {s : WS} {y : Ry}
theorem cy_refl : CY y w w := Chg.refl _ _
theorem CY.trans' {w1 w2 : World} (h : CY y w w1) (k : CY y w1 w2) : CY y w w2 := h.trans k
theorem cy_set {w' : World} (h : CY y w w') (b j : Nat) (v : Value) (hb : b = y.L ∨ b = y.X ∨ b = y.Y) : CY y w (w'.setCell ⟨b, j, none⟩ v) := h.trans ((Chg.set w' b j v).mono (fun _ _ e => by rw [e]; exact hb))
theorem Rk.keep {w' : World} (h : Rk w s y) (hc : ∀ b, b = y.L ∨ b = y.X ∨ b = y.Y → w'.heap[b]? = w.heap[b]?) : Rk w' s y := by
  have hs : ∀ b, b < w.heap.size → (b = y.L ∨ b = y.X ∨ b = y.Y) → b < w'.heap.size := fun b h2 hb => by
    have h1 := hc b hb
    rw [Array.getElem?_eq_getElem h2] at h1
    exact (Array.getElem?_eq_some_iff.1 h1).1
  have c : ∀ b j, (b = y.L ∨ b = y.X ∨ b = y.Y) → w'.cell? ⟨b, j, none⟩ = w.cell? ⟨b, j, none⟩ := fun b j hb => World.cell?_of_block (hc b hb)
  have l : y.L = y.L ∨ y.L = y.X ∨ y.L = y.Y := .inl rfl
  have x : y.X = y.L ∨ y.X = y.X ∨ y.X = y.Y := .inr (.inl rfl)
  have z : y.Y = y.L ∨ y.Y = y.X ∨ y.Y = y.Y := .inr (.inr rfl)
  obtain ⟨v2, h2, h2'⟩ := h.c2
  obtain ⟨v6, h6, h6'⟩ := h.c6
  exact ⟨(c _ _ l).trans h.c0, (c _ _ l).trans h.c1, ⟨v2, (c _ _ l).trans h2, h2'⟩, (c _ _ l).trans h.c3, (c _ _ l).trans h.c4, (c _ _ l).trans h.c5, ⟨v6, (c _ _ l).trans h6, h6'⟩, (c _ _ l).trans h.c7,
    fun b hb j => (World.frozen?_of_block (hc b hb)).trans (h.f b hb j), hs _ h.lL l, hs _ h.lX x, hs _ h.lY z, h.XL, h.YL, h.XY, h.hn, fun i hi => (c _ _ x).trans (h.on i hi),
    fun i hi => by obtain ⟨v, e, e'⟩ := h.hd i hi; exact ⟨v, (c _ _ z).trans e, e'⟩, h.tb, h.ck0⟩
theorem Rk.below {w' : World} (h : Rk w s y) (hb : Below w.heap.size w w') : Rk w' s y := h.keep (fun b hb' => hb.block b (by rcases hb' with rfl | rfl | rfl; exact h.lL; exact h.lX; exact h.lY))
theorem Rk.ck {W : World} (h : Rk w s y) (x : Int) (hx : 0 ≤ x) (D : Df w W (fun b j => b = y.L ∧ j = 7)) (n7 : W.cell? ⟨y.L, 7, none⟩ = some (.int .u64 x)) : Rk W { s with ck := x } y := by
  have hXL := h.XL
  have hYL := h.YL
  have hXY := h.XY
  exact {
    c0 := (D.c _ _ (by omega)).trans h.c0
    c1 := (D.c _ _ (by omega)).trans h.c1
    c2 := by obtain ⟨v, e, e'⟩ := h.c2; exact ⟨v, (D.c _ _ (by omega)).trans e, e'⟩
    c3 := (D.c _ _ (by omega)).trans h.c3
    c4 := (D.c _ _ (by omega)).trans h.c4
    c5 := (D.c _ _ (by omega)).trans h.c5
    c6 := by obtain ⟨v, e, e'⟩ := h.c6; exact ⟨v, (D.c _ _ (by omega)).trans e, e'⟩
    c7 := n7
    f := fun b hb j => (D.f _).trans (h.f b hb j)
    lL := by rw [D.s]; exact h.lL
    lX := by rw [D.s]; exact h.lX
    lY := by rw [D.s]; exact h.lY
    XL := h.XL
    YL := h.YL
    XY := h.XY
    hn := h.hn
    on := fun i hi => (D.c _ _ (by omega)).trans (h.on i hi)
    hd := fun i hi => by obtain ⟨v, e, e'⟩ := h.hd i hi; exact ⟨v, (D.c _ _ (by omega)).trans e, e'⟩
    tb := h.tb
    ck0 := hx
  }
theorem Rk.al0 {W : World} (h : Rk w s y) (x : Int) (D : Df w W (fun b j => b = y.L ∧ (j = 3 ∨ j = 4))) (n3 : W.cell? ⟨y.L, 3, none⟩ = some (.bool false)) (n4 : W.cell? ⟨y.L, 4, none⟩ = some (.int .i64 x)) : Rk W { s with al := false, ev := x } y := by
  have hXL := h.XL
  have hYL := h.YL
  have hXY := h.XY
  exact {
    c0 := (D.c _ _ (by omega)).trans h.c0
    c1 := (D.c _ _ (by omega)).trans h.c1
    c2 := by obtain ⟨v, e, _⟩ := h.c2; exact ⟨v, (D.c _ _ (by omega)).trans e, (fun hh => by cases hh)⟩
    c3 := n3
    c4 := n4
    c5 := (D.c _ _ (by omega)).trans h.c5
    c6 := by obtain ⟨v, e, e'⟩ := h.c6; exact ⟨v, (D.c _ _ (by omega)).trans e, e'⟩
    c7 := (D.c _ _ (by omega)).trans h.c7
    f := fun b hb j => (D.f _).trans (h.f b hb j)
    lL := by rw [D.s]; exact h.lL
    lX := by rw [D.s]; exact h.lX
    lY := by rw [D.s]; exact h.lY
    XL := h.XL
    YL := h.YL
    XY := h.XY
    hn := h.hn
    on := fun i hi => (D.c _ _ (by omega)).trans (h.on i hi)
    hd := fun i hi => by obtain ⟨v, e, e'⟩ := h.hd i hi; exact ⟨v, (D.c _ _ (by omega)).trans e, e'⟩
    tb := h.tb
    ck0 := h.ck0
  }
theorem Rk.al1 {W : World} (h : Rk w s y) (x : Int) (D : Df w W (fun b j => b = y.L ∧ (j = 2 ∨ j = 3))) (n3 : W.cell? ⟨y.L, 3, none⟩ = some (.bool true)) (n2 : W.cell? ⟨y.L, 2, none⟩ = some (.int .u64 x)) : Rk W { s with al := true, a := x } y := by
  have hXL := h.XL
  have hYL := h.YL
  have hXY := h.XY
  exact {
    c0 := (D.c _ _ (by omega)).trans h.c0
    c1 := (D.c _ _ (by omega)).trans h.c1
    c2 := ⟨x, n2, fun _ => rfl⟩
    c3 := n3
    c4 := (D.c _ _ (by omega)).trans h.c4
    c5 := (D.c _ _ (by omega)).trans h.c5
    c6 := by obtain ⟨v, e, e'⟩ := h.c6; exact ⟨v, (D.c _ _ (by omega)).trans e, e'⟩
    c7 := (D.c _ _ (by omega)).trans h.c7
    f := fun b hb j => (D.f _).trans (h.f b hb j)
    lL := by rw [D.s]; exact h.lL
    lX := by rw [D.s]; exact h.lX
    lY := by rw [D.s]; exact h.lY
    XL := h.XL
    YL := h.YL
    XY := h.XY
    hn := h.hn
    on := fun i hi => (D.c _ _ (by omega)).trans (h.on i hi)
    hd := fun i hi => by obtain ⟨v, e, e'⟩ := h.hd i hi; exact ⟨v, (D.c _ _ (by omega)).trans e, e'⟩
    tb := h.tb
    ck0 := h.ck0
  }
theorem Rk.ar0 {W : World} (h : Rk w s y) (x : Int) (D : Df w W (fun b j => b = y.L ∧ j = 5)) (n5 : W.cell? ⟨y.L, 5, none⟩ = some (.bool false)) : Rk W { s with ar := false, rm := x } y := by
  have hXL := h.XL
  have hYL := h.YL
  have hXY := h.XY
  exact {
    c0 := (D.c _ _ (by omega)).trans h.c0
    c1 := (D.c _ _ (by omega)).trans h.c1
    c2 := by obtain ⟨v, e, e'⟩ := h.c2; exact ⟨v, (D.c _ _ (by omega)).trans e, e'⟩
    c3 := (D.c _ _ (by omega)).trans h.c3
    c4 := (D.c _ _ (by omega)).trans h.c4
    c5 := n5
    c6 := by obtain ⟨v, e, _⟩ := h.c6; exact ⟨v, (D.c _ _ (by omega)).trans e, (fun hh => by cases hh)⟩
    c7 := (D.c _ _ (by omega)).trans h.c7
    f := fun b hb j => (D.f _).trans (h.f b hb j)
    lL := by rw [D.s]; exact h.lL
    lX := by rw [D.s]; exact h.lX
    lY := by rw [D.s]; exact h.lY
    XL := h.XL
    YL := h.YL
    XY := h.XY
    hn := h.hn
    on := fun i hi => (D.c _ _ (by omega)).trans (h.on i hi)
    hd := fun i hi => by obtain ⟨v, e, e'⟩ := h.hd i hi; exact ⟨v, (D.c _ _ (by omega)).trans e, e'⟩
    tb := h.tb
    ck0 := h.ck0
  }
theorem Rk.ar1 {W : World} (h : Rk w s y) (x : Int) (D : Df w W (fun b j => b = y.L ∧ (j = 5 ∨ j = 6))) (n5 : W.cell? ⟨y.L, 5, none⟩ = some (.bool true)) (n6 : W.cell? ⟨y.L, 6, none⟩ = some (.int .i64 x)) : Rk W { s with ar := true, rm := x } y := by
  have hXL := h.XL
  have hYL := h.YL
  have hXY := h.XY
  exact {
    c0 := (D.c _ _ (by omega)).trans h.c0
    c1 := (D.c _ _ (by omega)).trans h.c1
    c2 := by obtain ⟨v, e, e'⟩ := h.c2; exact ⟨v, (D.c _ _ (by omega)).trans e, e'⟩
    c3 := (D.c _ _ (by omega)).trans h.c3
    c4 := (D.c _ _ (by omega)).trans h.c4
    c5 := n5
    c6 := ⟨x, n6, fun _ => rfl⟩
    c7 := (D.c _ _ (by omega)).trans h.c7
    f := fun b hb j => (D.f _).trans (h.f b hb j)
    lL := by rw [D.s]; exact h.lL
    lX := by rw [D.s]; exact h.lX
    lY := by rw [D.s]; exact h.lY
    XL := h.XL
    YL := h.YL
    XY := h.XY
    hn := h.hn
    on := fun i hi => (D.c _ _ (by omega)).trans (h.on i hi)
    hd := fun i hi => by obtain ⟨v, e, e'⟩ := h.hd i hi; exact ⟨v, (D.c _ _ (by omega)).trans e, e'⟩
    tb := h.tb
    ck0 := h.ck0
  }
theorem Rk.fin {W : World} (h : Rk w s y) (k : Nat) (x : Int) (D : Df w W (fun b j => (b = y.L ∧ j = 4) ∨ (b = y.X ∧ j = k))) (n4 : W.cell? ⟨y.L, 4, none⟩ = some (.int .i64 x)) (nX : W.cell? ⟨y.X, k, none⟩ = some (.bool false)) : Rk W { s.putQ k ⟨false, false, 0⟩ with ev := x } y := by
  have hXL := h.XL
  have hYL := h.YL
  have hXY := h.XY
  exact {
    c0 := (D.c _ _ (by omega)).trans h.c0
    c1 := (D.c _ _ (by omega)).trans h.c1
    c2 := by obtain ⟨v, e, e'⟩ := h.c2; exact ⟨v, (D.c _ _ (by omega)).trans e, e'⟩
    c3 := (D.c _ _ (by omega)).trans h.c3
    c4 := n4
    c5 := (D.c _ _ (by omega)).trans h.c5
    c6 := by obtain ⟨v, e, e'⟩ := h.c6; exact ⟨v, (D.c _ _ (by omega)).trans e, e'⟩
    c7 := (D.c _ _ (by omega)).trans h.c7
    f := fun b hb j => (D.f _).trans (h.f b hb j)
    lL := by rw [D.s]; exact h.lL
    lX := by rw [D.s]; exact h.lX
    lY := by rw [D.s]; exact h.lY
    XL := h.XL
    YL := h.YL
    XY := h.XY
    hn := h.hn
    on := fun i hi => by
      show _ = some (Value.bool (if i = k then (⟨false, false, 0⟩ : Src) else s.q i).on)
      by_cases e : i = k
      · rw [if_pos e, e]; exact nX
      · rw [if_neg e]; exact (D.c _ _ (by omega)).trans (h.on i hi)
    hd := fun i hi => by
      obtain ⟨v, e1, e'⟩ := h.hd i hi
      refine ⟨v, (D.c _ _ (by omega)).trans e1, ?_⟩
      show (if i = k then (⟨false, false, 0⟩ : Src) else s.q i).on = true → v = if (if i = k then (⟨false, false, 0⟩ : Src) else s.q i).hd then (if i = k then (⟨false, false, 0⟩ : Src) else s.q i).t + 1 else 0
      by_cases e : i = k
      · rw [if_pos e]; intro hh; cases hh
      · rw [if_neg e]; exact e'
    tb := fun i hi => by
      show (if i = k then (⟨false, false, 0⟩ : Src) else s.q i).on = true → (if i = k then (⟨false, false, 0⟩ : Src) else s.q i).hd = true → 0 ≤ (if i = k then (⟨false, false, 0⟩ : Src) else s.q i).t ∧ (if i = k then (⟨false, false, 0⟩ : Src) else s.q i).t ≤ _
      by_cases e : i = k
      · rw [if_pos e]; intro hh; cases hh
      · rw [if_neg e]; exact h.tb i hi
    ck0 := h.ck0
  }
theorem Rk.put {W : World} (h : Rk w s y) (k : Nat) (z : Src) (hz : z.on = true) (hb : z.hd = true → 0 ≤ z.t ∧ z.t ≤ 2305843009213693952) (D : Df w W (fun b j => (b = y.X ∧ j = k) ∨ (b = y.Y ∧ j = k))) (nX : W.cell? ⟨y.X, k, none⟩ = some (.bool true)) (nY : W.cell? ⟨y.Y, k, none⟩ = some (.int .u64 (if z.hd then z.t + 1 else 0))) : Rk W (s.putQ k z) y := by
  have hXL := h.XL
  have hYL := h.YL
  have hXY := h.XY
  exact {
    c0 := (D.c _ _ (by omega)).trans h.c0
    c1 := (D.c _ _ (by omega)).trans h.c1
    c2 := by obtain ⟨v, e, e'⟩ := h.c2; exact ⟨v, (D.c _ _ (by omega)).trans e, e'⟩
    c3 := (D.c _ _ (by omega)).trans h.c3
    c4 := (D.c _ _ (by omega)).trans h.c4
    c5 := (D.c _ _ (by omega)).trans h.c5
    c6 := by obtain ⟨v, e, e'⟩ := h.c6; exact ⟨v, (D.c _ _ (by omega)).trans e, e'⟩
    c7 := (D.c _ _ (by omega)).trans h.c7
    f := fun b hb j => (D.f _).trans (h.f b hb j)
    lL := by rw [D.s]; exact h.lL
    lX := by rw [D.s]; exact h.lX
    lY := by rw [D.s]; exact h.lY
    XL := h.XL
    YL := h.YL
    XY := h.XY
    hn := h.hn
    on := fun i hi => by
      show _ = some (Value.bool (if i = k then z else s.q i).on)
      by_cases e : i = k
      · rw [if_pos e, e, hz]; exact nX
      · rw [if_neg e]; exact (D.c _ _ (by omega)).trans (h.on i hi)
    hd := fun i hi => by
      show ∃ v, W.cell? ⟨y.Y, i, none⟩ = some (Value.int .u64 v) ∧ ((if i = k then z else s.q i).on = true → v = if (if i = k then z else s.q i).hd then (if i = k then z else s.q i).t + 1 else 0)
      by_cases e : i = k
      · rw [if_pos e, e]; exact ⟨_, nY, fun _ => rfl⟩
      · rw [if_neg e]; obtain ⟨v, e1, e'⟩ := h.hd i hi; exact ⟨v, (D.c _ _ (by omega)).trans e1, e'⟩
    tb := fun i hi => by
      show (if i = k then z else s.q i).on = true → (if i = k then z else s.q i).hd = true → 0 ≤ (if i = k then z else s.q i).t ∧ (if i = k then z else s.q i).t ≤ _
      by_cases e : i = k
      · rw [if_pos e]; intro _ h2; exact hb h2
      · rw [if_neg e]; exact h.tb i hi
    ck0 := h.ck0
  }
end
end Go.Proofs.Ytmhabdpnakbfpaa
