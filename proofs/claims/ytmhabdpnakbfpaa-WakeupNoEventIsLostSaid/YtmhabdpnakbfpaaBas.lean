/- The state of the wake sources as a plain structure, and how it lies in memory. -/
import Derived.Test.YtmhabdpnakbfpaaGen
namespace Go.Proofs.Ytmhabdpnakbfpaa
open Go.ChangeShapes Go.WideShapes Go.ChangeAt Go.RowKit Go.Deep Go.Joins

theorem mod_any (v : Int) (n : Nat) (hn : 1 ≤ n) (hn2 : n ≤ 1000000) (w : World) : Calls Try.prog 13 #[.int .i64 v, .int .i64 n] w fun e w' => e = .returned (.int .i64 (modOf v n : Nat)) ∧ w = w' := by
  have H := Lib.hid (modOf_spec v n hn hn2).1
  have hnz : ((n : Int) == 0) = false := beq_eq_false_iff_ne.2 (by omega)
  have hw : IntKind.u64.wrap (n : Int) = n := by rw [IntKind.wrap_u64]; omega
  go_enter Try.func13, Try.ntmps13
  go_wp2
  go_ret
  refine ⟨?_, rfl⟩
  rw [H.out]
  rfl
theorem new_c (w : World) (a : Array Value) (t j : Nat) : (w.alloc (.cells a t)).cell? ⟨w.heap.size, j, none⟩ = a[j]? := by
  unfold World.cell?
  rw [heap_alloc_new w _]
  simp
/-- A source. -/
structure Src where
  on : Bool
  hd : Bool
  t : Int
/-- The sources; L, X, A, c: where they lie. -/
structure WS where
  L : Nat
  X : Nat
  A : Option Addr
  c : Nat
  n : Nat
  q : Nat → Src
  ev : Int
  al : Bool
  a : Int
  ar : Bool
  rm : Int
  ck : Int
structure Wk (w : World) (s : WS) : Prop where
  c0 : w.cell? ⟨s.L, 0, none⟩ = some (.slice s.A s.n s.c)
  c1 : w.cell? ⟨s.L, 1, none⟩ = some (.int .i64 s.ev)
  c2 : w.cell? ⟨s.L, 2, none⟩ = some (.bool s.al)
  c3 : w.cell? ⟨s.L, 3, none⟩ = some (.int .u64 s.a)
  c4 : w.cell? ⟨s.L, 4, none⟩ = some (.bool s.ar)
  c5 : w.cell? ⟨s.L, 5, none⟩ = some (.int .i64 s.rm)
  c6 : w.cell? ⟨s.L, 6, none⟩ = some (.int .u64 s.ck)
  fL : ∀ j, w.frozen? ⟨s.L, j, none⟩ = false
  fX : 0 < s.n → ∀ j, w.frozen? ⟨s.X, j, none⟩ = false
  lL : s.L < w.heap.size
  lX : 0 < s.n → s.X < w.heap.size
  XL : 0 < s.n → s.X ≠ s.L
  hn : s.n ≤ 32
  row : s.A = some ⟨s.X, 0, none⟩ ∨ (s.n = 0 ∧ s.A = none ∧ s.c = 0)
  src : ∀ i, i < s.n → w.cell? ⟨s.X, i * 3, none⟩ = some (.bool (s.q i).on) ∧ w.cell? ⟨s.X, i * 3 + 1, none⟩ = some (.bool (s.q i).hd) ∧ w.cell? ⟨s.X, i * 3 + 2, none⟩ = some (.int .u64 (s.q i).t)
theorem set_same (w : World) (b j : Nat) (v u : Value) (hu : w.cell? ⟨b, j, none⟩ = some u) : (w.setCell ⟨b, j, none⟩ v).cell? ⟨b, j, none⟩ = some v := World.cell?_setCell_same w _ _ hu
theorem set_off (w : World) (b j i : Nat) (v u : Value) (h : i ≠ j) (hu : w.cell? ⟨b, i, none⟩ = some u) : (w.setCell ⟨b, j, none⟩ v).cell? ⟨b, i, none⟩ = some u :=
  (World.cell?_setCell_other w _ _ _ (fun e => h (by injection e with _ e2; exact e2.symm))).trans hu
theorem set_far (w : World) (b j x i : Nat) (v u : Value) (h : x ≠ b) (hu : w.cell? ⟨x, i, none⟩ = some u) : (w.setCell ⟨b, j, none⟩ v).cell? ⟨x, i, none⟩ = some u :=
  (World.cell?_setCell_other w _ _ _ (fun e => h (by injection e with e2 _; exact e2.symm))).trans hu
section
variable {w : World} {s : WS}
theorem Wk.keep {w' : World} (h : Wk w s) (hc : ∀ b, b = s.L ∨ (b = s.X ∧ 0 < s.n) → w'.heap[b]? = w.heap[b]?) : Wk w' s := by
  have hs : ∀ b, b = s.L ∨ (b = s.X ∧ 0 < s.n) → b < w'.heap.size := fun b hb => by
    have h1 := hc b hb
    have h2 : b < w.heap.size := by rcases hb with rfl | ⟨rfl, h0⟩; exact h.lL; exact h.lX h0
    rw [Array.getElem?_eq_getElem h2] at h1
    exact (Array.getElem?_eq_some_iff.1 h1).1
  have c : ∀ j, w'.cell? ⟨s.L, j, none⟩ = w.cell? ⟨s.L, j, none⟩ := fun j => World.cell?_of_block (hc _ (.inl rfl))
  have d : 0 < s.n → ∀ j, w'.cell? ⟨s.X, j, none⟩ = w.cell? ⟨s.X, j, none⟩ := fun h0 j => World.cell?_of_block (hc _ (.inr ⟨rfl, h0⟩))
  exact ⟨(c _).trans h.c0, (c _).trans h.c1, (c _).trans h.c2, (c _).trans h.c3, (c _).trans h.c4, (c _).trans h.c5, (c _).trans h.c6,
    fun j => (World.frozen?_of_block (hc _ (.inl rfl))).trans (h.fL j), fun h0 j => (World.frozen?_of_block (hc _ (.inr ⟨rfl, h0⟩))).trans (h.fX h0 j), hs _ (.inl rfl), fun h0 => hs _ (.inr ⟨rfl, h0⟩), h.XL, h.hn, h.row,
    fun i hi => ⟨(d (by omega) _).trans (h.src i hi).1, (d (by omega) _).trans (h.src i hi).2.1, (d (by omega) _).trans (h.src i hi).2.2⟩⟩
theorem Wk.below {w' : World} (h : Wk w s) (hb : Below w.heap.size w w') : Wk w' s := h.keep (fun b hb' => hb.block b (by rcases hb' with rfl | ⟨rfl, h0⟩; exact h.lL; exact h.lX h0))
theorem Wk.setL (h : Wk w s) (j : Nat) (v : Value) (s' : WS) (e : s'.L = s.L ∧ s'.X = s.X ∧ s'.A = s.A ∧ s'.c = s.c ∧ s'.n = s.n ∧ s'.q = s.q)
    (d0 : j ≠ 0)
    (d1 : if 1 = j then v = .int .i64 s'.ev else s'.ev = s.ev)
    (d2 : if 2 = j then v = .bool s'.al else s'.al = s.al)
    (d3 : if 3 = j then v = .int .u64 s'.a else s'.a = s.a)
    (d4 : if 4 = j then v = .bool s'.ar else s'.ar = s.ar)
    (d5 : if 5 = j then v = .int .i64 s'.rm else s'.rm = s.rm)
    (d6 : if 6 = j then v = .int .u64 s'.ck else s'.ck = s.ck) : Wk (w.setCell ⟨s.L, j, none⟩ v) s' := by
  obtain ⟨L', X', A', c', n', q', ev', al', a', ar', rm', ck'⟩ := s'
  obtain ⟨e1, e2, e3, e4, e5, e6⟩ := e
  simp only at e1 e2 e3 e4 e5 e6 d1 d2 d3 d4 d5 d6
  subst e1 e2 e3 e4 e5 e6
  have g : ∀ k u u', w.cell? ⟨s.L, k, none⟩ = some u → (if k = j then v = u' else u' = u) → (w.setCell ⟨s.L, j, none⟩ v).cell? ⟨s.L, k, none⟩ = some u' := fun k u u' hu hd => by
    by_cases hk : k = j
    · rw [if_pos hk] at hd
      subst hk hd
      exact set_same _ _ _ _ _ hu
    · rw [if_neg hk] at hd
      subst hd
      exact set_off _ _ _ _ _ _ hk hu
  refine ⟨g 0 _ _ h.c0 (by rw [if_neg (Ne.symm d0)]), g 1 _ _ h.c1 ?_, g 2 _ _ h.c2 ?_, g 3 _ _ h.c3 ?_, g 4 _ _ h.c4 ?_, g 5 _ _ h.c5 ?_, g 6 _ _ h.c6 ?_, fun i => (World.frozen?_setCell _ _ _ _).trans (h.fL i), fun h0 i => (World.frozen?_setCell _ _ _ _).trans (h.fX h0 i),
    by simpa using h.lL, (fun h0 => by simpa using h.lX h0), h.XL, h.hn, h.row, fun i hi => ⟨set_far _ _ _ _ _ _ _ (h.XL (Nat.zero_lt_of_lt hi)) (h.src i hi).1, set_far _ _ _ _ _ _ _ (h.XL (Nat.zero_lt_of_lt hi)) (h.src i hi).2.1, set_far _ _ _ _ _ _ _ (h.XL (Nat.zero_lt_of_lt hi)) (h.src i hi).2.2⟩⟩
  · split at d1 <;> rename_i hh <;> first | rw [if_pos hh]; exact d1 | rw [if_neg hh, d1]
  · split at d2 <;> rename_i hh <;> first | rw [if_pos hh]; exact d2 | rw [if_neg hh, d2]
  · split at d3 <;> rename_i hh <;> first | rw [if_pos hh]; exact d3 | rw [if_neg hh, d3]
  · split at d4 <;> rename_i hh <;> first | rw [if_pos hh]; exact d4 | rw [if_neg hh, d4]
  · split at d5 <;> rename_i hh <;> first | rw [if_pos hh]; exact d5 | rw [if_neg hh, d5]
  · split at d6 <;> rename_i hh <;> first | rw [if_pos hh]; exact d6 | rw [if_neg hh, d6]
def WS.putQ (s : WS) (i : Nat) (x : Src) : WS := { s with q := fun j => if j = i then x else s.q j }
theorem Wk.setQ (h : Wk w s) (i : Nat) (hi : i < s.n) (x : Src) : Wk (((w.setCell ⟨s.X, i * 3, none⟩ (.bool x.on)).setCell ⟨s.X, i * 3 + 1, none⟩ (.bool x.hd)).setCell ⟨s.X, i * 3 + 2, none⟩ (.int .u64 x.t)) (s.putQ i x) := by
  have LX : s.L ≠ s.X := fun e => h.XL (Nat.zero_lt_of_lt hi) e.symm
  have cl : ∀ j u, w.cell? ⟨s.L, j, none⟩ = some u → (((w.setCell ⟨s.X, i * 3, none⟩ (.bool x.on)).setCell ⟨s.X, i * 3 + 1, none⟩ (.bool x.hd)).setCell ⟨s.X, i * 3 + 2, none⟩ (.int .u64 x.t)).cell? ⟨s.L, j, none⟩ = some u := fun j u hu =>
    set_far _ _ _ _ _ _ _ LX (set_far _ _ _ _ _ _ _ LX (set_far _ _ _ _ _ _ _ LX hu))
  refine ⟨cl _ _ h.c0, cl _ _ h.c1, cl _ _ h.c2, cl _ _ h.c3, cl _ _ h.c4, cl _ _ h.c5, cl _ _ h.c6, fun j => ?_, fun h0 j => ?_, (by show s.L < _; simpa using h.lL), (fun h0 => by show s.X < _; simpa using h.lX h0), h.XL, h.hn, h.row, fun k hk => ?_⟩
  · rw [World.frozen?_setCell, World.frozen?_setCell, World.frozen?_setCell]; exact h.fL j
  · rw [World.frozen?_setCell, World.frozen?_setCell, World.frozen?_setCell]; exact h.fX h0 j
  · obtain ⟨h1, h2, h3⟩ := h.src k hk
    by_cases e : k = i
    · subst e
      simp only [WS.putQ, if_true]
      exact ⟨set_off _ _ _ _ _ _ (by omega) (set_off _ _ _ _ _ _ (by omega) (set_same _ _ _ _ _ h1)), set_off _ _ _ _ _ _ (by omega) (set_same _ _ _ _ _ (set_off _ _ _ _ _ _ (by omega) h2)), set_same _ _ _ _ _ (set_off _ _ _ _ _ _ (by omega) (set_off _ _ _ _ _ _ (by omega) h3))⟩
    · simp only [WS.putQ, if_neg e]
      exact ⟨set_off _ _ _ _ _ _ (by omega) (set_off _ _ _ _ _ _ (by omega) (set_off _ _ _ _ _ _ (by omega) h1)), set_off _ _ _ _ _ _ (by omega) (set_off _ _ _ _ _ _ (by omega) (set_off _ _ _ _ _ _ (by omega) h2)), set_off _ _ _ _ _ _ (by omega) (set_off _ _ _ _ _ _ (by omega) (set_off _ _ _ _ _ _ (by omega) h3))⟩
end
/-- Only the blocks of the sources have changed. -/
def CW (s : WS) (w w' : World) : Prop := Chg (fun b => b = s.L ∨ (b = s.X ∧ 0 < s.n)) w w'
end Go.Proofs.Ytmhabdpnakbfpaa
