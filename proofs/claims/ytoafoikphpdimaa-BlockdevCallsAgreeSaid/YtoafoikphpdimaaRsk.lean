/- The reference's disk in memory: the same plain state. -/
import Derived.Test.YtoafoikphpdimaaSeq
namespace Go.Proofs.Ytoafoikphpdimaa
open Go.ChangeShapes Go.WideShapes Go.ChangeAt Go.RowKit Go.Deep Go.Joins

def plC (s : DkS) : Int := if s.pl then s.pw else -1
/-- What lies beside the plain state: the capacity of the sectors, the cache's slice, the kept list. -/
structure RX where
  xc : Nat
  v : Value
  A : Option Addr
  n : Nat
  c : Nat
  q : Nat → Bool
structure Rk (F : Nat → Prop) (w : World) (s : DkS) (x : RX) : Prop where
  obj : w.heap[s.L]? = some (.cells #[.slice (some ⟨s.X, 0, none⟩) s.n x.xc, x.v, .bool s.off, .int .i64 (plC s), .slice x.A x.n x.c] 65 (0, 0))
  sec : w.ownsRow 0 9 1 (.slice (some ⟨s.X, 0, none⟩) s.n x.xc) s.n (s.S.map .string)
  cac : w.ownsRow 0 85 2 x.v s.C.length (cwl s.C)
  kp : Bs w x.A x.n x.c x.q
  kq : s.pl = true → x.n = s.qn ∧ x.q = s.q
  FL : F s.L
  FX : F s.X
  Fv : ∀ k, x.v.ownBlock = some k → F k
  FK : ∀ a, x.A = some a → 0 < x.n → F a.block
  XL : s.X ≠ s.L
  vL : ∀ k, x.v.ownBlock = some k → k ≠ s.L ∧ k ≠ s.X
  kL : ∀ a, x.A = some a → 0 < x.n → a.block ≠ s.L ∧ a.block ≠ s.X ∧ x.v.ownBlock ≠ some a.block
  hn : 1 ≤ s.n ∧ s.n ≤ 4096
  len : s.S.length = s.n
  ks : ∀ c ∈ s.C, c.k < s.n ∧ c.d.size = 64
  pb : 0 ≤ s.pw ∧ s.pw ≤ 4611686018427387904
section
variable {F : Nat → Prop} {w w' : World} {s : DkS} {x : RX}
theorem Rk.lt (h : Rk F w s x) : s.L < w.heap.size ∧ s.X < w.heap.size ∧ (∀ k, x.v.ownBlock = some k → k < w.heap.size) :=
  ⟨blk_lt h.obj, (h.sec.lt s.X rfl).2, fun k hk => (h.cac.lt k hk).2⟩
theorem Rk.cells (h : Rk F w s x) : w.cell? ⟨s.L, 0, none⟩ = some (.slice (some ⟨s.X, 0, none⟩) s.n x.xc) ∧ w.cell? ⟨s.L, 1, none⟩ = some x.v ∧ w.cell? ⟨s.L, 2, none⟩ = some (.bool s.off) ∧
    w.cell? ⟨s.L, 3, none⟩ = some (.int .i64 (plC s)) ∧ w.cell? ⟨s.L, 4, none⟩ = some (.slice x.A x.n x.c) := by
  have := h.obj
  refine ⟨?_, ?_, ?_, ?_, ?_⟩ <;> simp [World.cell?, this]
theorem Rk.fz (h : Rk F w s x) (j : Nat) : w.frozen? ⟨s.L, j, none⟩ = false := by
  have := h.obj
  simp [World.frozen?, this]
theorem Rk.secAt (h : Rk F w s x) (i : Nat) (hi : i < s.n) : w.cell? ⟨s.X, i, none⟩ = some (.string (s.S.getD i ByteArray.empty)) := by
  rw [h.sec.cellAt i (by omega), List.getElem?_map, List.getD_eq_getElem?_getD, List.getElem?_eq_getElem (by rw [h.len]; exact hi)]
  rfl
theorem Rk.cacAt (h : Rk F w s x) (i : Nat) (hi : i < s.C.length) : ∃ g c, x.v = .slice (some ⟨g, 0, none⟩) s.C.length c ∧ w.cell? ⟨g, i * 2, none⟩ = some (.int .i64 (s.C[i].k : Nat)) ∧ w.cell? ⟨g, i * 2 + 1, none⟩ = some (.string s.C[i].d) := by
  have hc := h.cac
  obtain ⟨g, c, e⟩ := own_form hc (by omega)
  rw [e] at hc
  obtain ⟨e0, e1⟩ := cwl_get s.C i hi
  exact ⟨g, c, e, by rw [hc.cellAt _ (by omega)]; exact e0, by rw [hc.cellAt _ (by omega)]; exact e1⟩
theorem Rk.form (h : Rk F w s x) : ∃ A c, x.v = .slice A s.C.length c := by
  rcases Nat.eq_zero_or_pos s.C.length with h0 | h0
  · rcases h.cac.2 with ⟨e, h1⟩ | ⟨g, cap, cur, e, _⟩
    · exact ⟨none, 0, by rw [h0, e]⟩
    · exact ⟨_, _, e⟩
  · obtain ⟨g, c, e⟩ := own_form h.cac h0
    exact ⟨_, _, e⟩
theorem Rk.lenC (h : Rk F w s x) : s.C.length ≤ 9223372036854775807 := by
  rcases h.cac.2 with ⟨_, h0⟩ | ⟨g, cap, cur, _, _, _, h1, h2, _⟩
  · omega
  · unfold maxLen at h2; omega
theorem Rk.lenX (h : Rk F w s x) : s.n ≤ x.xc ∧ x.xc ≤ 9223372036854775807 := by
  rcases h.sec.2 with ⟨h0, _⟩ | ⟨g, cap, cur, e, _, _, h1, h2, _⟩
  · cases h0
  · injection e with _ _ e
    subst e
    unfold maxLen at h2
    omega
theorem Rk.chg {G : Nat → Prop} (h : Rk F w s x) (hc : Chg G w w') (hs : ∀ b, F b → ¬ G b) : Rk F w' s x where
  obj := hc.blk h.obj (hs _ h.FL)
  sec := own_chg h.sec hc (fun k hk => by cases hk; exact hs _ h.FX)
  cac := own_chg h.cac hc (fun k hk => hs _ (h.Fv k hk))
  kp := h.kp.chg hc (fun a e hn => hs _ (h.FK a e hn))
  kq := h.kq
  FL := h.FL
  FX := h.FX
  Fv := h.Fv
  FK := h.FK
  XL := h.XL
  vL := h.vL
  kL := h.kL
  hn := h.hn
  len := h.len
  ks := h.ks
  pb := h.pb
theorem Rk.below (h : Rk F w s x) (hb : Below w.heap.size w w') : Rk F w' s x := h.chg (Chg.of_below hb (fun _ => False)) (fun _ _ x => x)
theorem Rk.tight (h : Rk F w s x) : Rk (fun b => F b ∧ b < w.heap.size) w s x :=
  ⟨h.obj, h.sec, h.cac, h.kp, h.kq, ⟨h.FL, h.lt.1⟩, ⟨h.FX, h.lt.2.1⟩, (fun k hk => ⟨h.Fv k hk, h.lt.2.2 k hk⟩), (fun a e hn => ⟨h.FK a e hn, h.kp.lt a e hn⟩), h.XL, h.vL, h.kL, h.hn, h.len, h.ks, h.pb⟩
theorem Rk.frame (h : Rk F w s x) (j : Nat) (u : Value) : (w.setCell ⟨s.L, j, none⟩ u).ownsRow 0 9 1 (.slice (some ⟨s.X, 0, none⟩) s.n x.xc) s.n (s.S.map .string) ∧ (w.setCell ⟨s.L, j, none⟩ u).ownsRow 0 85 2 x.v s.C.length (cwl s.C) ∧ Bs (w.setCell ⟨s.L, j, none⟩ u) x.A x.n x.c x.q := by
  have hc := Chg.set w s.L j u
  exact ⟨own_chg h.sec hc (fun k hk e => by cases hk; exact h.XL e), own_chg h.cac hc (fun k hk e => (h.vL k hk).1 e), h.kp.chg hc (fun a e hn e2 => (h.kL a e hn).1 e2)⟩
theorem Rk.setOff (h : Rk F w s x) (b : Bool) : Rk F (w.setCell ⟨s.L, 2, none⟩ (.bool b)) { s with off := b } x := by
  obtain ⟨f1, f2, f3⟩ := h.frame 2 (.bool b)
  exact ⟨set_obj h.obj 2 _, f1, f2, f3, h.kq, h.FL, h.FX, h.Fv, h.FK, h.XL, h.vL, h.kL, h.hn, h.len, h.ks, h.pb⟩
theorem Rk.setNil (h : Rk F w s x) : Rk F (w.setCell ⟨s.L, 1, none⟩ (.slice none 0 0)) { s with C := [] } { x with v := .slice none 0 0 } := by
  obtain ⟨f1, f2, f3⟩ := h.frame 1 (.slice none 0 0)
  exact ⟨set_obj h.obj 1 _, f1, World.ownsRow_nil _ _ _ _, f3, h.kq, h.FL, h.FX, (fun k hk => by cases hk), h.FK, h.XL, (fun k hk => by cases hk), (fun a e hn => ⟨(h.kL a e hn).1, (h.kL a e hn).2.1, fun x => by cases x⟩), h.hn, h.len, (fun c hc => by cases hc), h.pb⟩
/-- The plan is taken away. -/
theorem Rk.noPlan (h : Rk F w s x) : Rk F (w.setCell ⟨s.L, 3, none⟩ (.int .i64 (-1))) { s with pl := false, pw := 0, q := fun _ => false, qn := 0 } x := by
  obtain ⟨f1, f2, f3⟩ := h.frame 3 (.int .i64 (-1))
  exact ⟨set_obj h.obj 3 _, f1, f2, f3, (fun e => by cases e), h.FL, h.FX, h.Fv, h.FK, h.XL, h.vL, h.kL, h.hn, h.len, h.ks, by show (0 : Int) ≤ 0 ∧ (0 : Int) ≤ _; omega⟩
theorem Rk.down (h : Rk F w s x) (hp : s.pl = true) (hw : 1 ≤ s.pw) : Rk F (w.setCell ⟨s.L, 3, none⟩ (.int .i64 (s.pw - 1))) { s with pw := s.pw - 1 } x := by
  obtain ⟨f1, f2, f3⟩ := h.frame 3 (.int .i64 (s.pw - 1))
  have e : plC { s with pw := s.pw - 1 } = s.pw - 1 := by unfold plC; exact if_pos hp
  refine ⟨?_, f1, f2, f3, h.kq, h.FL, h.FX, h.Fv, h.FK, h.XL, h.vL, h.kL, h.hn, h.len, h.ks, by show 0 ≤ s.pw - 1 ∧ s.pw - 1 ≤ _; have := h.pb; omega⟩
  rw [e]
  exact set_obj h.obj 3 _
theorem Rk.noKeep (h : Rk F w s x) (hp : s.pl = false) : Rk F (w.setCell ⟨s.L, 4, none⟩ (.slice none 0 0)) s { x with A := none, n := 0, c := 0, q := fun _ => false } := by
  obtain ⟨f1, f2, f3⟩ := h.frame 4 (.slice none 0 0)
  exact ⟨set_obj h.obj 4 _, f1, f2, bs_nil _ _, (fun e => by rw [hp] at e; cases e), h.FL, h.FX, h.Fv, (fun a e => by cases e), h.XL, h.vL, (fun a e => by cases e), h.hn, h.len, h.ks, h.pb⟩
theorem Rk.mono {F' : Nat → Prop} (h : Rk F w s x) (hs : ∀ b, F b → F' b) : Rk F' w s x := ⟨h.obj, h.sec, h.cac, h.kp, h.kq, hs _ h.FL, hs _ h.FX, fun k hk => hs _ (h.Fv k hk), fun a e hn => hs _ (h.FK a e hn), h.XL, h.vL, h.kL, h.hn, h.len, h.ks, h.pb⟩
theorem Rk.setSec (h : Rk F w s x) (k : Nat) (d : ByteArray) : Rk F (w.setCell ⟨s.X, k, none⟩ (.string d)) { s with S := s.S.set k d } x := by
  have hc := Chg.set w s.X k (.string d)
  obtain ⟨o, _⟩ := h.sec.stored k (.string d)
  rw [← List.map_set] at o
  exact ⟨hc.blk h.obj (fun e => h.XL e.symm), o, own_chg h.cac hc (fun j hj e => (h.vL j hj).2 e), h.kp.chg hc (fun a e hn e2 => (h.kL a e hn).2.1 e2), h.kq, h.FL, h.FX, h.Fv, h.FK, h.XL, h.vL, h.kL, h.hn, by simp [h.len], h.ks, h.pb⟩
theorem Rk.drew (h : Rk F w s x) : Rk F w.drew s x := h.below (Below.refl _ w).drew
theorem Rk.drewN (h : Rk F w s x) (n : Nat) : Rk F (w.drewN n) s x := h.below (below_drewN (Below.refl _ w) n)
theorem Rk.alloc (h : Rk F w s x) (o : Obj) : Rk F (w.alloc o) s x := h.chg (Chg.alloc (fun _ => False) w o) (fun _ _ x => x)
end
def Rw (w0 : World) (F0 : Nat → Prop) (w : World) (s : DkS) (x : RX) : Prop := ∃ F, (∀ b, F b → F0 b ∨ w0.heap.size ≤ b) ∧ Rk F w s x ∧ Chg F0 w0 w
def RpO (w0 : World) (F0 : Nat → Prop) (s : DkS) (r : Value) (e : Ending) (w : World) : Prop := e = .returned r ∧ ∃ x, Rw w0 F0 w s x
section
variable {w0 w w' : World} {F0 : Nat → Prop} {s s' : DkS} {x x' : RX}
theorem Rw.refl {F : Nat → Prop} (h : Rk F w s x) : Rw w F w s x := ⟨F, fun _ x => .inl x, h, Chg.refl _ _⟩
theorem Rw.stepG (h : Rw w0 F0 w s x) (hk : ∀ F, Rk F w s x → ∃ F', (∀ b, F' b → F b ∨ w.heap.size ≤ b) ∧ Rk F' w' s' x' ∧ Chg F w w') : Rw w0 F0 w' s' x' := by
  obtain ⟨F, hF, hd, hc⟩ := h
  obtain ⟨F', hF', d2, c2⟩ := hk F hd
  have := hc.size
  refine ⟨F', fun b hb => ?_, d2, hc.trans2 c2 (fun i hi hi2 => by rcases hF i hi2 with h | h; exact h; omega)⟩
  rcases hF' b hb with h | h
  · exact hF b h
  · right; omega
theorem Rw.step (h : Rw w0 F0 w s x) (hk : ∀ F, Rk F w s x → Rk F w' s' x' ∧ Chg F w w') : Rw w0 F0 w' s' x' :=
  h.stepG (fun F hF => ⟨F, fun _ x => .inl x, (hk F hF).1, (hk F hF).2⟩)
theorem rw_sec (h : Rw w0 F0 w s x) (k : Nat) (d : ByteArray) : Rw w0 F0 (w.setCell ⟨s.X, k, none⟩ (.string d)) { s with S := s.S.set k d } x :=
  h.step (fun F h => ⟨h.setSec k d, (Chg.set _ _ _ _).mono (fun i _ e => by rw [e]; exact h.FX)⟩)
theorem rw_L {j : Nat} {u : Value} (h : Rw w0 F0 w s x) (hk : ∀ F, Rk F w s x → Rk F (w.setCell ⟨s.L, j, none⟩ u) s' x') : Rw w0 F0 (w.setCell ⟨s.L, j, none⟩ u) s' x' :=
  h.step (fun F h => ⟨hk F h, (Chg.set _ _ _ _).mono (fun i _ e => by rw [e]; exact h.FL)⟩)
theorem rw_drew (h : Rw w0 F0 w s x) : Rw w0 F0 w.drew s x := h.step (fun _ h => ⟨h.drew, (Chg.refl _ _).drew⟩)
theorem rw_drewN (h : Rw w0 F0 w s x) (n : Nat) : Rw w0 F0 (w.drewN n) s x := h.step (fun _ h => ⟨h.drewN n, (Chg.refl _ _).drewN n⟩)
theorem rw_alloc (h : Rw w0 F0 w s x) (o : Obj) : Rw w0 F0 (w.alloc o) s x := h.step (fun _ h => ⟨h.alloc o, Chg.alloc _ _ _⟩)
theorem Rw.rk (h : Rw w0 F0 w s x) : ∃ F, Rk F w s x := by obtain ⟨F, _, h, _⟩ := h; exact ⟨F, h⟩
end
section
variable {F : Nat → Prop} {w : World} {s : DkS} {x : RX}
theorem rpend_any (h : Rk F w s x) : Calls Try.prog 17 #[.pointer (some ⟨s.L, 0, none⟩)] w fun e w' => e = .returned (.int .i64 s.C.length) ∧ w = w' := by
  obtain ⟨A, c, e⟩ := h.form
  obtain ⟨-, c1, -⟩ := h.cells
  rw [e] at c1
  have hl := h.lt.1
  clear h e
  generalize s.C.length = n at *
  go_enter Try.func17, Try.ntmps17
  go_wp2
  go_ret
  exact ⟨rfl, rfl⟩
theorem ron_any (h : Rk F w s x) : Calls Try.prog 36 #[.pointer (some ⟨s.L, 0, none⟩)] w (RpO w F (onS s) (.int .i64 (onR s))) := by
  obtain ⟨-, -, c2, -⟩ := h.cells
  have hf := h.fz 2
  have hl := h.lt.1
  cases hb : s.off with
  | true =>
    have G : Hid (RpO w F (onS s) (.int .i64 (onR s)) (.returned (.int .i64 0)) (w.setCell ⟨s.L, 2, none⟩ (.bool false))) := by
      unfold onS onR
      rw [hb]
      exact ⟨rfl, x, (Rw.refl h).step (fun F h => ⟨h.setOff false, (Chg.set _ _ _ _).mono (fun k _ e => by rw [e]; exact h.FL)⟩)⟩
    clear h
    rw [hb] at c2
    clear hb
    go_enter Try.func36, Try.ntmps36
    go_wp2
    go_ret
    exact G.out
  | false =>
    have G : Hid (RpO w F (onS s) (.int .i64 (onR s)) (.returned (.int .i64 9)) w) := by
      unfold onS onR
      rw [hb]
      exact ⟨rfl, x, Rw.refl h⟩
    clear h
    rw [hb] at c2
    clear hb
    go_enter Try.func36, Try.ntmps36
    go_wp2
    go_ret
    exact G.out
end
end Go.Proofs.Ytoafoikphpdimaa
