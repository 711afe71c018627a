/- A disk: its plain state, and how it lies in memory. -/
import Derived.Test.YtoafoikphpdimaaBas
namespace Go.Proofs.Ytoafoikphpdimaa
open Go.ChangeShapes Go.WideShapes Go.ChangeAt Go.RowKit Go.Deep Go.Joins

structure CW where
  k : Nat
  d : ByteArray
def cwv (c : CW) : List Value := [.int .i64 c.k, .string c.d]
def cwl (C : List CW) : List Value := C.flatMap cwv
theorem cwl_len (C : List CW) : (cwl C).length = C.length * 2 := by
  induction C with
  | nil => rfl
  | cons c C ih => show (cwv c ++ cwl C).length = _; rw [List.length_append, ih]; simp [cwv]; omega
theorem cwl_snoc (C : List CW) (c : CW) : cwl (C ++ [c]) = cwl C ++ cwv c := by simp [cwl]
theorem cwl_get (C : List CW) : ∀ (i : Nat) (h : i < C.length), (cwl C)[i * 2]? = some (.int .i64 (C[i].k : Nat)) ∧ (cwl C)[i * 2 + 1]? = some (.string C[i].d) := by
  induction C with
  | nil => intro i h; simp at h
  | cons c C ih =>
    intro i h
    have e : cwl (c :: C) = .int .i64 (c.k : Nat) :: .string c.d :: cwl C := rfl
    rw [e]
    cases i with
    | zero => exact ⟨rfl, rfl⟩
    | succ i =>
      have := ih i (by simpa using h)
      rw [show (i + 1) * 2 = i * 2 + 2 by omega, show i * 2 + 2 + 1 = (i * 2 + 1) + 2 by omega]
      simpa using this
/-- A slice of truth values as an argument or a field. -/
structure Bs (w : World) (A : Option Addr) (n c : Nat) (q : Nat → Bool) : Prop where
  len : n ≤ c ∧ c ≤ 9223372036854775807
  nil : A = none → n = 0 ∧ c = 0
  row : n = 0 ∨ ∃ b off, A = some ⟨b, off, none⟩ ∧ b < w.heap.size ∧ ∀ i, i < n → w.cell? ⟨b, off + i, none⟩ = some (.bool (q i))
theorem Bs.chg {S : Nat → Prop} {w w' : World} {A : Option Addr} {n c : Nat} {q : Nat → Bool} (h : Bs w A n c q) (hc : Chg S w w') (hn : ∀ a, A = some a → 0 < n → ¬ S a.block) : Bs w' A n c q := by
  refine ⟨h.len, h.nil, ?_⟩
  rcases Nat.eq_zero_or_pos n with h0 | h0
  · exact .inl h0
  rcases h.row with h1 | ⟨b, off, rfl, hlt, hcell⟩
  · exact .inl h1
  · exact .inr ⟨b, off, rfl, Nat.lt_of_lt_of_le hlt hc.size, fun i hi => (World.cell?_of_block (hc.block b hlt (hn _ rfl h0))).trans (hcell i hi)⟩
theorem Bs.below {w w' : World} {A : Option Addr} {n c : Nat} {q : Nat → Bool} (h : Bs w A n c q) (hb : Below w.heap.size w w') : Bs w' A n c q := h.chg (Chg.of_below hb (fun _ => False)) (fun _ _ _ x => x)
theorem Bs.lt {w : World} {A : Option Addr} {n c : Nat} {q : Nat → Bool} (h : Bs w A n c q) : ∀ a, A = some a → 0 < n → a.block < w.heap.size := by
  intro a e hn
  rcases h.row with h0 | ⟨b, off, rfl, hlt, _⟩
  · omega
  · cases e; exact hlt
theorem bs_nil (w : World) (q : Nat → Bool) : Bs w none 0 0 q := ⟨⟨Nat.le_refl _, by omega⟩, fun _ => ⟨rfl, rfl⟩, .inl rfl⟩
structure DkS where
  n : Nat
  S : List ByteArray
  C : List CW
  off : Bool
  pl : Bool
  pw : Int
  q : Nat → Bool
  qn : Nat
  L : Nat
  X : Nat
/-- A disk in memory, in blocks of F. -/
structure Dk (F : Nat → Prop) (w : World) (s : DkS) (v : Value) (Ka : Option Addr) (kc : Nat) : Prop where
  obj : w.heap[s.L]? = some (.cells #[.slice (some ⟨s.X, 0, none⟩) s.n s.n, v, .bool s.off, .bool s.pl, .int .i64 s.pw, .slice Ka s.qn kc] 62 (0, 0))
  sec : w.ownsRow 0 9 1 (.slice (some ⟨s.X, 0, none⟩) s.n s.n) s.n (s.S.map .string)
  cac : w.ownsRow 0 70 2 v s.C.length (cwl s.C)
  kp : Bs w Ka s.qn kc s.q
  FL : F s.L
  FX : F s.X
  Fv : ∀ k, v.ownBlock = some k → F k
  FK : ∀ a, Ka = some a → 0 < s.qn → F a.block
  XL : s.X ≠ s.L
  vL : ∀ k, v.ownBlock = some k → k ≠ s.L ∧ k ≠ s.X
  kL : ∀ a, Ka = some a → 0 < s.qn → a.block ≠ s.L ∧ a.block ≠ s.X ∧ v.ownBlock ≠ some a.block
  hn : 1 ≤ s.n ∧ s.n ≤ 4096
  len : s.S.length = s.n
  ks : ∀ c ∈ s.C, c.k < s.n ∧ c.d.size = 64
  pb : 0 ≤ s.pw ∧ s.pw ≤ 4611686018427387904
section
variable {F : Nat → Prop} {w w' : World} {s : DkS} {v : Value} {Ka : Option Addr} {kc : Nat}
theorem Dk.lt (h : Dk F w s v Ka kc) : s.L < w.heap.size ∧ s.X < w.heap.size ∧ (∀ k, v.ownBlock = some k → k < w.heap.size) :=
  ⟨blk_lt h.obj, (h.sec.lt s.X rfl).2, fun k hk => (h.cac.lt k hk).2⟩
theorem Dk.cells (h : Dk F w s v Ka kc) : w.cell? ⟨s.L, 0, none⟩ = some (.slice (some ⟨s.X, 0, none⟩) s.n s.n) ∧ w.cell? ⟨s.L, 1, none⟩ = some v ∧ w.cell? ⟨s.L, 2, none⟩ = some (.bool s.off) ∧
    w.cell? ⟨s.L, 3, none⟩ = some (.bool s.pl) ∧ w.cell? ⟨s.L, 4, none⟩ = some (.int .i64 s.pw) ∧ w.cell? ⟨s.L, 5, none⟩ = some (.slice Ka s.qn kc) := by
  have := h.obj
  refine ⟨?_, ?_, ?_, ?_, ?_, ?_⟩ <;> simp [World.cell?, this]
theorem Dk.fz (h : Dk F w s v Ka kc) (j : Nat) : w.frozen? ⟨s.L, j, none⟩ = false := by
  have := h.obj
  simp [World.frozen?, this]
theorem Dk.secAt (h : Dk F w s v Ka kc) (i : Nat) (hi : i < s.n) : w.cell? ⟨s.X, i, none⟩ = some (.string (s.S.getD i ByteArray.empty)) := by
  rw [h.sec.cellAt i (by omega), List.getElem?_map, List.getD_eq_getElem?_getD, List.getElem?_eq_getElem (by rw [h.len]; exact hi)]
  rfl
theorem Dk.cacAt (h : Dk F w s v Ka kc) (i : Nat) (hi : i < s.C.length) : ∃ g c, v = .slice (some ⟨g, 0, none⟩) s.C.length c ∧ w.cell? ⟨g, i * 2, none⟩ = some (.int .i64 (s.C[i].k : Nat)) ∧ w.cell? ⟨g, i * 2 + 1, none⟩ = some (.string s.C[i].d) := by
  obtain ⟨g, c, rfl⟩ := own_form h.cac (by omega)
  obtain ⟨e0, e1⟩ := cwl_get s.C i hi
  exact ⟨g, c, rfl, by rw [h.cac.cellAt _ (by omega)]; exact e0, by rw [h.cac.cellAt _ (by omega)]; exact e1⟩
theorem Dk.form (h : Dk F w s v Ka kc) : ∃ A c, v = .slice A s.C.length c := by
  rcases Nat.eq_zero_or_pos s.C.length with h0 | h0
  · rcases h.cac.2 with ⟨rfl, h1⟩ | ⟨g, cap, cur, rfl, _⟩
    · exact ⟨none, 0, by rw [h0]⟩
    · exact ⟨_, _, rfl⟩
  · obtain ⟨g, c, e⟩ := own_form h.cac h0
    exact ⟨_, _, e⟩
/-- It stands where its blocks have not changed. -/
theorem Dk.chg {G : Nat → Prop} (h : Dk F w s v Ka kc) (hc : Chg G w w') (hs : ∀ b, F b → ¬ G b) : Dk F w' s v Ka kc where
  obj := hc.blk h.obj (hs _ h.FL)
  sec := own_chg h.sec hc (fun k hk => by cases hk; exact hs _ h.FX)
  cac := own_chg h.cac hc (fun k hk => hs _ (h.Fv k hk))
  kp := h.kp.chg hc (fun a e hn => hs _ (h.FK a e hn))
  FL := h.FL
  FX := h.FX
  Fv := h.Fv
  FK := h.FK
  XL := h.XL
  vL := h.vL
  kL := h.kL
  hn := h.hn
  len := h.len
  ks := h.ks
  pb := h.pb
theorem Dk.below (h : Dk F w s v Ka kc) (hb : Below w.heap.size w w') : Dk F w' s v Ka kc := h.chg (Chg.of_below hb (fun _ => False)) (fun _ _ x => x)
/-- A field of the disk is written. -/
theorem set_obj {w : World} {L : Nat} {a : Array Value} {t : TypeId} (h : w.heap[L]? = some (.cells a t (0, 0))) (j : Nat) (u : Value) : (w.setCell ⟨L, j, none⟩ u).heap[L]? = some (.cells (a.setIfInBounds j u) t (0, 0)) := by
  rw [setCell_eq_setRow w L j a t (0, 0) u h]
  exact setRow_heap w L a _ t _ h
theorem Dk.frame (h : Dk F w s v Ka kc) (j : Nat) (u : Value) : (w.setCell ⟨s.L, j, none⟩ u).ownsRow 0 9 1 (.slice (some ⟨s.X, 0, none⟩) s.n s.n) s.n (s.S.map .string) ∧ (w.setCell ⟨s.L, j, none⟩ u).ownsRow 0 70 2 v s.C.length (cwl s.C) ∧ Bs (w.setCell ⟨s.L, j, none⟩ u) Ka s.qn kc s.q := by
  have hc := Chg.set w s.L j u
  exact ⟨own_chg h.sec hc (fun k hk e => by cases hk; exact h.XL e), own_chg h.cac hc (fun k hk e => (h.vL k hk).1 e), h.kp.chg hc (fun a e hn e2 => (h.kL a e hn).1 e2)⟩
theorem Dk.setOff (h : Dk F w s v Ka kc) (b : Bool) : Dk F (w.setCell ⟨s.L, 2, none⟩ (.bool b)) { s with off := b } v Ka kc := by
  obtain ⟨f1, f2, f3⟩ := h.frame 2 (.bool b)
  exact ⟨set_obj h.obj 2 _, f1, f2, f3, h.FL, h.FX, h.Fv, h.FK, h.XL, h.vL, h.kL, h.hn, h.len, h.ks, h.pb⟩
theorem Dk.setPl (h : Dk F w s v Ka kc) (b : Bool) : Dk F (w.setCell ⟨s.L, 3, none⟩ (.bool b)) { s with pl := b } v Ka kc := by
  obtain ⟨f1, f2, f3⟩ := h.frame 3 (.bool b)
  exact ⟨set_obj h.obj 3 _, f1, f2, f3, h.FL, h.FX, h.Fv, h.FK, h.XL, h.vL, h.kL, h.hn, h.len, h.ks, h.pb⟩
theorem Dk.setPw (h : Dk F w s v Ka kc) (x : Int) (hx : 0 ≤ x ∧ x ≤ 4611686018427387904) : Dk F (w.setCell ⟨s.L, 4, none⟩ (.int .i64 x)) { s with pw := x } v Ka kc := by
  obtain ⟨f1, f2, f3⟩ := h.frame 4 (.int .i64 x)
  exact ⟨set_obj h.obj 4 _, f1, f2, f3, h.FL, h.FX, h.Fv, h.FK, h.XL, h.vL, h.kL, h.hn, h.len, h.ks, hx⟩
theorem Dk.setNil (h : Dk F w s v Ka kc) : Dk F (w.setCell ⟨s.L, 1, none⟩ (.slice none 0 0)) { s with C := [] } (.slice none 0 0) Ka kc := by
  obtain ⟨f1, f2, f3⟩ := h.frame 1 (.slice none 0 0)
  exact ⟨set_obj h.obj 1 _, f1, World.ownsRow_nil _ _ _ _, f3, h.FL, h.FX, (fun k hk => by cases hk), h.FK, h.XL, (fun k hk => by cases hk), (fun a e hn => ⟨(h.kL a e hn).1, (h.kL a e hn).2.1, fun x => by cases x⟩), h.hn, h.len, (fun c hc => by cases hc), h.pb⟩
theorem Dk.noKeep (h : Dk F w s v Ka kc) : Dk F (w.setCell ⟨s.L, 5, none⟩ (.slice none 0 0)) { s with q := fun _ => false, qn := 0 } v none 0 := by
  obtain ⟨f1, f2, f3⟩ := h.frame 5 (.slice none 0 0)
  exact ⟨set_obj h.obj 5 _, f1, f2, bs_nil _ _, h.FL, h.FX, h.Fv, (fun a e => by cases e), h.XL, h.vL, (fun a e => by cases e), h.hn, h.len, h.ks, h.pb⟩
theorem Dk.mono {F' : Nat → Prop} (h : Dk F w s v Ka kc) (hs : ∀ b, F b → F' b) : Dk F' w s v Ka kc := ⟨h.obj, h.sec, h.cac, h.kp, hs _ h.FL, hs _ h.FX, fun k hk => hs _ (h.Fv k hk), fun a e hn => hs _ (h.FK a e hn), h.XL, h.vL, h.kL, h.hn, h.len, h.ks, h.pb⟩
theorem Dk.setKeep (h : Dk F w s v Ka kc) {A : Option Addr} {n c : Nat} {q : Nat → Bool} (hB : Bs w A n c q) (hA : ∀ a, A = some a → 0 < n → F a.block ∧ a.block ≠ s.L ∧ a.block ≠ s.X ∧ v.ownBlock ≠ some a.block) : Dk F (w.setCell ⟨s.L, 5, none⟩ (.slice A n c)) { s with q := q, qn := n } v A c := by
  obtain ⟨f1, f2, f3⟩ := h.frame 5 (.slice A n c)
  have f4 := hB.chg (Chg.set w s.L 5 (.slice A n c)) (fun a e hn e2 => (hA a e hn).2.1 e2)
  exact ⟨set_obj h.obj 5 _, f1, f2, f4, h.FL, h.FX, h.Fv, fun a e hn => (hA a e hn).1, h.XL, h.vL, fun a e hn => (hA a e hn).2, h.hn, h.len, h.ks, h.pb⟩
theorem Dk.setSec (h : Dk F w s v Ka kc) (k : Nat) (d : ByteArray) : Dk F (w.setCell ⟨s.X, k, none⟩ (.string d)) { s with S := s.S.set k d } v Ka kc := by
  have hc := Chg.set w s.X k (.string d)
  obtain ⟨o, _⟩ := h.sec.stored k (.string d)
  rw [← List.map_set] at o
  exact ⟨hc.blk h.obj (fun e => h.XL e.symm), o, own_chg h.cac hc (fun j hj e => (h.vL j hj).2 e), h.kp.chg hc (fun a e hn e2 => (h.kL a e hn).2.1 e2), h.FL, h.FX, h.Fv, h.FK, h.XL, h.vL, h.kL, h.hn, by simp [h.len], h.ks, h.pb⟩
theorem Dk.drew (h : Dk F w s v Ka kc) : Dk F w.drew s v Ka kc := ⟨h.obj, h.sec, h.cac, ⟨h.kp.len, h.kp.nil, h.kp.row⟩, h.FL, h.FX, h.Fv, h.FK, h.XL, h.vL, h.kL, h.hn, h.len, h.ks, h.pb⟩
theorem Dk.drewN (h : Dk F w s v Ka kc) (n : Nat) : Dk F (w.drewN n) s v Ka kc := ⟨h.obj, h.sec, h.cac, ⟨h.kp.len, h.kp.nil, h.kp.row⟩, h.FL, h.FX, h.Fv, h.FK, h.XL, h.vL, h.kL, h.hn, h.len, h.ks, h.pb⟩
theorem Dk.alloc (h : Dk F w s v Ka kc) (o : Obj) : Dk F (w.alloc o) s v Ka kc := h.chg (Chg.alloc (fun _ => False) w o) (fun _ _ x => x)
end
/-- The disk in the course of a call: its blocks are the old ones and new ones, and nothing else has changed. -/
def Dw (w0 : World) (F0 : Nat → Prop) (w : World) (s : DkS) (v : Value) (Ka : Option Addr) (kc : Nat) : Prop :=
  ∃ F, (∀ b, F b → F0 b ∨ w0.heap.size ≤ b) ∧ Dk F w s v Ka kc ∧ Chg F0 w0 w
def OpP (w0 : World) (F0 : Nat → Prop) (s : DkS) (r : Value) (e : Ending) (w : World) : Prop := e = .returned r ∧ ∃ v Ka kc, Dw w0 F0 w s v Ka kc
theorem Dw.refl {w : World} {F : Nat → Prop} {s : DkS} {v : Value} {Ka : Option Addr} {kc : Nat} (h : Dk F w s v Ka kc) : Dw w F w s v Ka kc := ⟨F, fun _ x => .inl x, h, Chg.refl _ _⟩
/-- A step that touches the blocks of the disk alone. -/
theorem Dw.step {w0 w w' : World} {F0 : Nat → Prop} {s s' : DkS} {v v' : Value} {Ka Ka' : Option Addr} {kc kc' : Nat} (h : Dw w0 F0 w s v Ka kc)
    (hk : ∀ F, Dk F w s v Ka kc → Dk F w' s' v' Ka' kc' ∧ Chg F w w') : Dw w0 F0 w' s' v' Ka' kc' := by
  obtain ⟨F, hF, hd, hc⟩ := h
  obtain ⟨d2, c2⟩ := hk F hd
  exact ⟨F, hF, d2, hc.trans2 c2 (fun i hi hi2 => by rcases hF i hi2 with h | h; exact h; omega)⟩
end Go.Proofs.Ytoafoikphpdimaa
