/- Slices as rows of flat cells; a clone of numbers. -/
import Derived.Test.YtcmklipifhpgmaaGen
import Derived.Deep.AppendLies
namespace Go.Proofs.Ytcmklipifhpgmaa
open Go.ChangeShapes Go.WideShapes Go.ChangeAt Go.RowKit Go.Deep Go.Joins

/-- A slice of n structs of k cells, V its cells. -/
structure Fl (w : World) (A : Option Addr) (k n : Nat) (V : Nat → Value) : Prop where
  len : n ≤ 9223372036854775807
  row : n = 0 ∨ ∃ b off, A = some ⟨b, off, none⟩ ∧ b < w.heap.size ∧ ∀ j, j < n * k → w.cell? ⟨b, off + j, none⟩ = some (V j)
theorem Fl.below {w w' : World} {A : Option Addr} {k n : Nat} {V : Nat → Value} {B : Nat} (h : Fl w A k n V) (hb : Below B w w') (hB : w.heap.size ≤ B) : Fl w' A k n V := by
  refine ⟨h.len, ?_⟩
  rcases h.row with h0 | ⟨b, off, hA, hlt, hc⟩
  · exact .inl h0
  · exact .inr ⟨b, off, hA, Nat.lt_of_lt_of_le hlt hb.size, fun i hi => by rw [hb.cell (by show b < B; omega)]; exact hc i hi⟩
theorem Fl.chg {S : Nat → Prop} {w w' : World} {A : Option Addr} {k n : Nat} {V : Nat → Value} (h : Fl w A k n V) (hc : Chg S w w') (hn : ∀ a, A = some a → 1 ≤ n → ¬ S a.block) : Fl w' A k n V := by
  refine ⟨h.len, ?_⟩
  rcases h.row with h0 | ⟨b, off, hA, hlt, hcell⟩
  · exact .inl h0
  · rcases Nat.eq_zero_or_pos n with h0 | h0
    · exact .inl h0
    · have hb := hc.block b hlt (hn _ hA h0)
      exact .inr ⟨b, off, hA, Nat.lt_of_lt_of_le hlt hc.size, fun i hi => (World.cell?_of_block hb).trans (hcell i hi)⟩
theorem Fl.take {w : World} {A : Option Addr} {k n : Nat} {V : Nat → Value} (h : Fl w A k n V) (m : Nat) (hm : m ≤ n) : Fl w A k m V := by
  refine ⟨by have := h.len; omega, ?_⟩
  rcases h.row with h0 | ⟨b, off, hA, hlt, hc⟩
  · exact .inl (by omega)
  · exact .inr ⟨b, off, hA, hlt, fun j hj => hc j (Nat.lt_of_lt_of_le hj (Nat.mul_le_mul_right _ hm))⟩
theorem Fl.congr {w : World} {A : Option Addr} {k n : Nat} {V U : Nat → Value} (h : Fl w A k n V) (hV : ∀ j, j < n * k → U j = V j) : Fl w A k n U := by
  refine ⟨h.len, ?_⟩
  rcases h.row with h0 | ⟨b, off, hA, hlt, hc⟩
  · exact .inl h0
  · exact .inr ⟨b, off, hA, hlt, fun j hj => by rw [hV j hj]; exact hc j hj⟩
/-- The slice's cells, later. -/
theorem Fl.at {w w' : World} {A : Option Addr} {k n : Nat} {V : Nat → Value} {B : Nat} (h : Fl w A k n V) (hb : Below B w w') (hB : w.heap.size ≤ B) (hn : 0 < n) : ∃ b off, A = some ⟨b, off, none⟩ ∧ b < w.heap.size ∧ ∀ j, j < n * k → w'.cell? ⟨b, off + j, none⟩ = some (V j) := by
  rcases h.row with h0 | ⟨b, off, hA, hlt, hc⟩
  · omega
  · exact ⟨b, off, hA, hlt, fun j hj => by rw [hb.cell (by show b < B; omega)]; exact hc j hj⟩
theorem fl_blk {w : World} {a : Addr} {k n : Nat} {V : Nat → Value} (h : Fl w (some a) k n V) (hn : 1 ≤ n) : a.block < w.heap.size := by
  rcases h.row with h0 | ⟨b, off, hA, hlt, _⟩
  · omega
  · injection hA with hA
    subst hA
    exact hlt
def vsL (V : Nat → Value) (N : Nat) : List Value := (List.range N).map V
theorem vsL_len (V : Nat → Value) (N : Nat) : (vsL V N).length = N := by simp [vsL]
theorem vsL_get (V : Nat → Value) (N j : Nat) (u : Value) : (vsL V N)[j]? = some u ↔ j < N ∧ u = V j := by
  unfold vsL
  rw [List.getElem?_map]
  by_cases h : j < N
  · rw [List.getElem?_range h]; simp [h, eq_comm]
  · rw [List.getElem?_eq_none (by simpa using h)]; simp [h]
theorem vsL_succ (V : Nat → Value) (N : Nat) : vsL V (N + 1) = vsL V N ++ [V N] := by
  unfold vsL
  rw [List.range_succ, List.map_append]
  rfl
/-- A slice that owns its row. -/
theorem fl_of_own {w : World} {base e k n : Nat} {v : Value} {V : Nat → Value} (h : w.ownsRow base e k v n (vsL V (n * k))) (hn2 : n ≤ 9223372036854775807) :
    ∃ A cap, v = .slice A n cap ∧ Fl w A k n V ∧ n ≤ cap ∧ cap ≤ 9223372036854775807 ∧ (∀ a, A = some a → base ≤ a.block ∧ a.block < w.heap.size) ∧ (A = none → n = 0 ∧ cap = 0) ∧ ∀ g, v.ownBlock = some g → A = some ⟨g, 0, none⟩ ∧ base ≤ g ∧ g < w.heap.size ∧ ∀ k, w.frozen? ⟨g, k, none⟩ = false := by
  obtain ⟨hl, ⟨rfl, rfl⟩ | ⟨g, cap, cur, rfl, hb, hh, hnc, hcm, hcs, ht⟩⟩ := h
  · exact ⟨none, 0, rfl, ⟨by omega, .inl rfl⟩, by omega, by omega, (fun a e => by cases e), (fun _ => ⟨rfl, rfl⟩), (fun g hg => by cases hg)⟩
  · have hlt := blk_lt hh
    refine ⟨_, cap, rfl, ⟨hn2, .inr ⟨g, 0, rfl, hlt, fun j hj => ?_⟩⟩, hnc, hcm, (fun a e => by injection e with e; subst e; exact ⟨hb, hlt⟩), (fun e => by cases e), fun g' hg' => ?_⟩
    · have h1 : (vsL V (n * k))[j]? = some (V j) := (vsL_get V _ j _).2 ⟨hj, rfl⟩
      rw [← ht, List.getElem?_take, if_pos hj] at h1
      unfold World.cell?
      simp only [hh]
      simpa using h1
    · injection hg' with hg'
      subst hg'
      exact ⟨rfl, hb, hlt, fun k => by simp [World.frozen?, hh]⟩
theorem info3 : (Try.prog.info? 3).map (fun i => (i.zero, i.size, i.bytes)) = some (some (.int .i64 0), 1, 8) := by kernel_rfl
theorem info30 : (Try.prog.info? 30).map (fun i => (i.zero, i.size, i.bytes)) = some (some (.agg #[.int .i64 0, .int .i64 0]), 2, 16) := by kernel_rfl
theorem info4 : (Try.prog.info? 4).map (fun i => (i.zero, i.size, i.bytes)) = some (some (.bool false), 1, 1) := by kernel_rfl
theorem blk_cell {w w' : World} {b : Nat} (h : w'.heap[b]? = w.heap[b]?) (j : Nat) : w'.cell? ⟨b, j, none⟩ = w.cell? ⟨b, j, none⟩ := World.cell?_of_block h
theorem blk_frz {w w' : World} {b : Nat} (h : w'.heap[b]? = w.heap[b]?) (j : Nat) : w'.frozen? ⟨b, j, none⟩ = w.frozen? ⟨b, j, none⟩ := by unfold World.frozen?; rw [h]
theorem set_same (w : World) (b j : Nat) (v u : Value) (hu : w.cell? ⟨b, j, none⟩ = some u) : (w.setCell ⟨b, j, none⟩ v).cell? ⟨b, j, none⟩ = some v := World.cell?_setCell_same w _ _ hu
theorem set_off (w : World) (b j i : Nat) (v : Value) (h : i ≠ j) : (w.setCell ⟨b, j, none⟩ v).cell? ⟨b, i, none⟩ = w.cell? ⟨b, i, none⟩ :=
  World.cell?_setCell_other w _ _ _ (fun e => h (by injection e with _ e2; exact e2.symm))
theorem set_frz (w : World) (b j x i : Nat) (v : Value) : (w.setCell ⟨b, j, none⟩ v).frozen? ⟨x, i, none⟩ = w.frozen? ⟨x, i, none⟩ := by simp [go_sem]
theorem cells_at {w : World} {b t : Nat} {cs : Array Value} {fr : Nat × Nat} (h : w.heap[b]? = some (.cells cs t fr)) (j : Nat) : w.cell? ⟨b, j, none⟩ = cs[j]? := by
  unfold World.cell?
  rw [h]
  rfl
theorem new_c (w : World) (cs : Array Value) (t j : Nat) : (w.alloc (.cells cs t)).cell? ⟨w.heap.size, j, none⟩ = cs[j]? := cells_at (heap_alloc_new w _) j
theorem both {x y : Int} (h : -9223372036854775808 ≤ x ∧ x ≤ 9223372036854775807) (e : x = y) : IntKind.i64.wrap x = y ∧ wrap64 x = y := by
  subst e
  exact ⟨IntWalk.i64_in _ h, IntWalk.wrap64_in _ h⟩
def eV (E : Nat → Int) (j : Nat) : Value := .int .i64 (E j)
theorem Fl.eat {w : World} {A : Option Addr} {n : Nat} {E : Nat → Int} (h : Fl w A 1 n (eV E)) {i : Nat} (hi : i < n) : ∃ b off, A = some ⟨b, off, none⟩ ∧ b < w.heap.size ∧ w.cell? ⟨b, off + i, none⟩ = some (.int .i64 (E i)) := by
  rcases h.row with h0 | ⟨b, off, hA, hlt, hc⟩
  · omega
  · exact ⟨b, off, hA, hlt, by rw [hc _ (by omega)]; rfl⟩
theorem Fl.eat' {w : World} {A : Option Addr} {b off n : Nat} {E : Nat → Int} (h : Fl w A 1 n (eV E)) (e : A = some ⟨b, off, none⟩) {i : Nat} (hi : i < n) : b < w.heap.size ∧ w.cell? ⟨b, off + i, none⟩ = some (.int .i64 (E i)) := by
  obtain ⟨b', off', hA, r⟩ := h.eat hi
  rw [hA] at e
  injection e with e
  injection e with e1 e2 _
  subst e1 e2
  exact r
theorem Fl.addr {w : World} {A : Option Addr} {k n : Nat} {V : Nat → Value} (h : Fl w A k n V) (hn : 0 < n) : ∃ b off, A = some ⟨b, off, none⟩ ∧ b < w.heap.size := by
  rcases h.row with h0 | ⟨b, off, hA, hlt, _⟩
  · omega
  · exact ⟨b, off, hA, hlt⟩
theorem eV_one (E : Nat → Int) (j : Nat) : (eV E j).oneCell' = true := rfl
theorem bx2 (w : World) (x y : Value) (t : Nat) : (w.alloc (.cells #[x, y] t)).cell? ⟨w.heap.size, 0, none⟩ = some x ∧ (w.alloc (.cells #[x, y] t)).cell? ⟨w.heap.size, 1, none⟩ = some y := ⟨new_c .., new_c ..⟩
/-- The load's row: n numbers in block Y. -/
structure Lr (w wr : World) (Y n : Nat) (T : Nat → Int) : Prop where
  bel : Below w.heap.size w wr
  lY : Y < wr.heap.size
  Y0 : w.heap.size ≤ Y
  at_ : ∀ j, j < n → wr.cell? ⟨Y, j, none⟩ = some (.int .i64 (T j))
  frz : ∀ j, wr.frozen? ⟨Y, j, none⟩ = false
theorem Lr.below {w wr wx : World} {Y n : Nat} {T : Nat → Int} (h : Lr w wr Y n T) (hb : Below wr.heap.size wr wx) : Lr w wx Y n T :=
  ⟨bel2 h.bel hb, Nat.lt_of_lt_of_le h.lY hb.size, h.Y0, fun j hj => (hb.cell (by exact h.lY)).trans (h.at_ j hj), fun j => (hb.frozen (by exact h.lY)).trans (h.frz j)⟩
theorem Lr.chg {S : Nat → Prop} {w wr wx : World} {Y n : Nat} {T : Nat → Int} (h : Lr w wr Y n T) (hc : Chg S wr wx) (hY : ¬ S Y) (hS : ∀ b, S b → w.heap.size ≤ b) : Lr w wx Y n T := by
  have e := hc.block Y h.lY hY
  exact ⟨Below.chg h.bel hc h.bel.size hS, Nat.lt_of_lt_of_le h.lY hc.size, h.Y0, fun j hj => (blk_cell e _).trans (h.at_ j hj), fun j => (blk_frz e j).trans (h.frz j)⟩
theorem Lr.set {w wr : World} {Y n : Nat} {T : Nat → Int} (h : Lr w wr Y n T) (k : Nat) (hk : k < n) (x : Int) : Lr w (wr.setCell ⟨Y, k, none⟩ (.int .i64 x)) Y n (fun j => if j = k then x else T j) := by
  have hc := Chg.set wr Y k (.int .i64 x)
  refine ⟨Below.chg h.bel hc h.bel.size (fun b hb => by have := h.Y0; omega), Nat.lt_of_lt_of_le h.lY hc.size, h.Y0, fun j hj => ?_, fun j => (set_frz ..).trans (h.frz j)⟩
  show _ = some (Value.int .i64 (if j = k then x else T j))
  by_cases e : j = k
  · subst e; rw [if_pos rfl]; exact set_same _ _ _ _ _ (h.at_ j hk)
  · rw [if_neg e]; exact (set_off _ _ _ _ _ e).trans (h.at_ j hj)
theorem Lr.congr {w wr : World} {Y n : Nat} {T U : Nat → Int} (h : Lr w wr Y n T) (e : ∀ j, j < n → U j = T j) : Lr w wr Y n U := ⟨h.bel, h.lY, h.Y0, fun j hj => by rw [e j hj]; exact h.at_ j hj, h.frz⟩
theorem own_lo {w : World} {base t k n : Nat} {v : Value} {xs : List Value} (h : w.ownsRow base t k v n xs) (b : Nat) (hb : v.ownBlock = some b) : base ≤ b ∧ b < w.heap.size := by
  rcases h.2 with ⟨e, _⟩ | ⟨g, cap, cur, e, h1, h2, _⟩
  · subst e; cases hb
  · subst e
    injection hb with hb
    subst hb
    exact ⟨h1, blk_lt h2⟩
/-- What a clone gives. -/
def CloP (k : Nat) (w : World) (n : Nat) (V : Nat → Value) (e : Ending) (w' : World) : Prop :=
  ∃ A c, e = .returned (.slice A n c) ∧ Fl w' A k n V ∧ (∀ a, A = some a → w.heap.size ≤ a.block ∧ a.block < w'.heap.size) ∧ (A = none → n = 0 ∧ c = 0) ∧ n ≤ c ∧ c ≤ 9223372036854775807 ∧ (∀ a j, A = some a → w'.frozen? ⟨a.block, j, none⟩ = false ∧ a = ⟨a.block, 0, none⟩) ∧ Below w.heap.size w w'
theorem sl_nil (w : World) : (Go.binOp BinOp.eql 22 (.slice none 0 0) (.slice none 0 0)).run Try.prog w = .ok (.bool true) w := by kernel_rfl
theorem sl_ne (A : Addr) (n c : Nat) (w : World) : (Go.binOp BinOp.eql 22 (.slice (some A) n c) (.slice none 0 0)).run Try.prog w = .ok (.bool false) w := by kernel_rfl
set_option maxRecDepth 100000 in
set_option maxHeartbeats 2000000 in
theorem clo_any (A : Option Addr) (n c : Nat) (V : Nat → Value) (w : World) (h : Fl w A 1 n V) (hA : A = none → n = 0 ∧ c = 0) (hn : n ≤ 1000) (hone : ∀ j, (V j).oneCell' = true) : Calls Try.prog 30 #[.slice A n c] w (CloP 1 w n V) := by
  cases A with
  | none =>
    obtain ⟨rfl, rfl⟩ := hA rfl
    have F : Hid (CloP 1 w 0 V (.returned (.slice none 0 0)) w) := ⟨none, 0, rfl, h, (fun a e => by cases e), (fun _ => ⟨rfl, rfl⟩), Nat.le_refl _, by omega, (fun a j e => by cases e), Below.refl _ _⟩
    clear h
    have SN := sl_nil w
    go_enter Try.func30, Try.ntmps30
    go_wp2
    go_ret
    exact F.out
  | some T =>
    obtain ⟨i0, hi, hzz⟩ := Option.map_eq_some_iff.1 info3
    simp only [Prod.mk.injEq] at hzz
    obtain ⟨hz, hs, hb⟩ := hzz
    have B2 : Below w.heap.size w (w.alloc (.cells #[] 3)) := (Below.refl _ _).alloc (Nat.le_refl _) _
    have S2 := h.below B2 (Nat.le_refl _)
    have own : (w.alloc (.cells #[] 3)).ownsRow w.heap.size 3 1 (.slice (some ⟨w.heap.size, 0, none⟩) 0 0) 0 [] :=
      ⟨rfl, .inr ⟨w.heap.size, 0, #[], rfl, Nat.le_refl _, heap_alloc_new w _, Nat.le_refl _, by omega, rfl, rfl⟩⟩
    have SN := sl_ne T n c w
    have NW : Hid (∀ j u, (vsL V (n * 1))[j]? = some u → (w.alloc (.cells #[] 3)).cell? (T.add j) = some u) := fun j u hu => by
      obtain ⟨hj, rfl⟩ := (vsL_get V _ j u).1 hu
      rcases S2.row with h0 | ⟨b, off, hT, _, hc⟩
      · subst h0; simp at hj
      · injection hT with hT
        subst hT
        rw [add_plain]
        exact hc j hj
    have ONE : Hid (∀ u, u ∈ vsL V (n * 1) → u.oneCell' = true) := fun u hu => by
      unfold vsL at hu
      obtain ⟨j, _, rfl⟩ := List.mem_map.1 hu
      exact hone j
    clear h hone
    go_enter Try.func30, Try.ntmps30
    go_wp2_with (at_builtin; refine wpList_append_own _ rfl (.tmp 5) (.tmp 6) 22 rfl w.heap.size 3 i0 _ 1 8 Try.underlying22 hi hz hs hb rfl (by decide) _ 0 [] rfl own T n c (vsL V (n * 1)) rfl (vsL_len V (n * 1)) NW.out ONE.out ?c3 ?c4 ?c5 ?_)
    case c3 => unfold maxLen; omega
    case c4 => omega
    case c5 => exact B2.size
    intro v' w3 hown hgr hiff
    have hown : w3.ownsRow w.heap.size 3 1 v' n (vsL V (n * 1)) := by simpa using hown
    obtain ⟨A2, cp, rfl, S4, hcp, hcm, hab, hnn, hg⟩ := fl_of_own hown (by omega)
    have B3 : Below w.heap.size w w3 := B2.grown hgr B2.size (fun k hk => by simp [Value.ownBlock] at hk; omega)
    have FIN : Hid (CloP 1 w n V (.returned (.slice A2 n cp)) w3) := ⟨A2, cp, rfl, S4, hab, hnn, hcp, hcm, fun a j e => by
      subst e
      rcases hown.2 with ⟨e, _⟩ | ⟨g, cap, cur, e, _⟩
      · cases e
      · injection e with e
        injection e with e
        subst e
        exact ⟨(hg g rfl).2.2.2 j, rfl⟩, B3⟩
    clear hown hgr hiff S4 hg B3 hab hnn
    go_wp2
    go_ret
    exact FIN.out
end Go.Proofs.Ytcmklipifhpgmaa
