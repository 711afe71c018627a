/- Slices of structs as rows of flat cells; clones. -/
import Derived.Test.YtidegjinfacjjaaGen
import Derived.Deep.AppendLies
namespace Go.Proofs.Ytidegjinfacjjaa
open Go.ChangeShapes Go.WideShapes Go.ChangeAt Go.RowKit Go.Deep Go.Joins

/-- A slice of n structs of k cells, V its cells. -/
structure Fl (w : World) (A : Option Addr) (k n : Nat) (V : Nat → Value) : Prop where
  len : n ≤ 9223372036854775807
  row : n = 0 ∨ ∃ b off, A = some ⟨b, off, none⟩ ∧ b < w.heap.size ∧ ∀ j, j < n * k → w.cell? ⟨b, off + j, none⟩ = some (V j)
theorem Fl.below {w w' : World} {A : Option Addr} {k n : Nat} {V : Nat → Value} {B : Nat} (h : Fl w A k n V) (hb : Below B w w') (hB : w.heap.size ≤ B) : Fl w' A k n V := by
  refine ⟨h.len, ?_⟩
  rcases h.row with h0 | ⟨b, off, hA, hlt, hc⟩
  · exact .inl h0
  · exact .inr ⟨b, off, hA, Nat.lt_of_lt_of_le hlt hb.size, fun i hi => by rw [hb.cell (by show b < B; omega)]; exact hc i hi⟩
theorem Fl.chg {S : Nat → Prop} {w w' : World} {A : Option Addr} {k n : Nat} {V : Nat → Value} (h : Fl w A k n V) (hc : Chg S w w') (hn : ∀ a, A = some a → 1 ≤ n → ¬ S a.block) : Fl w' A k n V := by
  refine ⟨h.len, ?_⟩
  rcases h.row with h0 | ⟨b, off, hA, hlt, hcell⟩
  · exact .inl h0
  · rcases Nat.eq_zero_or_pos n with h0 | h0
    · exact .inl h0
    · have hb := hc.block b hlt (hn _ hA h0)
      exact .inr ⟨b, off, hA, Nat.lt_of_lt_of_le hlt hc.size, fun i hi => (World.cell?_of_block hb).trans (hcell i hi)⟩
theorem Fl.take {w : World} {A : Option Addr} {k n : Nat} {V : Nat → Value} (h : Fl w A k n V) (m : Nat) (hm : m ≤ n) : Fl w A k m V := by
  refine ⟨by have := h.len; omega, ?_⟩
  rcases h.row with h0 | ⟨b, off, hA, hlt, hc⟩
  · exact .inl (by omega)
  · exact .inr ⟨b, off, hA, hlt, fun j hj => hc j (Nat.lt_of_lt_of_le hj (Nat.mul_le_mul_right _ hm))⟩
theorem Fl.congr {w : World} {A : Option Addr} {k n : Nat} {V U : Nat → Value} (h : Fl w A k n V) (hV : ∀ j, j < n * k → U j = V j) : Fl w A k n U := by
  refine ⟨h.len, ?_⟩
  rcases h.row with h0 | ⟨b, off, hA, hlt, hc⟩
  · exact .inl h0
  · exact .inr ⟨b, off, hA, hlt, fun j hj => by rw [hV j hj]; exact hc j hj⟩
/-- The slice's cells, later. -/
theorem Fl.at {w w' : World} {A : Option Addr} {k n : Nat} {V : Nat → Value} {B : Nat} (h : Fl w A k n V) (hb : Below B w w') (hB : w.heap.size ≤ B) (hn : 0 < n) : ∃ b off, A = some ⟨b, off, none⟩ ∧ b < w.heap.size ∧ ∀ j, j < n * k → w'.cell? ⟨b, off + j, none⟩ = some (V j) := by
  rcases h.row with h0 | ⟨b, off, hA, hlt, hc⟩
  · omega
  · exact ⟨b, off, hA, hlt, fun j hj => by rw [hb.cell (by show b < B; omega)]; exact hc j hj⟩
theorem fl_blk {w : World} {a : Addr} {k n : Nat} {V : Nat → Value} (h : Fl w (some a) k n V) (hn : 1 ≤ n) : a.block < w.heap.size := by
  rcases h.row with h0 | ⟨b, off, hA, hlt, _⟩
  · omega
  · injection hA with hA
    subst hA
    exact hlt
def vsL (V : Nat → Value) (N : Nat) : List Value := (List.range N).map V
theorem vsL_len (V : Nat → Value) (N : Nat) : (vsL V N).length = N := by simp [vsL]
theorem vsL_get (V : Nat → Value) (N j : Nat) (u : Value) : (vsL V N)[j]? = some u ↔ j < N ∧ u = V j := by
  unfold vsL
  rw [List.getElem?_map]
  by_cases h : j < N
  · rw [List.getElem?_range h]; simp [h, eq_comm]
  · rw [List.getElem?_eq_none (by simpa using h)]; simp [h]
theorem vsL_succ (V : Nat → Value) (N : Nat) : vsL V (N + 1) = vsL V N ++ [V N] := by
  unfold vsL
  rw [List.range_succ, List.map_append]
  rfl
/-- A slice that owns its row. -/
theorem fl_of_own {w : World} {base e k n : Nat} {v : Value} {V : Nat → Value} (h : w.ownsRow base e k v n (vsL V (n * k))) (hn2 : n ≤ 9223372036854775807) :
    ∃ A cap, v = .slice A n cap ∧ Fl w A k n V ∧ n ≤ cap ∧ cap ≤ 9223372036854775807 ∧ (∀ a, A = some a → base ≤ a.block ∧ a.block < w.heap.size) ∧ (A = none → n = 0 ∧ cap = 0) ∧ ∀ g, v.ownBlock = some g → A = some ⟨g, 0, none⟩ ∧ base ≤ g ∧ g < w.heap.size ∧ ∀ k, w.frozen? ⟨g, k, none⟩ = false := by
  obtain ⟨hl, ⟨rfl, rfl⟩ | ⟨g, cap, cur, rfl, hb, hh, hnc, hcm, hcs, ht⟩⟩ := h
  · exact ⟨none, 0, rfl, ⟨by omega, .inl rfl⟩, by omega, by omega, (fun a e => by cases e), (fun _ => ⟨rfl, rfl⟩), (fun g hg => by cases hg)⟩
  · have hlt := blk_lt hh
    refine ⟨_, cap, rfl, ⟨hn2, .inr ⟨g, 0, rfl, hlt, fun j hj => ?_⟩⟩, hnc, hcm, (fun a e => by injection e with e; subst e; exact ⟨hb, hlt⟩), (fun e => by cases e), fun g' hg' => ?_⟩
    · have h1 : (vsL V (n * k))[j]? = some (V j) := (vsL_get V _ j _).2 ⟨hj, rfl⟩
      rw [← ht, List.getElem?_take, if_pos hj] at h1
      unfold World.cell?
      simp only [hh]
      simpa using h1
    · injection hg' with hg'
      subst hg'
      exact ⟨rfl, hb, hlt, fun k => by simp [World.frozen?, hh]⟩
theorem info31 : (Try.prog.info? 31).map (fun i => (i.zero, i.size, i.bytes)) = some (some (.agg #[.int .i64 0, .int .i64 0]), 2, 16) := by kernel_rfl
theorem info34 : (Try.prog.info? 34).map (fun i => (i.zero, i.size, i.bytes)) = some (some (.agg #[.int .i64 0, .int .i64 0, .int .i64 0]), 3, 24) := by kernel_rfl
theorem info2 : (Try.prog.info? 2).map (fun i => (i.zero, i.size, i.bytes)) = some (some (.int .i64 0), 1, 8) := by kernel_rfl
/-- What a clone gives. -/
def CloP (k : Nat) (w : World) (n : Nat) (V : Nat → Value) (e : Ending) (w' : World) : Prop :=
  ∃ A c, e = .returned (.slice A n c) ∧ Fl w' A k n V ∧ (∀ a, A = some a → w.heap.size ≤ a.block ∧ a.block < w'.heap.size) ∧ (A = none → n = 0 ∧ c = 0) ∧ n ≤ c ∧ c ≤ 9223372036854775807 ∧ (∀ a j, A = some a → w'.frozen? ⟨a.block, j, none⟩ = false ∧ a.off = 0) ∧ Below w.heap.size w w'
theorem sl_nil22 (w : World) : (Go.binOp BinOp.eql 22 (.slice none 0 0) (.slice none 0 0)).run Try.prog w = .ok (.bool true) w := by kernel_rfl
theorem sl_ne22 (A : Addr) (n c : Nat) (w : World) : (Go.binOp BinOp.eql 22 (.slice (some A) n c) (.slice none 0 0)).run Try.prog w = .ok (.bool false) w := by kernel_rfl
set_option maxRecDepth 100000 in
set_option maxHeartbeats 2000000 in
theorem clo30 (A : Option Addr) (n c : Nat) (V : Nat → Value) (w : World) (h : Fl w A 2 n V) (hA : A = none → n = 0 ∧ c = 0) (hn : n ≤ 1000) (hone : ∀ j, (V j).oneCell' = true) : Calls Try.prog 30 #[.slice A n c] w (CloP 2 w n V) := by
  cases A with
  | none =>
    obtain ⟨rfl, rfl⟩ := hA rfl
    have F : Hid (CloP 2 w 0 V (.returned (.slice none 0 0)) w) := ⟨none, 0, rfl, h, (fun a e => by cases e), (fun _ => ⟨rfl, rfl⟩), Nat.le_refl _, by omega, (fun a j e => by cases e), Below.refl _ _⟩
    clear h
    have SN := sl_nil22 w
    go_enter Try.func30, Try.ntmps30
    go_wp2
    go_ret
    exact F.out
  | some T =>
    obtain ⟨i0, hi, hzz⟩ := Option.map_eq_some_iff.1 info31
    simp only [Prod.mk.injEq] at hzz
    obtain ⟨hz, hs, hb⟩ := hzz
    have B2 : Below w.heap.size w (w.alloc (.cells #[] 31)) := (Below.refl _ _).alloc (Nat.le_refl _) _
    have S2 := h.below B2 (Nat.le_refl _)
    have own : (w.alloc (.cells #[] 31)).ownsRow w.heap.size 31 2 (.slice (some ⟨w.heap.size, 0, none⟩) 0 0) 0 [] :=
      ⟨rfl, .inr ⟨w.heap.size, 0, #[], rfl, Nat.le_refl _, heap_alloc_new w _, Nat.le_refl _, by omega, rfl, rfl⟩⟩
    have SN := sl_ne22 T n c w
    have NW : Hid (∀ j u, (vsL V (n * 2))[j]? = some u → (w.alloc (.cells #[] 31)).cell? (T.add j) = some u) := fun j u hu => by
      obtain ⟨hj, rfl⟩ := (vsL_get V _ j u).1 hu
      rcases S2.row with h0 | ⟨b, off, hT, _, hc⟩
      · subst h0; simp at hj
      · injection hT with hT
        subst hT
        rw [add_plain]
        exact hc j hj
    have ONE : Hid (∀ u, u ∈ vsL V (n * 2) → u.oneCell' = true) := fun u hu => by
      unfold vsL at hu
      obtain ⟨j, _, rfl⟩ := List.mem_map.1 hu
      exact hone j
    clear h hone
    go_enter Try.func30, Try.ntmps30
    go_wp2_with (at_builtin; refine wpList_append_own _ rfl (.tmp 5) (.tmp 6) 22 rfl w.heap.size 31 i0 _ 2 16 Try.underlying22 hi hz hs hb rfl (by decide) _ 0 [] rfl own T n c (vsL V (n * 2)) rfl (vsL_len V (n * 2)) NW.out ONE.out ?c3 ?c4 ?c5 ?_)
    case c3 => unfold maxLen; omega
    case c4 => omega
    case c5 => exact B2.size
    intro v' w3 hown hgr hiff
    have hown : w3.ownsRow w.heap.size 31 2 v' n (vsL V (n * 2)) := by simpa using hown
    obtain ⟨A2, cp, rfl, S4, hcp, hcm, hab, hnn, hg⟩ := fl_of_own hown (by omega)
    have B3 : Below w.heap.size w w3 := B2.grown hgr B2.size (fun k hk => by simp [Value.ownBlock] at hk; omega)
    have FIN : Hid (CloP 2 w n V (.returned (.slice A2 n cp)) w3) := ⟨A2, cp, rfl, S4, hab, hnn, hcp, hcm, fun a j e => by
      subst e
      rcases hown.2 with ⟨e, _⟩ | ⟨g, cap, cur, e, _⟩
      · cases e
      · injection e with e
        injection e with e
        subst e
        exact ⟨(hg g rfl).2.2.2 j, rfl⟩, B3⟩
    clear hown hgr hiff S4 hg B3 hab hnn
    go_wp2
    go_ret
    exact FIN.out
theorem sl_nil23 (w : World) : (Go.binOp BinOp.eql 23 (.slice none 0 0) (.slice none 0 0)).run Try.prog w = .ok (.bool true) w := by kernel_rfl
theorem sl_ne23 (A : Addr) (n c : Nat) (w : World) : (Go.binOp BinOp.eql 23 (.slice (some A) n c) (.slice none 0 0)).run Try.prog w = .ok (.bool false) w := by kernel_rfl
set_option maxRecDepth 100000 in
set_option maxHeartbeats 2000000 in
theorem clo31 (A : Option Addr) (n c : Nat) (V : Nat → Value) (w : World) (h : Fl w A 3 n V) (hA : A = none → n = 0 ∧ c = 0) (hn : n ≤ 1000) (hone : ∀ j, (V j).oneCell' = true) : Calls Try.prog 31 #[.slice A n c] w (CloP 3 w n V) := by
  cases A with
  | none =>
    obtain ⟨rfl, rfl⟩ := hA rfl
    have F : Hid (CloP 3 w 0 V (.returned (.slice none 0 0)) w) := ⟨none, 0, rfl, h, (fun a e => by cases e), (fun _ => ⟨rfl, rfl⟩), Nat.le_refl _, by omega, (fun a j e => by cases e), Below.refl _ _⟩
    clear h
    have SN := sl_nil23 w
    go_enter Try.func31, Try.ntmps31
    go_wp2
    go_ret
    exact F.out
  | some T =>
    obtain ⟨i0, hi, hzz⟩ := Option.map_eq_some_iff.1 info34
    simp only [Prod.mk.injEq] at hzz
    obtain ⟨hz, hs, hb⟩ := hzz
    have B2 : Below w.heap.size w (w.alloc (.cells #[] 34)) := (Below.refl _ _).alloc (Nat.le_refl _) _
    have S2 := h.below B2 (Nat.le_refl _)
    have own : (w.alloc (.cells #[] 34)).ownsRow w.heap.size 34 3 (.slice (some ⟨w.heap.size, 0, none⟩) 0 0) 0 [] :=
      ⟨rfl, .inr ⟨w.heap.size, 0, #[], rfl, Nat.le_refl _, heap_alloc_new w _, Nat.le_refl _, by omega, rfl, rfl⟩⟩
    have SN := sl_ne23 T n c w
    have NW : Hid (∀ j u, (vsL V (n * 3))[j]? = some u → (w.alloc (.cells #[] 34)).cell? (T.add j) = some u) := fun j u hu => by
      obtain ⟨hj, rfl⟩ := (vsL_get V _ j u).1 hu
      rcases S2.row with h0 | ⟨b, off, hT, _, hc⟩
      · subst h0; simp at hj
      · injection hT with hT
        subst hT
        rw [add_plain]
        exact hc j hj
    have ONE : Hid (∀ u, u ∈ vsL V (n * 3) → u.oneCell' = true) := fun u hu => by
      unfold vsL at hu
      obtain ⟨j, _, rfl⟩ := List.mem_map.1 hu
      exact hone j
    clear h hone
    go_enter Try.func31, Try.ntmps31
    go_wp2_with (at_builtin; refine wpList_append_own _ rfl (.tmp 5) (.tmp 6) 23 rfl w.heap.size 34 i0 _ 3 24 Try.underlying23 hi hz hs hb rfl (by decide) _ 0 [] rfl own T n c (vsL V (n * 3)) rfl (vsL_len V (n * 3)) NW.out ONE.out ?c3 ?c4 ?c5 ?_)
    case c3 => unfold maxLen; omega
    case c4 => omega
    case c5 => exact B2.size
    intro v' w3 hown hgr hiff
    have hown : w3.ownsRow w.heap.size 34 3 v' n (vsL V (n * 3)) := by simpa using hown
    obtain ⟨A2, cp, rfl, S4, hcp, hcm, hab, hnn, hg⟩ := fl_of_own hown (by omega)
    have B3 : Below w.heap.size w w3 := B2.grown hgr B2.size (fun k hk => by simp [Value.ownBlock] at hk; omega)
    have FIN : Hid (CloP 3 w n V (.returned (.slice A2 n cp)) w3) := ⟨A2, cp, rfl, S4, hab, hnn, hcp, hcm, fun a j e => by
      subst e
      rcases hown.2 with ⟨e, _⟩ | ⟨g, cap, cur, e, _⟩
      · cases e
      · injection e with e
        injection e with e
        subst e
        exact ⟨(hg g rfl).2.2.2 j, rfl⟩, B3⟩
    clear hown hgr hiff S4 hg B3 hab hnn
    go_wp2
    go_ret
    exact FIN.out
theorem sl_nil24 (w : World) : (Go.binOp BinOp.eql 24 (.slice none 0 0) (.slice none 0 0)).run Try.prog w = .ok (.bool true) w := by kernel_rfl
theorem sl_ne24 (A : Addr) (n c : Nat) (w : World) : (Go.binOp BinOp.eql 24 (.slice (some A) n c) (.slice none 0 0)).run Try.prog w = .ok (.bool false) w := by kernel_rfl
set_option maxRecDepth 100000 in
set_option maxHeartbeats 2000000 in
theorem clo40 (A : Option Addr) (n c : Nat) (V : Nat → Value) (w : World) (h : Fl w A 1 n V) (hA : A = none → n = 0 ∧ c = 0) (hn : n ≤ 1000) (hone : ∀ j, (V j).oneCell' = true) : Calls Try.prog 40 #[.slice A n c] w (CloP 1 w n V) := by
  cases A with
  | none =>
    obtain ⟨rfl, rfl⟩ := hA rfl
    have F : Hid (CloP 1 w 0 V (.returned (.slice none 0 0)) w) := ⟨none, 0, rfl, h, (fun a e => by cases e), (fun _ => ⟨rfl, rfl⟩), Nat.le_refl _, by omega, (fun a j e => by cases e), Below.refl _ _⟩
    clear h
    have SN := sl_nil24 w
    go_enter Try.func40, Try.ntmps40
    go_wp2
    go_ret
    exact F.out
  | some T =>
    obtain ⟨i0, hi, hzz⟩ := Option.map_eq_some_iff.1 info2
    simp only [Prod.mk.injEq] at hzz
    obtain ⟨hz, hs, hb⟩ := hzz
    have B2 : Below w.heap.size w (w.alloc (.cells #[] 2)) := (Below.refl _ _).alloc (Nat.le_refl _) _
    have S2 := h.below B2 (Nat.le_refl _)
    have own : (w.alloc (.cells #[] 2)).ownsRow w.heap.size 2 1 (.slice (some ⟨w.heap.size, 0, none⟩) 0 0) 0 [] :=
      ⟨rfl, .inr ⟨w.heap.size, 0, #[], rfl, Nat.le_refl _, heap_alloc_new w _, Nat.le_refl _, by omega, rfl, rfl⟩⟩
    have SN := sl_ne24 T n c w
    have NW : Hid (∀ j u, (vsL V (n * 1))[j]? = some u → (w.alloc (.cells #[] 2)).cell? (T.add j) = some u) := fun j u hu => by
      obtain ⟨hj, rfl⟩ := (vsL_get V _ j u).1 hu
      rcases S2.row with h0 | ⟨b, off, hT, _, hc⟩
      · subst h0; simp at hj
      · injection hT with hT
        subst hT
        rw [add_plain]
        exact hc j hj
    have ONE : Hid (∀ u, u ∈ vsL V (n * 1) → u.oneCell' = true) := fun u hu => by
      unfold vsL at hu
      obtain ⟨j, _, rfl⟩ := List.mem_map.1 hu
      exact hone j
    clear h hone
    go_enter Try.func40, Try.ntmps40
    go_wp2_with (at_builtin; refine wpList_append_own _ rfl (.tmp 5) (.tmp 6) 24 rfl w.heap.size 2 i0 _ 1 8 Try.underlying24 hi hz hs hb rfl (by decide) _ 0 [] rfl own T n c (vsL V (n * 1)) rfl (vsL_len V (n * 1)) NW.out ONE.out ?c3 ?c4 ?c5 ?_)
    case c3 => unfold maxLen; omega
    case c4 => omega
    case c5 => exact B2.size
    intro v' w3 hown hgr hiff
    have hown : w3.ownsRow w.heap.size 2 1 v' n (vsL V (n * 1)) := by simpa using hown
    obtain ⟨A2, cp, rfl, S4, hcp, hcm, hab, hnn, hg⟩ := fl_of_own hown (by omega)
    have B3 : Below w.heap.size w w3 := B2.grown hgr B2.size (fun k hk => by simp [Value.ownBlock] at hk; omega)
    have FIN : Hid (CloP 1 w n V (.returned (.slice A2 n cp)) w3) := ⟨A2, cp, rfl, S4, hab, hnn, hcp, hcm, fun a j e => by
      subst e
      rcases hown.2 with ⟨e, _⟩ | ⟨g, cap, cur, e, _⟩
      · cases e
      · injection e with e
        injection e with e
        subst e
        exact ⟨(hg g rfl).2.2.2 j, rfl⟩, B3⟩
    clear hown hgr hiff S4 hg B3 hab hnn
    go_wp2
    go_ret
    exact FIN.out
end Go.Proofs.Ytidegjinfacjjaa
