/- Arm: a copy is advanced, and taken over where it fits. -/
import Derived.Test.YtmhabdpnakbfpaaPul
import Derived.Laws.AppendOwnNone
namespace Go.Proofs.Ytmhabdpnakbfpaa
open Go.ChangeShapes Go.WideShapes Go.ChangeAt Go.RowKit Go.Deep Go.Joins

def WS.loc (s : WS) (L X : Nat) (A : Option Addr) (c : Nat) : WS := { s with L := L, X := X, A := A, c := c }
theorem advK_loc (s : WS) (now : Int) (L X : Nat) (A : Option Addr) (c k : Nat) : advK (s.loc L X A c) now k = (advK s now k).loc L X A c := by
  induction k with
  | zero => rfl
  | succ k ih =>
    unfold advK
    rw [ih]
    show (if dueB (advK s now k) now k then _ else _) = _
    split <;> rfl
theorem adv_loc (s : WS) (now : Int) (L X : Nat) (A : Option Addr) (c : Nat) : adv (s.loc L X A c) now = (adv s now).loc L X A c := by
  unfold adv
  rw [advK_loc]
  show advA ((advK s now s.n).loc L X A c) now = _
  unfold advA
  show (if (advK s now s.n).al && decide ((advK s now s.n).a ≤ now) then _ else _) = _
  split <;> rfl
theorem cntK_loc (s : WS) (L X : Nat) (A : Option Addr) (c k : Nat) : cntK (s.loc L X A c) k = cntK s k := by
  induction k with
  | zero => rfl
  | succ k ih => unfold cntK; rw [ih]; rfl
theorem cnt_loc (s : WS) (L X : Nat) (A : Option Addr) (c : Nat) : cnt (s.loc L X A c) = cnt s := cntK_loc s L X A c s.n
def armS (s : WS) (ev now : Int) : WS × Int := if vtB s now then (if (adv s now).ev = ev ∧ cnt (adv s now) = 0 then ({ adv s now with ar := true, rm := ev }, 0) else (s, 17)) else (s, 1)
/-- A call that may have moved the sources. -/
def OpQ (w : World) (s : WS) (r : WS × Int) (e : Ending) (w' : World) : Prop := ∃ X A c, e = .returned (.int .i64 r.2) ∧ Wk w' (r.1.loc s.L X A c) ∧ CW s w w' ∧ (X = s.X ∨ w.heap.size ≤ X)
/-- The copied sources. -/
def RowQ (w w' : World) (s : WS) (v : Value) : Prop := ∃ X A c, v = .slice A s.n c ∧ Below w.heap.size w w' ∧ (A = some ⟨X, 0, none⟩ ∨ (s.n = 0 ∧ A = none ∧ c = 0)) ∧ (s.n = 0 → X = s.X) ∧
  (0 < s.n → w.heap.size ≤ X ∧ X < w'.heap.size ∧ (∀ j, w'.frozen? ⟨X, j, none⟩ = false) ∧ ∀ i, i < s.n → w'.cell? ⟨X, i * 3, none⟩ = some (.bool (s.q i).on) ∧ w'.cell? ⟨X, i * 3 + 1, none⟩ = some (.bool (s.q i).hd) ∧ w'.cell? ⟨X, i * 3 + 2, none⟩ = some (.int .u64 (s.q i).t))
def cellQ (s : WS) (j : Nat) : Value := if j % 3 = 0 then .bool (s.q (j / 3)).on else if j % 3 = 1 then .bool (s.q (j / 3)).hd else .int .u64 (s.q (j / 3)).t
theorem cellQ_0 (s : WS) (i : Nat) : cellQ s (i * 3) = .bool (s.q i).on := by
  unfold cellQ
  rw [if_pos (by omega), show i * 3 / 3 = i by omega]
theorem cellQ_1 (s : WS) (i : Nat) : cellQ s (i * 3 + 1) = .bool (s.q i).hd := by
  unfold cellQ
  rw [if_neg (by omega), if_pos (by omega), show (i * 3 + 1) / 3 = i by omega]
theorem cellQ_2 (s : WS) (i : Nat) : cellQ s (i * 3 + 2) = .int .u64 (s.q i).t := by
  unfold cellQ
  rw [if_neg (by omega), if_neg (by omega), show (i * 3 + 2) / 3 = i by omega]
theorem wpList_copyQ {ops : Array Oper} {rest : List Oper} {o : Oper} {a : Act} {Q : Exit → Act → World → Prop} {w : World} (hgd : o.guard = none) (p x : Operand)
    (ho : o.op = .call { callee := .builtin .append, args := #[p, x], argTypes := #[58, 58] }) (s : WS) (hp : a.eval p = .slice none 0 0) (hx : a.eval x = .slice s.A s.n s.c) (h : Wk w s)
    (K : ∀ v' w', RowQ w w' s v' → wpList Try.prog ops Q rest (a.put o.dst v') w') : wpList Try.prog ops Q (o :: rest) a w := by
  obtain ⟨i0, hi0, hzz⟩ := Option.map_eq_some_iff.1 info63
  simp only [Prod.mk.injEq] at hzz
  obtain ⟨hz0, hs0, hb0⟩ := hzz
  have hn := h.hn
  rcases h.row with hA | ⟨h0, hA, hc⟩
  · rw [hA] at hx
    refine wpList_append_own w hgd p x 58 ho w.heap.size 63 i0 _ 3 16 Try.underlying58 hi0 hz0 hs0 hb0 rfl (by decide) (.slice none 0 0) 0 [] hp (World.ownsRow_nil _ _ _ _) ⟨s.X, 0, none⟩ s.n s.c ((List.range (s.n * 3)).map (cellQ s)) hx (by simp) ?_ ?_ (by unfold maxLen; omega) (by omega) (Nat.le_refl _) ?_
    · intro j u hu
      rw [List.getElem?_map] at hu
      rw [add_plain, Nat.zero_add]
      by_cases hj : j < s.n * 3
      · rw [List.getElem?_range hj] at hu
        simp only [Option.map_some] at hu
        rw [← hu]
        obtain ⟨x0, x1, x2⟩ := h.src (j / 3) (by omega)
        rcases (show j % 3 = 0 ∨ j % 3 = 1 ∨ j % 3 = 2 by omega) with e | e | e
        · have ej : j = j / 3 * 3 := by omega
          rw [ej, cellQ_0]; exact x0
        · have ej : j = j / 3 * 3 + 1 := by omega
          rw [ej, cellQ_1]; exact x1
        · have ej : j = j / 3 * 3 + 2 := by omega
          rw [ej, cellQ_2]; exact x2
      · rw [List.getElem?_eq_none (by simp; omega)] at hu
        cases hu
    · intro u hu
      obtain ⟨j, _, rfl⟩ := List.mem_map.1 hu
      unfold cellQ
      split
      · rfl
      · split <;> rfl
    · intro v' w' hown hgr hiff
      rw [List.nil_append] at hown
      rw [Nat.zero_add] at hown
      have hb : Below w.heap.size w w' := ⟨hgr.os, hgr.tape, hgr.output, hgr.size, fun i hi => hgr.block i hi (fun e => by cases e)⟩
      refine K v' w' ?_
      rcases Nat.eq_zero_or_pos s.n with h0 | h0
      · have hv := hiff.2 ⟨rfl, h0⟩
        exact ⟨s.X, none, 0, by rw [hv, h0], hb, .inr ⟨h0, rfl, rfl⟩, fun _ => rfl, fun h1 => by omega⟩
      · obtain ⟨g, cap, rfl⟩ := own_form hown h0
        have hg : w.heap.size ≤ g ∧ g < w'.heap.size := hown.lt g rfl
        have C : ∀ j, j < s.n * 3 → w'.cell? ⟨g, j, none⟩ = some (cellQ s j) := fun j hj => by
          rw [hown.cellAt j hj, List.getElem?_map, List.getElem?_range hj]
          rfl
        refine ⟨g, _, cap, rfl, hb, .inl rfl, fun h1 => by omega, fun _ => ⟨hg.1, hg.2, fun j => hown.frozenAt j, fun i hi => ?_⟩⟩
        refine ⟨(C (i * 3) (by omega)).trans ?_, (C (i * 3 + 1) (by omega)).trans ?_, (C (i * 3 + 2) (by omega)).trans ?_⟩
        · rw [cellQ_0]
        · rw [cellQ_1]
        · rw [cellQ_2]
  · rw [hA, h0, hc] at hx
    refine wpList_append_own_none hgd p x 58 ho w.heap.size 63 i0 3 Try.underlying58 hi0 (.slice none 0 0) 0 [] hp (World.ownsRow_nil _ _ _ _) hx ?_
    exact K _ w ⟨s.X, none, 0, by rw [h0], Below.refl _ _, .inr ⟨h0, rfl, rfl⟩, fun _ => rfl, fun h1 => by omega⟩
end Go.Proofs.Ytmhabdpnakbfpaa
