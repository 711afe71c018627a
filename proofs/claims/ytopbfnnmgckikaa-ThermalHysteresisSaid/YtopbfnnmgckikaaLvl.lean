/- Level and Active. -/
import Derived.Test.YtopbfnnmgckikaaRup
namespace Go.Proofs.Ytopbfnnmgckikaa
open Go.ChangeShapes Go.WideShapes Go.ChangeAt Go.RowKit Go.Deep Go.Joins

def onL (n : Nat) (on : Nat → Bool) : List Bool := (List.range n).map on
theorem onL_len (n : Nat) (on : Nat → Bool) : (onL n on).length = n := by simp [onL]
theorem onL_get (n : Nat) (on : Nat → Bool) (i : Nat) (h : i < n) : (onL n on).getD i false = on i := by simp [onL, List.getD_eq_getElem?_getD, h]
theorem lvl_any (Z O : Nat) (TA : Option Addr) (tc n : Nat) (f : Nat → St) (lv a : Int) (on : Nat → Bool) (w : World) (h : Zn 70 w Z O TA tc n f lv a on) : Calls Try.prog 24 #[.pointer (some ⟨Z, 0, none⟩)] w (fun e w' => e = .returned (.int .i64 a) ∧ w = w') := by
  have z3 : w.cell? ⟨Z, 3, none⟩ = some (.int .i64 a) := h.row.cell (show 3 < 4 by omega)
  clear h
  go_enter Try.func24, Try.ntmps24
  go_wp2
  go_ret
  exact ⟨rfl, rfl⟩
theorem rlvl_any (Z O : Nat) (TA : Option Addr) (tc n : Nat) (f : Nat → St) (lv a : Int) (on : Nat → Bool) (w : World) (h : Zn 72 w Z O TA tc n f lv a on) : Calls Try.prog 25 #[.pointer (some ⟨Z, 0, none⟩)] w (fun e w' => e = .returned (.int .i64 a) ∧ w = w') := by
  have z3 : w.cell? ⟨Z, 3, none⟩ = some (.int .i64 a) := h.row.cell (show 3 < 4 by omega)
  clear h
  go_enter Try.func25, Try.ntmps25
  go_wp2
  go_ret
  exact ⟨rfl, rfl⟩
def AcP (w : World) (n : Nat) (on : Nat → Bool) (e : Ending) (w' : World) : Prop :=
  ∃ A c, e = .returned (.slice A n c) ∧ RLB w' A (onL n on) ∧ (∀ a, A = some a → w.heap.size ≤ a.block) ∧ Below w.heap.size w w'
theorem own_rlb {w : World} {base n : Nat} {v : Value} {on : Nat → Bool} (h : w.ownsRow base 4 1 v n ((onL n on).map Value.bool)) (hn : n ≤ 9223372036854775807) : ∃ A c, v = .slice A n c ∧ RLB w A (onL n on) ∧ (∀ a, A = some a → base ≤ a.block) := by
  obtain ⟨hl, ⟨rfl, rfl⟩ | ⟨g, cap, cur, rfl, hb, hh, hnc, hcm, hcs, ht⟩⟩ := h
  · exact ⟨none, 0, rfl, ⟨by simp [onL], .inl rfl⟩, fun a e => by cases e⟩
  · refine ⟨_, cap, rfl, ⟨by rw [onL_len]; exact hn, .inr ⟨g, 0, rfl, blk_lt hh, fun i hi => ?_⟩⟩, fun a e => by injection e with e; subst e; exact hb⟩
    rw [onL_len] at hi
    have h1 : ((onL n on).map Value.bool)[i]? = some (.bool ((onL n on).getD i false)) := by
      rw [List.getElem?_map, List.getD_eq_getElem?_getD, List.getElem?_eq_getElem (by rw [onL_len]; exact hi)]
      rfl
    rw [← ht, List.getElem?_take, if_pos (by omega)] at h1
    unfold World.cell?
    simp only [hh]
    simpa using h1
set_option maxRecDepth 100000 in
set_option maxHeartbeats 2000000 in
theorem clo39 (O n : Nat) (on : Nat → Bool) (w : World) (ROW : w.rowIs O 4 n (fun i => .bool (on i))) (hn : n ≤ 1000) : Calls Try.prog 39 #[.slice (some ⟨O, 0, none⟩) n n] w (AcP w n on) := by
  obtain ⟨i0, hi, hzz⟩ := Option.map_eq_some_iff.1 info4
  simp only [Prod.mk.injEq] at hzz
  obtain ⟨hz, hs, hb⟩ := hzz
  have B2 : Below w.heap.size w (w.alloc (.cells #[] 4)) := (Below.refl _ _).alloc (Nat.le_refl _) _
  have own : (w.alloc (.cells #[] 4)).ownsRow w.heap.size 4 1 (.slice (some ⟨w.heap.size, 0, none⟩) 0 0) 0 [] :=
    ⟨rfl, .inr ⟨w.heap.size, 0, #[], rfl, Nat.le_refl _, heap_alloc_new w _, Nat.le_refl _, by omega, rfl, rfl⟩⟩
  have R2 := ROW.alloc (.cells #[] 4)
  have NW : Hid (∀ j u, ((onL n on).map Value.bool)[j]? = some u → (w.alloc (.cells #[] 4)).cell? ((⟨O, 0, none⟩ : Addr).add j) = some u) := fun j u hu => by
    rw [add_plain, Nat.zero_add]
    simp only [onL, List.map_map, List.getElem?_map] at hu
    by_cases hj : j < n
    · rw [List.getElem?_range hj] at hu
      injection hu with hu
      rw [R2.cell hj, ← hu]
      rfl
    · rw [List.getElem?_eq_none (by simpa using hj)] at hu
      cases hu
  have one : ∀ u ∈ (onL n on).map Value.bool, u.oneCell' = true := fun u hu => by
    obtain ⟨x, _, rfl⟩ := List.mem_map.1 hu
    rfl
  have SN := sl_ne51 ⟨O, 0, none⟩ n n w
  go_enter Try.func39, Try.ntmps39
  go_wp2_with (at_builtin; refine wpList_append_own _ rfl (.tmp 5) (.tmp 6) 51 rfl w.heap.size 4 i0 _ 1 1 Try.underlying51 hi hz hs hb rfl (by decide) _ 0 [] rfl own ⟨O, 0, none⟩ n n ((onL n on).map Value.bool) rfl (by simp [onL]) NW.out one ?c3 ?c4 ?c5 ?_)
  case c3 => unfold maxLen; omega
  case c4 => omega
  case c5 => exact B2.size
  intro v' w3 hown hgr hiff
  have hown : w3.ownsRow w.heap.size 4 1 v' n ((onL n on).map Value.bool) := by simpa using hown
  have FIN := own_rlb hown (by omega)
  have B3 : Below w.heap.size w w3 := B2.grown hgr B2.size (fun k hk => by simp [Value.ownBlock] at hk; omega)
  obtain ⟨A, c, rfl, hR, hf⟩ := FIN
  have F : Hid (AcP w n on (.returned (.slice A n c)) w3) := ⟨A, c, rfl, hR, hf, B3⟩
  clear hown hgr hiff hR hf B3
  go_wp2
  go_ret
  exact F.out
set_option maxRecDepth 100000 in
set_option maxHeartbeats 2000000 in
theorem ract_any (Z O : Nat) (TA : Option Addr) (tc n : Nat) (f : Nat → St) (lv a : Int) (on : Nat → Bool) (w : World) (h : Zn 72 w Z O TA tc n f lv a on) (hn : n ≤ 1000) : Calls Try.prog 28 #[.pointer (some ⟨Z, 0, none⟩)] w (AcP w n on) := by
  have ROW := h.orow
  have z1 : w.cell? ⟨Z, 1, none⟩ = some (.slice (some ⟨O, 0, none⟩) n n) := h.row.cell (show 1 < 4 by omega)
  have hZl := h.row.lt
  clear h
  obtain ⟨i0, hi, hzz⟩ := Option.map_eq_some_iff.1 info4
  simp only [Prod.mk.injEq] at hzz
  obtain ⟨hz, hs, hb⟩ := hzz
  have B2 : Below w.heap.size w (w.alloc (.cells #[] 4)) := (Below.refl _ _).alloc (Nat.le_refl _) _
  have own : (w.alloc (.cells #[] 4)).ownsRow w.heap.size 4 1 (.slice (some ⟨w.heap.size, 0, none⟩) 0 0) 0 [] :=
    ⟨rfl, .inr ⟨w.heap.size, 0, #[], rfl, Nat.le_refl _, heap_alloc_new w _, Nat.le_refl _, by omega, rfl, rfl⟩⟩
  have R2 := ROW.alloc (.cells #[] 4)
  have NW : Hid (∀ j u, ((onL n on).map Value.bool)[j]? = some u → (w.alloc (.cells #[] 4)).cell? ((⟨O, 0, none⟩ : Addr).add j) = some u) := fun j u hu => by
    rw [add_plain, Nat.zero_add]
    simp only [onL, List.map_map, List.getElem?_map] at hu
    by_cases hj : j < n
    · rw [List.getElem?_range hj] at hu
      injection hu with hu
      rw [R2.cell hj, ← hu]
      rfl
    · rw [List.getElem?_eq_none (by simpa using hj)] at hu
      cases hu
  have one : ∀ u ∈ (onL n on).map Value.bool, u.oneCell' = true := fun u hu => by
    obtain ⟨x, _, rfl⟩ := List.mem_map.1 hu
    rfl
  go_enter Try.func28, Try.ntmps28
  go_wp2_with (at_builtin; refine wpList_append_own _ rfl (.tmp 3) (.tmp 7) 51 rfl w.heap.size 4 i0 _ 1 1 Try.underlying51 hi hz hs hb rfl (by decide) _ 0 [] rfl own ⟨O, 0, none⟩ n n ((onL n on).map Value.bool) rfl (by simp [onL]) NW.out one ?c3 ?c4 ?c5 ?_)
  case c3 => unfold maxLen; omega
  case c4 => omega
  case c5 => exact B2.size
  intro v' w3 hown hgr hiff
  have hown : w3.ownsRow w.heap.size 4 1 v' n ((onL n on).map Value.bool) := by simpa using hown
  have FIN := own_rlb hown (by omega)
  have B3 : Below w.heap.size w w3 := B2.grown hgr B2.size (fun k hk => by simp [Value.ownBlock] at hk; omega)
  obtain ⟨A, c, rfl, hR, hf⟩ := FIN
  have F : Hid (AcP w n on (.returned (.slice A n c)) w3) := ⟨A, c, rfl, hR, hf, B3⟩
  clear hown hgr hiff hR hf B3
  go_wp2
  go_ret
  exact F.out
theorem act_any (Z O : Nat) (TA : Option Addr) (tc n : Nat) (f : Nat → St) (lv a : Int) (on : Nat → Bool) (w : World) (h : Zn 70 w Z O TA tc n f lv a on) (hn : n ≤ 1000) : Calls Try.prog 27 #[.pointer (some ⟨Z, 0, none⟩)] w (AcP w n on) := by
  have P := clo39 O n on w h.orow hn
  have z1 : w.cell? ⟨Z, 1, none⟩ = some (.slice (some ⟨O, 0, none⟩) n n) := h.row.cell (show 1 < 4 by omega)
  clear h
  go_enter Try.func27, Try.ntmps27
  go_wp2_with fail
  refine P.mono ?_
  rintro e w1 ⟨A, c, rfl, hR, hf, hb⟩
  have F : Hid (AcP w n on (.returned (.slice A n c)) w1) := ⟨A, c, rfl, hR, hf, hb⟩
  clear hR hf hb P
  go_wp2
  go_ret
  exact F.out
end Go.Proofs.Ytopbfnnmgckikaa
