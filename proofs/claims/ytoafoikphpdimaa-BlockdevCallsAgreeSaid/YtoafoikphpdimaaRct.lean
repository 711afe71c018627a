/- The reference: Contents, CutAfter. -/
import Derived.Test.YtoafoikphpdimaaRww
import Derived.Test.YtoafoikphpdimaaCop
namespace Go.Proofs.Ytoafoikphpdimaa
open Go.ChangeShapes Go.WideShapes Go.ChangeAt Go.RowKit Go.Deep Go.Joins
section
variable {F : Nat → Prop} {w : World} {s : DkS} {x : RX}
set_option maxRecDepth 20000 in
set_option maxHeartbeats 2000000 in
theorem rcont_any (h : Rk F w s x) : Calls Try.prog 21 #[.pointer (some ⟨s.L, 0, none⟩)] w (ClS w s.S) := by
  obtain ⟨i0, hi, hzz⟩ := Option.map_eq_some_iff.1 info9
  simp only [Prod.mk.injEq] at hzz
  obtain ⟨hz, hs, hb⟩ := hzz
  have B2 : Below w.heap.size w (w.alloc (.cells #[] 9)) := (Below.refl _ w).alloc (Nat.le_refl _) _
  have h2 := h.alloc (.cells #[] 9)
  have own : (w.alloc (.cells #[] 9)).ownsRow w.heap.size 9 1 (.slice (some ⟨w.heap.size, 0, none⟩) 0 0) 0 [] :=
    ⟨rfl, .inr ⟨w.heap.size, 0, #[], rfl, Nat.le_refl _, heap_alloc_new w _, Nat.le_refl _, by omega, rfl, rfl⟩⟩
  have c0 := h2.cells.1
  have hl := h2.lt.1
  have hL := Lib.hid h.len
  have hn := h.hn
  have NW : Hid (∀ (j : Nat) (u : Value), (s.S.map Value.string)[j]? = some u → (w.alloc (.cells #[] 9)).cell? (Addr.add ⟨s.X, 0, none⟩ j) = some u) := fun j u hu => by
    have hj : j < s.S.length := by
      have := (List.getElem?_eq_some_iff.1 hu).1
      simpa using this
    rw [add_plain, Nat.zero_add, h2.sec.cellAt j (by rw [← h2.len]; omega)]
    exact hu
  have ONE : Hid (∀ u ∈ s.S.map Value.string, u.oneCell' = true) := fun u hu => by
    obtain ⟨i, _, rfl⟩ := List.mem_map.1 hu
    rfl
  have LN : (s.S.map Value.string).length = s.n * 1 := by rw [List.length_map, hL.out, Nat.mul_one]
  clear h h2
  go_enter Try.func21, Try.ntmps21
  go_wp2_with (at_builtin; refine wpList_append_own _ rfl (.tmp 3) (.tmp 7) 40 rfl w.heap.size 9 i0 _ 1 16 Try.underlying40 hi hz hs hb rfl (by decide) _ 0 [] rfl own ⟨s.X, 0, none⟩ s.n x.xc (s.S.map Value.string) rfl LN NW.out ONE.out ?c3 ?c4 ?c5 ?_)
  case c3 => unfold maxLen; omega
  case c4 => omega
  case c5 => exact B2.size
  intro v' w3 hown hgr hiff
  have hown : w3.ownsRow w.heap.size 9 1 v' s.n (s.S.map .string) := by simpa using hown
  have B3 : Below w.heap.size w w3 := B2.grown hgr B2.size (fun k hk => by simp [Value.ownBlock] at hk; omega)
  obtain ⟨g9, c9, rfl⟩ := own_form hown (by omega)
  have FIN : Hid (ClS w s.S (.returned (.slice (some ⟨g9, 0, none⟩) s.n c9)) w3) := by
    show ClS _ _ _ _
    unfold ClS
    rw [hL.out]
    exact ⟨_, _, rfl, hown, B3⟩
  clear hown hgr hiff B3 NW ONE LN
  go_wp2
  go_ret
  exact FIN.out
/-- The plan is written. -/
theorem Rk.plan (h : Rk F w s x) {A : Option Addr} {n c : Nat} {q : Nat → Bool} (hB : Bs w A n c q) (hA : ∀ a, A = some a → 0 < n → F a.block ∧ a.block ≠ s.L ∧ a.block ≠ s.X ∧ x.v.ownBlock ≠ some a.block) (y : Int) (hy : -1 ≤ y ∧ y ≤ 4611686018427387904) :
    Rk F ((w.setCell ⟨s.L, 3, none⟩ (.int .i64 y)).setCell ⟨s.L, 4, none⟩ (.slice A n c)) (cutS s y q n) { x with A := A, n := n, c := c, q := q } := by
  have c1 := Chg.set w s.L 3 (.int .i64 y)
  have c2 := c1.trans (Chg.set (w.setCell ⟨s.L, 3, none⟩ (.int .i64 y)) s.L 4 (.slice A n c))
  have o := set_obj (set_obj h.obj 3 (.int .i64 y)) 4 (.slice A n c)
  have e1 := own_chg h.sec c2 (fun k hk e => by cases hk; exact h.XL e)
  have e2 := own_chg h.cac c2 (fun k hk e => (h.vL k hk).1 e)
  have e3 := hB.chg c2 (fun a e hn e2 => (hA a e hn).2.1 e2)
  by_cases h0 : 0 ≤ y
  · have E : cutS s y q n = { s with pl := true, pw := y, q := q, qn := n } := if_pos h0
    rw [E]
    refine ⟨?_, e1, e2, e3, fun _ => ⟨rfl, rfl⟩, h.FL, h.FX, h.Fv, fun a e hn => (hA a e hn).1, h.XL, h.vL, fun a e hn => (hA a e hn).2, h.hn, h.len, h.ks, ⟨h0, hy.2⟩⟩
    exact o
  · have E : cutS s y q n = { s with pl := false, pw := 0, q := fun _ => false, qn := 0 } := if_neg h0
    have ey : y = -1 := by omega
    subst ey
    rw [E]
    refine ⟨?_, e1, e2, e3, (fun e => by cases e), h.FL, h.FX, h.Fv, (fun a e hn => (hA a e hn).1), h.XL, h.vL, (fun a e hn => (hA a e hn).2), h.hn, h.len, h.ks, by show (0 : Int) ≤ 0 ∧ (0 : Int) ≤ _; omega⟩
    exact o
set_option maxRecDepth 20000 in
set_option maxHeartbeats 4000000 in
theorem rcut_any (h : Rk F w s x) {A : Option Addr} {n c : Nat} {q : Nat → Bool} (hB : Bs w A n c q) (hn : n ≤ 140737488355328) (y : Int) (hy : -1 ≤ y ∧ y ≤ 4611686018427387904) :
    Calls Try.prog 34 #[.pointer (some ⟨s.L, 0, none⟩), .int .i64 y, .slice A n c] w (RpO w F (cutS s y q n) (.tuple #[])) := by
  obtain ⟨i0, hi0, hzz⟩ := Option.map_eq_some_iff.1 info4
  simp only [Prod.mk.injEq] at hzz
  obtain ⟨hz0, hs0, hb0⟩ := hzz
  have B2 : Below w.heap.size w (w.alloc (.cells #[] 4)) := (Below.refl _ w).alloc (Nat.le_refl _) _
  have own : (w.alloc (.cells #[] 4)).ownsRow w.heap.size 4 1 (.slice (some ⟨w.heap.size, 0, none⟩) 0 0) 0 [] :=
    ⟨rfl, .inr ⟨w.heap.size, 0, #[], rfl, Nat.le_refl _, heap_alloc_new w _, Nat.le_refl _, by omega, rfl, rfl⟩⟩
  have H := Lib.hid h
  have G : Hid (∀ v wx, MR w.heap.size n q w v wx → ∃ A2 c2, v = .slice A2 n c2 ∧ wx.cell? ⟨s.L, 3, none⟩ = some (.int .i64 (plC s)) ∧ wx.cell? ⟨s.L, 4, none⟩ = some (.slice x.A x.n x.c) ∧ wx.frozen? ⟨s.L, 3, none⟩ = false ∧ wx.frozen? ⟨s.L, 4, none⟩ = false ∧ s.L < wx.heap.size ∧
      RpO w F (cutS s y q n) (.tuple #[]) (.returned (.tuple #[])) ((wx.setCell ⟨s.L, 3, none⟩ (.int .i64 y)).setCell ⟨s.L, 4, none⟩ (.slice A2 n c2))) := fun v wx hm => by
    obtain ⟨A2, c2, rfl, hB2, hA2, _, hb⟩ := hm
    have h1 := h.below hb
    have lts := h.lt
    refine ⟨A2, c2, rfl, h1.cells.2.2.2.1, h1.cells.2.2.2.2, h1.fz 3, h1.fz 4, h1.lt.1, rfl, { x with A := A2, n := n, c := c2, q := q }, (Rw.refl h).stepG (fun F9 hk => ?_)⟩
    have k1 := (hk.below hb).mono (F' := fun b => F9 b ∨ w.heap.size ≤ b) (fun b h => .inl h)
    have k2 := k1.plan hB2 (fun a e hn => by
      have := (hA2 a e).1
      exact ⟨.inr this, fun e2 => by have := lts.1; omega, fun e2 => by have := lts.2.1; omega, fun e2 => by have := lts.2.2 _ e2; omega⟩) y hy
    have SC : ∀ W j u, Chg (fun k => k = s.L) W (W.setCell ⟨s.L, j, none⟩ u) := fun W j u => Chg.set _ _ _ _
    exact ⟨_, fun b hb => hb, k2, (Chg.of_below hb F9).trans (((SC wx 3 _).trans (SC _ 4 _)).mono (fun k _ e => by rw [e]; exact hk.FL))⟩
  have hl := h.lt.1
  have ymax : max y (-1) = y := by omega
  clear h
  cases A with
  | none =>
    obtain ⟨rfl, rfl⟩ := hB.nil rfl
    obtain ⟨A2, c2, e, y3, y4, f3, f4, hl2, F⟩ := G.out _ _ (mr_own own B2 (Nat.le_refl _))
    injection e with e1 e2 e3
    subst e1 e3
    clear e2
    have F := Lib.hid F
    clear hB G
    go_enter Try.func34, Try.ntmps34
    go_wp2_with (at_builtin; refine wpList_append_own_none rfl (.tmp 10) (.tmp 11) 34 rfl w.heap.size 4 i0 1 Try.underlying34 hi0 _ 0 [] rfl own rfl ?_; generalize w.alloc (.cells #[] 4) = wa at *)
    refine bodyPost_ret (results_none rfl _ _ _) rfl ?_
    exact F.out
  | some T =>
    have NWS : Hid (∀ (j : Nat) (u : Value), (bools n q)[j]? = some u → (w.alloc (.cells #[] 4)).cell? (T.add j) = some u) := fun j u hu => by
      have hj : j < n := by
        have := (List.getElem?_eq_some_iff.1 hu).1
        simpa [bools] using this
      unfold bools at hu
      rw [List.getElem?_map, List.getElem?_range hj] at hu
      rcases (hB.below B2).row with h0 | ⟨b, off, hT, _, hc⟩
      · omega
      · injection hT with hT
        subst hT
        rw [add_plain, hc j hj]
        exact hu
    have ONE : Hid (∀ u ∈ bools n q, u.oneCell' = true) := fun u hu => by
      obtain ⟨i, _, rfl⟩ := List.mem_map.1 hu
      rfl
    have LN : (bools n q).length = n * 1 := by simp [bools]
    clear hB
    go_enter Try.func34, Try.ntmps34
    go_wp2_with (at_builtin; refine wpList_append_own _ rfl (.tmp 10) (.tmp 11) 34 rfl w.heap.size 4 i0 _ 1 1 Try.underlying34 hi0 hz0 hs0 hb0 rfl (by decide) _ 0 [] rfl own T n c (bools n q) rfl LN NWS.out ONE.out ?c3 ?c4 ?c5 ?_)
    case c3 => unfold maxLen; omega

    case c4 => omega
    case c5 => exact B2.size
    intro v' w3 hown hgr hiff
    have hown : w3.ownsRow w.heap.size 4 1 v' n (bools n q) := by simpa using hown
    have B3 : Below w.heap.size w w3 := B2.grown hgr B2.size (fun k hk => by simp [Value.ownBlock] at hk; omega)
    obtain ⟨A2, c2, rfl, y3, y4, f3, f4, hl2, F⟩ := G.out _ _ (mr_own hown B3 (Nat.le_refl _))
    have F := Lib.hid F
    clear hown hgr hiff B3 B2 NWS ONE LN own G
    go_wp2
    refine bodyPost_ret (results_none rfl _ _ _) rfl ?_
    exact F.out
end
end Go.Proofs.Ytoafoikphpdimaa
