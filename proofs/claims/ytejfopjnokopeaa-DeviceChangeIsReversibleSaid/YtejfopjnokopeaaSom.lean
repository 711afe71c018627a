/- The law's device that is made valid: function 16 for one device. -/
import Derived.Test.YtejfopjnokopeaaAsc
import Derived.Test.YtejfopjnokopeaaChg
import Derived.Test.YtejfopjnokopeaaOpn
namespace Go.Proofs.Ytejfopjnokopeaa
open Go.ChangeShapes Go.WideShapes Go.ChangeAt Go.RowKit Go.Deep Go.Joins

def PD.setA (d : PD) (k : Nat) (X : Option Addr) (n c : Nat) : PD := ⟨d.p, fun j => if j = k then X else d.A j, fun j => if j = k then n else d.n j, fun j => if j = k then c else d.c j, d.e, d.wd, d.ws⟩
def PD.setE (d : PD) (k : Nat) (x : Int) : PD := ⟨d.p, d.A, d.n, d.c, fun j => if j = k then x else d.e j, d.wd, d.ws⟩
theorem set_same (w : World) (b j : Nat) (v u : Value) (hu : w.cell? ⟨b, j, none⟩ = some u) : (w.setCell ⟨b, j, none⟩ v).cell? ⟨b, j, none⟩ = some v := World.cell?_setCell_same w _ _ hu
theorem set_other (w : World) (b j i : Nat) (v u : Value) (h : i ≠ j) (hu : w.cell? ⟨b, i, none⟩ = some u) : (w.setCell ⟨b, j, none⟩ v).cell? ⟨b, i, none⟩ = some u :=
  (World.cell?_setCell_other w _ _ _ (fun e => h (by injection e with _ e2; exact e2.symm))).trans hu
theorem c13_A {w : World} {b : Nat} {d : PD} (h : C13 w b d) {k : Nat} (hk : k < 4) : w.cell? ⟨b, 1 + k, none⟩ = some (.slice (d.A k) (d.n k) (d.c k)) := by
  obtain ⟨hl, y0, y1, y2, y3, y4, y5, y6, y7, y8, y9, y10, y11, y12⟩ := h
  rcases (show k = 0 ∨ k = 1 ∨ k = 2 ∨ k = 3 by omega) with rfl | rfl | rfl | rfl <;> assumption
theorem c13_E {w : World} {b : Nat} {d : PD} (h : C13 w b d) {k : Nat} (hk : k < 6) : w.cell? ⟨b, 5 + k, none⟩ = some (.int .i64 (d.e k)) := by
  obtain ⟨hl, y0, y1, y2, y3, y4, y5, y6, y7, y8, y9, y10, y11, y12⟩ := h
  rcases (show k = 0 ∨ k = 1 ∨ k = 2 ∨ k = 3 ∨ k = 4 ∨ k = 5 by omega) with rfl | rfl | rfl | rfl | rfl | rfl <;> assumption
theorem c13_setA {w : World} {b : Nat} {d : PD} (h : C13 w b d) {k : Nat} (hk : k < 4) (X : Option Addr) (n c : Nat) : C13 (w.setCell ⟨b, 1 + k, none⟩ (.slice X n c)) b (d.setA k X n c) := by
  have hc := c13_A h hk
  obtain ⟨hl, y0, y1, y2, y3, y4, y5, y6, y7, y8, y9, y10, y11, y12⟩ := h
  have S := set_same w b (1 + k) (.slice X n c) _ hc
  rcases (show k = 0 ∨ k = 1 ∨ k = 2 ∨ k = 3 by omega) with rfl | rfl | rfl | rfl
  · exact ⟨by simpa using hl, set_other _ _ _ _ _ _ (by decide) y0, S, set_other _ _ _ _ _ _ (by decide) y2, set_other _ _ _ _ _ _ (by decide) y3, set_other _ _ _ _ _ _ (by decide) y4, set_other _ _ _ _ _ _ (by decide) y5, set_other _ _ _ _ _ _ (by decide) y6, set_other _ _ _ _ _ _ (by decide) y7, set_other _ _ _ _ _ _ (by decide) y8, set_other _ _ _ _ _ _ (by decide) y9, set_other _ _ _ _ _ _ (by decide) y10, set_other _ _ _ _ _ _ (by decide) y11, set_other _ _ _ _ _ _ (by decide) y12⟩
  · exact ⟨by simpa using hl, set_other _ _ _ _ _ _ (by decide) y0, set_other _ _ _ _ _ _ (by decide) y1, S, set_other _ _ _ _ _ _ (by decide) y3, set_other _ _ _ _ _ _ (by decide) y4, set_other _ _ _ _ _ _ (by decide) y5, set_other _ _ _ _ _ _ (by decide) y6, set_other _ _ _ _ _ _ (by decide) y7, set_other _ _ _ _ _ _ (by decide) y8, set_other _ _ _ _ _ _ (by decide) y9, set_other _ _ _ _ _ _ (by decide) y10, set_other _ _ _ _ _ _ (by decide) y11, set_other _ _ _ _ _ _ (by decide) y12⟩
  · exact ⟨by simpa using hl, set_other _ _ _ _ _ _ (by decide) y0, set_other _ _ _ _ _ _ (by decide) y1, set_other _ _ _ _ _ _ (by decide) y2, S, set_other _ _ _ _ _ _ (by decide) y4, set_other _ _ _ _ _ _ (by decide) y5, set_other _ _ _ _ _ _ (by decide) y6, set_other _ _ _ _ _ _ (by decide) y7, set_other _ _ _ _ _ _ (by decide) y8, set_other _ _ _ _ _ _ (by decide) y9, set_other _ _ _ _ _ _ (by decide) y10, set_other _ _ _ _ _ _ (by decide) y11, set_other _ _ _ _ _ _ (by decide) y12⟩
  · exact ⟨by simpa using hl, set_other _ _ _ _ _ _ (by decide) y0, set_other _ _ _ _ _ _ (by decide) y1, set_other _ _ _ _ _ _ (by decide) y2, set_other _ _ _ _ _ _ (by decide) y3, S, set_other _ _ _ _ _ _ (by decide) y5, set_other _ _ _ _ _ _ (by decide) y6, set_other _ _ _ _ _ _ (by decide) y7, set_other _ _ _ _ _ _ (by decide) y8, set_other _ _ _ _ _ _ (by decide) y9, set_other _ _ _ _ _ _ (by decide) y10, set_other _ _ _ _ _ _ (by decide) y11, set_other _ _ _ _ _ _ (by decide) y12⟩
theorem c13_setE {w : World} {b : Nat} {d : PD} (h : C13 w b d) {k : Nat} (hk : k < 6) (x : Int) : C13 (w.setCell ⟨b, 5 + k, none⟩ (.int .i64 x)) b (d.setE k x) := by
  have hc := c13_E h hk
  obtain ⟨hl, y0, y1, y2, y3, y4, y5, y6, y7, y8, y9, y10, y11, y12⟩ := h
  have S := set_same w b (5 + k) (.int .i64 x) _ hc
  have O : ∀ i v, i < 5 ∨ 10 < i → w.cell? ⟨b, i, none⟩ = some v → (w.setCell ⟨b, 5 + k, none⟩ (.int .i64 x)).cell? ⟨b, i, none⟩ = some v := fun i v hi hv => set_other _ _ _ _ _ _ (by omega) hv
  refine ⟨by simpa using hl, O _ _ (by decide) y0, O _ _ (by decide) y1, O _ _ (by decide) y2, O _ _ (by decide) y3, O _ _ (by decide) y4, ?_, ?_, ?_, ?_, ?_, ?_, O _ _ (by decide) y11, O _ _ (by decide) y12⟩
  all_goals
    rcases (show k = 0 ∨ k = 1 ∨ k = 2 ∨ k = 3 ∨ k = 4 ∨ k = 5 by omega) with rfl | rfl | rfl | rfl | rfl | rfl <;> first | exact S | exact set_other _ _ _ _ _ _ (by decide) (by assumption)
theorem own_IL {w : World} {base n c : Nat} {X : Option Addr} {l : List Int} (h : w.ownsRow base 3 1 (.slice X n c) n (l.map (.int .i64))) (hn : l.length = n) : IL .i64 base w X l := by
  rcases h.2 with ⟨hv, h0⟩ | ⟨g, cap, cur, hv, hbg, hg, hnc, hcm, _⟩
  · exact .inl (List.eq_nil_of_length_eq_zero (by omega))
  · injection hv with h1 h2 h3
    subst h1 h3
    exact .inr ⟨g, 0, rfl, hbg, blk_lt hg, fun i hi => by
      rw [Nat.zero_add, h.cellAt i (by omega), List.getElem?_map, List.getElem?_eq_getElem hi, List.getD_eq_getElem?_getD, List.getElem?_eq_getElem hi]
      rfl⟩
theorem ns_il {w : World} {A : Option Addr} {n : Nat} {Z : Nat → Int} (h : Ns .i64 w A n Z) : ∃ l : List Int, l.length = n ∧ Il w A l := by
  refine ⟨(List.range n).map Z, by simp, by simpa using h.len, ?_⟩
  rcases h.row with h0 | ⟨b, off, hA, hb, hc⟩
  · subst h0; exact .inl rfl
  · refine .inr ⟨b, off, hA, hb, fun i hi => ?_⟩
    have hi : i < n := by simpa using hi
    rw [hc i hi]
    simp [List.getD_eq_getElem?_getD, hi]
/-- The rails of the new device, in blocks from B on. -/
def RIL (B : Nat) (w : World) (D : PD) (l : Nat → List Int) : Prop := ∀ j, j < 4 → D.n j = (l j).length ∧ (l j).length ≤ 3 ∧ IL .i64 B w (D.A j) (l j)
theorem RIL.rl {B : Nat} {w : World} {D : PD} {l : Nat → List Int} (h : RIL B w D l) : Rl w D l :=
  ⟨fun k hk => (h k hk).1, fun k hk => ⟨by have := (h k hk).2.1; omega, by
    rcases (h k hk).2.2 with h0 | ⟨b, off, hA, _, hb, hc⟩
    · exact .inl h0
    · exact .inr ⟨b, off, hA, hb, hc⟩⟩⟩
theorem RIL.set {L : Nat} {w : World} {D : PD} {l : Nat → List Int} (h : RIL (L + 1) w D l) (j : Nat) (v : Value) : RIL (L + 1) (w.setCell ⟨L, j, none⟩ v) D l :=
  fun k hk => ⟨(h k hk).1, (h k hk).2.1, (h k hk).2.2.chg (Chg.set w L j v) (fun b hb e => by omega)⟩
theorem RIL.below {L : Nat} {w w' : World} {D : PD} {l : Nat → List Int} (h : RIL L w D l) (hb : Below w.heap.size w w') : RIL L w' D l :=
  fun k hk => ⟨(h k hk).1, (h k hk).2.1, (h k hk).2.2.below hb⟩
theorem RIL.setA {L k : Nat} {w : World} {D : PD} {l : Nat → List Int} (h : RIL L w D l) {X : Option Addr} {M : List Int} (c : Nat) (hM : M.length ≤ 3) (hX : IL .i64 L w X M) : RIL L w (D.setA k X M.length c) (fun j => if j = k then M else l j) := by
  intro j hj
  by_cases e : j = k
  · subst e
    simp only [PD.setA, if_true]
    exact ⟨trivial, hM, hX⟩
  · simp only [PD.setA, if_neg e]
    exact h j hj
/-- A valid device without a parent. -/
structure DvOK (D : PD) (q : Nat) : Prop where
  p : D.p = -1
  wd : 0 ≤ D.wd ∧ D.wd ≤ 3
  ws : 0 ≤ D.ws ∧ D.ws ≤ 4
  e0 : D.e 0 = 0
  lo : ∀ k, 0 ≤ D.e k ∧ D.e k ≤ 4
  up : ∀ k, k + 1 < q → D.e k ≤ D.e (k + 1)
theorem DvOK.setA {D : PD} {q k : Nat} (h : DvOK D q) (X : Option Addr) (n c : Nat) : DvOK (D.setA k X n c) q := ⟨h.p, h.wd, h.ws, h.e0, h.lo, h.up⟩
theorem DvOK.setE {D : PD} {r : Nat} (h : DvOK D (r + 1)) (x : Int) (h1 : D.e r ≤ x) (h2 : x ≤ 4) : DvOK (D.setE (r + 1) x) (r + 1 + 1) := by
  refine ⟨h.p, h.wd, h.ws, ?_, fun k => ?_, fun k hk => ?_⟩
  · simpa [PD.setE] using h.e0
  · have := h.lo k
    have := h.lo r
    simp only [PD.setE]
    split <;> omega
  · simp only [PD.setE]
    by_cases e : k + 1 = r + 1
    · rw [if_pos e, if_neg (by omega)]
      obtain rfl : k = r := by omega
      exact h1
    · rw [if_neg e, if_neg (by omega)]
      exact h.up k (by omega)
def SoP (w : World) (e : Ending) (w' : World) : Prop := ∃ (Z cc : Nat) (D : PD) (l : Nat → List Int), e = .returned (.slice (some ⟨Z, 0, none⟩) 1 cc) ∧ C13 w' Z D ∧ DvOK D 6 ∧ Rl w' D l ∧ (∀ k, k < 4 → (l k).length ≤ 3) ∧ Below w.heap.size w w'
theorem info33 : (Try.prog.info? 33).map (fun i => (i.zero.map (·.cells.size), i.size, i.bytes)) = some (some 13, 13, 168) := by kernel_rfl
end Go.Proofs.Ytejfopjnokopeaa
