/- Copy, and Equal of two slices of numbers. -/
import Derived.Test.YtidegjinfacjjaaNew
namespace Go.Proofs.Ytidegjinfacjjaa
open Go.ChangeShapes Go.WideShapes Go.ChangeAt Go.RowKit Go.Deep Go.Joins Go.Maps

/-- What a copy is: the same model at blocks of its own; the domains and the links are shared. -/
def CoP (w : World) (h : Mo) (e : Ending) (w' : World) : Prop :=
  ∃ L X ce, e = .returned (.pointer (some ⟨L, 0, none⟩)) ∧ Hm w' { h with L := L, X := X, ce := ce } ∧ w.heap.size ≤ L ∧ w.heap.size ≤ X ∧ L < w'.heap.size ∧ X < w'.heap.size ∧ Below w.heap.size w w'
theorem cpy_done {w w3 : World} {h : Mo} {c g : Nat} (k : Hm w h)
    (hb : Below (w.alloc (.cells #[.slice h.A h.n h.ca, .slice h.B h.m h.cb, .int .i64 h.s, .slice (some ⟨h.X, 0, none⟩) h.n h.ce, .int .i64 h.o] 65)).heap.size (w.alloc (.cells #[.slice h.A h.n h.ca, .slice h.B h.m h.cb, .int .i64 h.s, .slice (some ⟨h.X, 0, none⟩) h.n h.ce, .int .i64 h.o] 65)) w3)
    (hF : Fl w3 (some ⟨g, 0, none⟩) 1 h.n (eV h.E)) (g1 : w.heap.size + 1 ≤ g) (g2 : g < w3.heap.size) (fz : ∀ j, w3.frozen? ⟨g, j, none⟩ = false) (hA : ∀ a, h.A = some a → a.block < w.heap.size) (hB : ∀ a, h.B = some a → a.block < w.heap.size) :
    CoP w h (.returned (.pointer (some ⟨w.heap.size, 0, none⟩))) (w3.setCell ⟨w.heap.size, 3, none⟩ (.slice (some ⟨g, 0, none⟩) h.n c)) := by
  have B1 : Below w.heap.size w (w.alloc (.cells #[.slice h.A h.n h.ca, .slice h.B h.m h.cb, .int .i64 h.s, .slice (some ⟨h.X, 0, none⟩) h.n h.ce, .int .i64 h.o] 65)) := bal (Below.refl _ w) _
  have N := heap_alloc_new w (.cells #[.slice h.A h.n h.ca, .slice h.B h.m h.cb, .int .i64 h.s, .slice (some ⟨h.X, 0, none⟩) h.n h.ce, .int .i64 h.o] 65)
  have sz : (w.alloc (.cells #[.slice h.A h.n h.ca, .slice h.B h.m h.cb, .int .i64 h.s, .slice (some ⟨h.X, 0, none⟩) h.n h.ce, .int .i64 h.o] 65)).heap.size = w.heap.size + 1 := by simp
  generalize w.alloc (.cells #[.slice h.A h.n h.ca, .slice h.B h.m h.cb, .int .i64 h.s, .slice (some ⟨h.X, 0, none⟩) h.n h.ce, .int .i64 h.o] 65) = w1 at *
  have B3 := bel2 B1 hb
  have K3 := k.below B3
  have z3 := hb.size
  have hc := Chg.set w3 w.heap.size 3 (.slice (some ⟨g, 0, none⟩) h.n c)
  have L1 : w.heap.size < w1.heap.size := by omega
  have eL : ∀ j, w3.cell? ⟨w.heap.size, j, none⟩ = _ := fun j => (hb.cell (p := ⟨w.heap.size, j, none⟩) L1).trans (cells_at N j)
  have fL : ∀ j, w3.frozen? ⟨w.heap.size, j, none⟩ = false := fun j => by
    have := hb.block w.heap.size L1
    exact (blk_frz this j).trans (frozen_of_row _ _ j _ _ N)
  have lL := k.lL
  have lX := k.lX
  have eg := hc.block g g2 (by omega)
  refine ⟨w.heap.size, g, c, rfl, ⟨(set_off _ _ _ _ _ (by decide)).trans (eL 0), (set_off _ _ _ _ _ (by decide)).trans (eL 1), (set_off _ _ _ _ _ (by decide)).trans (eL 2), set_same _ _ _ _ _ (eL 3), (set_off _ _ _ _ _ (by decide)).trans (eL 4), fun j => (set_frz ..).trans (fL j), fun j => (set_frz ..).trans (fz j), Nat.lt_of_lt_of_le (show w.heap.size < w3.heap.size by omega) hc.size, Nat.lt_of_lt_of_le g2 hc.size, by show w.heap.size ≠ g; omega, K3.dm.chg hc (fun a e _ => ?_), K3.lk.chg hc (fun a e _ => ?_), fun a e => ?_, fun a e => ?_, fun i hi => ?_, k.n1, k.n2, k.m1⟩, Nat.le_refl _, by omega, Nat.lt_of_lt_of_le (show w.heap.size < w3.heap.size by omega) hc.size, Nat.lt_of_lt_of_le g2 hc.size, ?_⟩
  · show ¬ a.block = w.heap.size
    have := hA a e
    omega
  · show ¬ a.block = w.heap.size
    have := hB a e
    omega
  · have := hA a e
    show a.block ≠ w.heap.size ∧ a.block ≠ g
    omega
  · have := hB a e
    show a.block ≠ w.heap.size ∧ a.block ≠ g
    omega
  · have := (hF.eat' rfl (show i < h.n from hi)).2
    rw [Nat.zero_add] at this
    exact (blk_cell eg _).trans this
  · exact B3.setCell (Nat.le_refl _) _
set_option maxRecDepth 20000 in
set_option maxHeartbeats 16000000 in
theorem cpy_any {w : World} {h : Mo} (k : Hm w h) (hA : ∀ a, h.A = some a → a.block < w.heap.size) (hB : ∀ a, h.B = some a → a.block < w.heap.size) : Calls Try.prog 28 #[.pointer (some ⟨h.L, 0, none⟩)] w (CoP w h) := by
  have CL := Lib.hid (fun (W : World) (hb : Below w.heap.size w W) => clo40 (some ⟨h.X, 0, none⟩) h.n h.ce (eV h.E) W (⟨by have := k.n2; omega, .inr ⟨h.X, 0, rfl, Nat.lt_of_lt_of_le k.lX hb.size, fun j hj => by rw [Nat.zero_add]; exact (hb.cell (p := ⟨h.X, j, none⟩) k.lX).trans (k.en j (by omega))⟩⟩) (fun e => by cases e) (by have := k.n2; omega) (eV_one h.E))
  have K := Lib.hid k
  have c0 := k.c0
  have c1 := k.c1
  have c2 := k.c2
  have c3 := k.c3
  have c4 := k.c4
  have lL := k.lL
  have HA := Lib.hid hA
  have HB := Lib.hid hB
  have CLw := CL.out _ (bal (Below.refl _ w) (.cells #[.slice h.A h.n h.ca, .slice h.B h.m h.cb, .int .i64 h.s, .slice (some ⟨h.X, 0, none⟩) h.n h.ce, .int .i64 h.o] 65))
  have n1 := k.n1
  clear k hA hB CL
  go_enter Try.func28, Try.ntmps28
  go_wp2_with fail
  refine CLw.mono ?_
  clear CLw
  rintro e w3 ⟨A2, cc, rfl, hF, ha, -, -, -, hz, hb⟩
  obtain ⟨g, go, rfl, -⟩ := hF.addr n1
  obtain ⟨g1, g2⟩ := ha _ rfl
  have fz := fun j => (hz _ j rfl).1
  obtain rfl : go = 0 := (hz _ 0 rfl).2
  have sz : (w.alloc (.cells #[.slice h.A h.n h.ca, .slice h.B h.m h.cb, .int .i64 h.s, .slice (some ⟨h.X, 0, none⟩) h.n h.ce, .int .i64 h.o] 65)).heap.size = w.heap.size + 1 := by simp
  have CD := Lib.hid (cpy_done (c := cc) K.out hb hF (by have g1' : _ ≤ g := g1; omega) g2 fz HA.out HB.out)
  have l3 : w.heap.size < w3.heap.size := by have := hb.size; omega
  have u3 : w3.cell? ⟨w.heap.size, 3, none⟩ = some (.slice (some ⟨h.X, 0, none⟩) h.n h.ce) := (hb.cell (p := ⟨w.heap.size, 3, none⟩) (by rw [sz]; exact Nat.lt_succ_self _)).trans (new_c w _ _ 3)
  have f3 : ∀ j, w3.frozen? ⟨w.heap.size, j, none⟩ = false := fun j => (blk_frz (hb.block w.heap.size (by rw [sz]; exact Nat.lt_succ_self _)) j).trans (frozen_of_row _ _ j _ _ (heap_alloc_new w _))
  clear hF ha hz hb g1 g2 fz sz c0 c1 c2 c3 c4
  go_wp2_with fail
  go_ret
  exact CD.out
end Go.Proofs.Ytidegjinfacjjaa
