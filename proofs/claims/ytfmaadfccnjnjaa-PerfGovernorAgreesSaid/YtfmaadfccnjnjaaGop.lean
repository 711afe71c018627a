/- Governor parameters as an argument, and what is kept beside the calls of a law's first region. -/
import Derived.Test.YtfmaadfccnjnjaaGnw
namespace Go.Proofs.Ytfmaadfccnjnjaa
open Go.ChangeShapes Go.WideShapes Go.ChangeAt Go.RowKit Go.Deep Go.Joins

structure GP where
  up : Int
  dn : Int
  sp : Int
theorem open_gp {H : Type} {enc : TypeId × Value → H} {w : World} {r : Reach} {b0 : Nat} {v : Value} {d : DataW H} {p : List MemPlace}
    (hv : Value.okWide Try.prog w r b0 44 v) (h : DataW.Trod enc Try.prog w 0 (fun _ => true) true 44 v d p) :
    ∃ X : GP, v = .agg #[.int .i64 X.up, .int .i64 X.dn, .int .i64 X.sp] ∧ True := by
  obtain ⟨v0, v1, v2, y0, y1, y2, n, rfl, _, _, t0, t1, t2⟩ := open_agg3 Try.underlying44 (by kernel_rfl) (by kernel_rfl) hv h
  obtain ⟨l0, e0, _, _⟩ := DataW.trod_int Try.underlying3 t0
  obtain ⟨l1, e1, _, _⟩ := DataW.trod_int Try.underlying3 t1
  obtain ⟨l2, e2, _, _⟩ := DataW.trod_int Try.underlying3 t2
  simp at e0 e1 e2
  subst e0 e1 e2
  exact ⟨⟨l0, l1, l2⟩, rfl, trivial⟩
theorem keepS {L : Nat} {a b d : Int} {w1 W w2 : World} (hs : L < w1.heap.size) (h : W.cell? ⟨L, 0, none⟩ = some (.int .i64 a) ∧ W.cell? ⟨L, 1, none⟩ = some (.int .i64 b) ∧ W.cell? ⟨L, 2, none⟩ = some (.int .i64 d) ∧ Below w1.heap.size w1 W) (hb : Below W.heap.size W w2) : w2.cell? ⟨L, 0, none⟩ = some (.int .i64 a) ∧ w2.cell? ⟨L, 1, none⟩ = some (.int .i64 b) ∧ w2.cell? ⟨L, 2, none⟩ = some (.int .i64 d) ∧ Below w1.heap.size w1 w2 := by
  obtain ⟨h0, h1, h2, h3⟩ := h
  have := h3.size
  have hl : L < W.heap.size := by omega
  exact ⟨(hb.cell (by exact hl)).trans h0, (hb.cell (by exact hl)).trans h1, (hb.cell (by exact hl)).trans h2, bel2 h3 hb⟩
end Go.Proofs.Ytfmaadfccnjnjaa
