/- Sources and their reference in the course of a law. -/
import Derived.Test.YtmhabdpnakbfpaaWnt
import Derived.Test.YtmhabdpnakbfpaaAwk
import Derived.Test.YtmhabdpnakbfpaaOpn
namespace Go.Proofs.Ytmhabdpnakbfpaa
open Go.ChangeShapes Go.WideShapes Go.ChangeAt Go.RowKit Go.Deep Go.Joins

theorem Rk.loc {w : World} {s : WS} {y : Ry} (h : Rk w s y) (L X : Nat) (A : Option Addr) (c : Nat) : Rk w (s.loc L X A c) y := ⟨h.c0, h.c1, h.c2, h.c3, h.c4, h.c5, h.c6, h.c7, h.f, h.lL, h.lX, h.lY, h.XL, h.YL, h.XY, h.hn, h.on, h.hd, h.tb, h.ck0⟩
/-- Both, made since w0, apart from each other. -/
structure D2 (w0 w : World) (s : WS) (y : Ry) : Prop where
  d : D1 w0 w s
  r : Rk w s y
  l : w0.heap.size ≤ y.L
  x : w0.heap.size ≤ y.X
  y' : w0.heap.size ≤ y.Y
  aL : s.L ≠ y.L ∧ s.L ≠ y.X ∧ s.L ≠ y.Y
  aX : 0 < s.n → s.X ≠ y.L ∧ s.X ≠ y.X ∧ s.X ≠ y.Y
section
variable {w0 w w' : World} {s : WS} {y : Ry}
theorem D2.below (h : D2 w0 w s y) (hb : Below w.heap.size w w') : D2 w0 w' s y := ⟨h.d.below hb, h.r.below hb, h.l, h.x, h.y', h.aL, h.aX⟩
/-- In the middle: the sources have made the call, the reference has not. -/
structure DM (w0 w : World) (s : WS) (y : Ry) (t : WS) : Prop where
  d : D1 w0 w t
  r : Rk w s y
  l : w0.heap.size ≤ y.L
  x : w0.heap.size ≤ y.X
  y' : w0.heap.size ≤ y.Y
  aL : t.L ≠ y.L ∧ t.L ≠ y.X ∧ t.L ≠ y.Y
  aX : 0 < t.n → t.X ≠ y.L ∧ t.X ≠ y.X ∧ t.X ≠ y.Y
theorem D2.op {r : WS × Int} {e : Ending} (h : D2 w0 w s y) (hrn : r.1.n = s.n) (hp : OpQ w s r e w') : ∃ X A c, e = .returned (.int .i64 r.2) ∧ DM w0 w' s y (r.1.loc s.L X A c) := by
  obtain ⟨X, A, c, he, hk, hc, hX⟩ := hp
  have hr : Rk w' s y := h.r.keep (fun b hb => by
    have hlt : b < w.heap.size := by rcases hb with rfl | rfl | rfl; exact h.r.lL; exact h.r.lX; exact h.r.lY
    refine hc.block b hlt (fun e => ?_)
    have := h.aL
    rcases e with e | ⟨e, h0⟩
    · rcases hb with hb | hb | hb <;> omega
    · have := h.aX h0
      rcases hb with hb | hb | hb <;> omega)
  obtain ⟨X', A', c', he', hd⟩ := h.d.op (r := r) (e := e) ⟨X, A, c, he, hk, hc, hX⟩
  have hd : D1 w0 w' (r.1.loc s.L X A c) := by
    refine ⟨hk, h.d.l, ?_, hd.b⟩
    show w0.heap.size ≤ X
    have := h.d.b.size
    have := h.d.x
    omega
  refine ⟨X, A, c, he, hd, hr, h.l, h.x, h.y', h.aL, ?_⟩
  intro h0
  have h0 : 0 < r.1.n := h0
  show X ≠ y.L ∧ X ≠ y.X ∧ X ≠ y.Y
  have := h.aX (by omega)
  have := h.r.lL
  have := h.r.lX
  have := h.r.lY
  rcases hX with hX | hX <;> refine ⟨?_, ?_, ?_⟩ <;> omega
theorem DM.op {t u : WS} {v : Value} {e : Ending} (h : DM w0 w s y t) (hu : ∃ L X A c, t = u.loc L X A c) (hp : RoP w y u v e w') : e = .returned v ∧ D2 w0 w' t y := by
  obtain ⟨he, hk, hc⟩ := hp
  have hw : Wk w' t := h.d.k.keep (fun b hb => by
    have hlt : b < w.heap.size := by rcases hb with rfl | ⟨rfl, h0⟩; exact h.d.k.lL; exact h.d.k.lX h0
    refine hc.block b hlt (fun e => ?_)
    have := h.aL
    rcases hb with hb | ⟨hb, h0⟩
    · rcases e with e | e | e <;> omega
    · have := h.aX h0
      rcases e with e | e | e <;> omega)
  have hb : Below w0.heap.size w0 w' := Below.chg h.d.b hc h.d.b.size (fun b hb => by
    have := h.l
    have := h.x
    have := h.y'
    rcases hb with hb | hb | hb <;> omega)
  obtain ⟨L, X, A, c, rfl⟩ := hu
  exact ⟨he, ⟨hw, h.d.l, h.d.x, hb⟩, hk.loc _ _ _ _, h.l, h.x, h.y', h.aL, h.aX⟩
end
theorem do_n (s : WS) (m : Nat) (x : Ar) : (doK s m x).1.n = s.n := by
  unfold doK
  split
  · exact (sm_act s x.s x.t).n
  split
  · exact (sm_dea s x.s x.t).n
  split
  · exact (sm_pul s x.s x.t x.o).n
  split
  · exact (sm_sal s x.t x.o).n
  split
  · exact (sm_av s x.t).n
  split
  · unfold armS
    split
    · split
      · exact (sm_adv s x.t).n
      · rfl
    · rfl
  · rfl
theorem wU_nn (x : Int) : 0 ≤ wU x := by unfold wU; rw [IntKind.wrap_u64]; omega
theorem atR_o (c : Cl) (n : Nat) (now ev : Int) (h : 0 ≤ c.h) : 0 ≤ (atR c n now ev).o := by
  have h2 : 0 ≤ c.h.tmod 12 := Int.tmod_nonneg _ h
  unfold atR
  split
  · exact h
  · show 0 ≤ (if modOf c.k 9 = 5 then wU (wU (now + c.t.tmod 10) + c.h.tmod 12) else c.h.tmod 12)
    split
    · exact wU_nn _
    · exact h2
end Go.Proofs.Ytmhabdpnakbfpaa
