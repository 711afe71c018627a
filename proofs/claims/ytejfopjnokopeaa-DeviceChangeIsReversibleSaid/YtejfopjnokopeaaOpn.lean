/- A device as an argument. -/
import Derived.Test.YtejfopjnokopeaaAsc
import Derived.OpenShut
import Derived.SizedLaws
namespace Go.Proofs.Ytejfopjnokopeaa
open Go.ChangeShapes Go.WideShapes Go.ChangeAt Go.RowKit Go.Deep Go.Joins

section
variable {H : Type} {enc : TypeId × Value → H} {w : World}
theorem one_int {base : Nat} {spare : Nat → Bool} {held : Bool} {fuel : Nat} {cs : List Value} {x : DataW H × List MemPlace} (h : DataW.trod enc Try.prog w base spare held fuel 3 cs = some x) : ∃ z, cs = [.int .i64 z] ∧ (Lit.int .i64 z).wf = true := by
  obtain ⟨z, h1, _, h2⟩ := DataW.trod_int Try.underlying3 h
  exact ⟨z, h1, h2⟩
theorem one_sl {fuel : Nat} {cs : List Value} {x : DataW H × List MemPlace} (h : DataW.trod enc Try.prog w 0 (fun _ => true) true fuel 29 cs = some x) : ∃ a n c Z, cs = [.slice a n c] ∧ Ns .i64 w a n Z ∧ n ≤ c ∧ c ≤ 9223372036854775807 := by
  obtain ⟨a, n, c, rfl⟩ : ∃ a n c, cs = [.slice a n c] := by
    rcases open_slice Try.underlying29 h with ⟨rfl, _⟩ | ⟨a, n, c, _, _, _, _, rfl, _⟩
    · exact ⟨_, _, _, rfl⟩
    · exact ⟨_, _, _, rfl⟩
  obtain ⟨Z, h1, h2, h3⟩ := open_ns (P := Try.prog) (H := H) (enc := enc) (w := w) (a := a) (len := n) (cap := c) (d := x.1) (p := x.2) Try.underlying29 Try.underlying3 (by kernel_rfl) ⟨fuel, h⟩
  exact ⟨a, n, c, Z, rfl, h1, h2, h3⟩
theorem len_13 {cs : List Value} (h : cs.length = 13) : ∃ c0 c1 c2 c3 c4 c5 c6 c7 c8 c9 c10 c11 c12, cs = [c0, c1, c2, c3, c4, c5, c6, c7, c8, c9, c10, c11, c12] := by
  match cs, h with
  | [c0, c1, c2, c3, c4, c5, c6, c7, c8, c9, c10, c11, c12], _ => exact ⟨_, _, _, _, _, _, _, _, _, _, _, _, _, rfl⟩
theorem open_pd {v : Value} {d : DataW H} {p : List MemPlace} (h : DataW.Trod enc Try.prog w 0 (fun _ => true) true 33 v d p) :
    ∃ D : PD, v.cells.toList = D.cells.toList ∧ (Lit.int .i64 D.p).wf = true ∧ (∀ k, k < 4 → D.n k ≤ D.c k ∧ D.c k ≤ 9223372036854775807 ∧ ∃ Z, Ns .i64 w (D.A k) (D.n k) Z) ∧ (∀ k, k < 6 → (Lit.int .i64 (D.e k)).wf = true) ∧ (Lit.int .i64 D.wd).wf = true ∧ (Lit.int .i64 D.ws).wf = true := by
  obtain ⟨fuel, hf⟩ := h
  obtain ⟨ys, n', hn', hy, hlen, hyl, hfs⟩ := DataW.trod_struct Try.underlying33 hf
  rw [show Try.prog.cellsOf 33 = 13 by kernel_rfl] at hlen
  obtain ⟨c0, c1, c2, c3, c4, c5, c6, c7, c8, c9, c10, c11, c12, hcs⟩ := len_13 hlen
  rw [hcs] at hfs ⊢
  clear hf hcs hlen hy
  have g : ∀ i, i < 5 → ∃ y, ys[i]? = some y := fun i hi => ⟨_, List.getElem?_eq_getElem (by rw [hyl]; exact hi)⟩
  obtain ⟨y0, e0⟩ := g 0 (by omega)
  obtain ⟨y1, e1⟩ := g 1 (by omega)
  obtain ⟨y2, e2⟩ := g 2 (by omega)
  obtain ⟨y3, e3⟩ := g 3 (by omega)
  obtain ⟨y4, e4⟩ := g 4 (by omega)
  have k3 : Try.prog.cellsOf 3 = 1 := by kernel_rfl
  have k29 : Try.prog.cellsOf 29 = 1 := by kernel_rfl
  have k30 : Try.prog.cellsOf 30 = 4 := by kernel_rfl
  have k31 : Try.prog.cellsOf 31 = 6 := by kernel_rfl
  have f0 : DataW.trod enc Try.prog w 0 (fun _ => true) true n' 3 (List.take 1 (List.drop 0 [c0, c1, c2, c3, c4, c5, c6, c7, c8, c9, c10, c11, c12])) = some y0 := by
    have := (hfs 0 _ rfl).trans e0
    exact k3 ▸ this
  have f1 : DataW.trod enc Try.prog w 0 (fun _ => true) true n' 30 (List.take 4 (List.drop 1 [c0, c1, c2, c3, c4, c5, c6, c7, c8, c9, c10, c11, c12])) = some y1 := by
    have := (hfs 1 _ rfl).trans e1
    exact k30 ▸ this
  have f2 : DataW.trod enc Try.prog w 0 (fun _ => true) true n' 31 (List.take 6 (List.drop 5 [c0, c1, c2, c3, c4, c5, c6, c7, c8, c9, c10, c11, c12])) = some y2 := by
    have := (hfs 2 _ rfl).trans e2
    exact k31 ▸ this
  have f3 : DataW.trod enc Try.prog w 0 (fun _ => true) true n' 3 (List.take 1 (List.drop 11 [c0, c1, c2, c3, c4, c5, c6, c7, c8, c9, c10, c11, c12])) = some y3 := by
    have := (hfs 3 _ rfl).trans e3
    exact k3 ▸ this
  have f4 : DataW.trod enc Try.prog w 0 (fun _ => true) true n' 3 (List.take 1 (List.drop 12 [c0, c1, c2, c3, c4, c5, c6, c7, c8, c9, c10, c11, c12])) = some y4 := by
    have := (hfs 4 _ rfl).trans e4
    exact k3 ▸ this
  obtain ⟨z0, q0, w0⟩ := one_int f0
  obtain ⟨z3, q3, w3⟩ := one_int f3
  obtain ⟨z4, q4, w4⟩ := one_int f4
  obtain ⟨xs, m, -, -, -, hxl, hx⟩ := DataW.trod_array Try.underlying30 f1
  obtain ⟨us, m2, -, -, -, hul, hu⟩ := DataW.trod_array Try.underlying31 f2
  have gx : ∀ i, i < 4 → ∃ y, xs[i]? = some y := fun i hi => ⟨_, List.getElem?_eq_getElem (by rw [hxl]; exact hi)⟩
  have gu : ∀ i, i < 6 → ∃ y, us[i]? = some y := fun i hi => ⟨_, List.getElem?_eq_getElem (by rw [hul]; exact hi)⟩
  have sx : ∀ i, i < 4 → ∃ a n c Z, List.take 1 (List.drop (i * 1) [c1, c2, c3, c4]) = [.slice a n c] ∧ Ns .i64 w a n Z ∧ n ≤ c ∧ c ≤ 9223372036854775807 := fun i hi => by
    obtain ⟨y, hy⟩ := gx i hi
    have := (hx i hi).trans hy
    rw [k29] at this
    exact one_sl this
  have su : ∀ i, i < 6 → ∃ z, List.take 1 (List.drop (i * 1) [c5, c6, c7, c8, c9, c10]) = [.int .i64 z] ∧ (Lit.int .i64 z).wf = true := fun i hi => by
    obtain ⟨y, hy⟩ := gu i hi
    have := (hu i hi).trans hy
    rw [k3] at this
    exact one_int this
  clear hfs hx hu f0 f1 f2 f3 f4
  obtain ⟨a0, n0, m0, Z0, p0, r0, s0, t0⟩ := sx 0 (by omega)
  obtain ⟨a1, n1, m1, Z1, p1, r1, s1, t1⟩ := sx 1 (by omega)
  obtain ⟨a2, n2, m2, Z2, p2, r2, s2, t2⟩ := sx 2 (by omega)
  obtain ⟨a3, n3, m3, Z3, p3, r3, s3, t3⟩ := sx 3 (by omega)
  obtain ⟨v0, o0, x0⟩ := su 0 (by omega)
  obtain ⟨v1, o1, x1⟩ := su 1 (by omega)
  obtain ⟨v2, o2, x2⟩ := su 2 (by omega)
  obtain ⟨v3, o3, x3⟩ := su 3 (by omega)
  obtain ⟨v4, o4, x4⟩ := su 4 (by omega)
  obtain ⟨v5, o5, x5⟩ := su 5 (by omega)
  clear sx su
  simp only [List.drop, List.take, List.cons.injEq, and_true] at q0 q3 q4 p0 p1 p2 p3 o0 o1 o2 o3 o4 o5
  subst q0 q3 q4 p0 p1 p2 p3 o0 o1 o2 o3 o4 o5
  refine ⟨⟨z0, fun k => if k = 0 then a0 else if k = 1 then a1 else if k = 2 then a2 else a3, fun k => if k = 0 then n0 else if k = 1 then n1 else if k = 2 then n2 else n3, fun k => if k = 0 then m0 else if k = 1 then m1 else if k = 2 then m2 else m3, fun k => if k = 0 then v0 else if k = 1 then v1 else if k = 2 then v2 else if k = 3 then v3 else if k = 4 then v4 else v5, z3, z4⟩, rfl, w0, fun k hk => ?_, fun k hk => ?_, w3, w4⟩
  · rcases (show k = 0 ∨ k = 1 ∨ k = 2 ∨ k = 3 by omega) with rfl | rfl | rfl | rfl
    · exact ⟨s0, t0, Z0, r0⟩
    · exact ⟨s1, t1, Z1, r1⟩
    · exact ⟨s2, t2, Z2, r2⟩
    · exact ⟨s3, t3, Z3, r3⟩
  · rcases (show k = 0 ∨ k = 1 ∨ k = 2 ∨ k = 3 ∨ k = 4 ∨ k = 5 by omega) with rfl | rfl | rfl | rfl | rfl | rfl
    · exact x0
    · exact x1
    · exact x2
    · exact x3
    · exact x4
    · exact x5
/-- What an argument's device is. -/
structure PdW (w : World) (D : PD) : Prop where
  p : (Lit.int .i64 D.p).wf = true
  rails : ∀ k, k < 4 → D.n k ≤ D.c k ∧ D.c k ≤ 9223372036854775807 ∧ ∃ Z, Ns .i64 w (D.A k) (D.n k) Z
  e : ∀ k, k < 6 → (Lit.int .i64 (D.e k)).wf = true
  wd : (Lit.int .i64 D.wd).wf = true
  ws : (Lit.int .i64 D.ws).wf = true
set_option maxRecDepth 20000 in
theorem open_dev {r : Reach} {b0 : Nat} {v : Value} {d : DataW H} {p : List MemPlace} (hv : Value.okWide Try.prog w r b0 33 v) (h : DataW.Trod enc Try.prog w 0 (fun _ => true) true 33 v d p) : ∃ D : PD, v = .agg D.cells ∧ PdW w D := by
  obtain ⟨cs, rfl, _⟩ := okWide_struct Try.underlying33 hv
  obtain ⟨D, h0, h1, h2, h3, h4, h5⟩ := open_pd h
  refine ⟨D, ?_, h1, h2, h3, h4, h5⟩
  have h6 : cs.toList = D.cells.toList := h0
  rw [Array.toList_inj.1 h6]
end
end Go.Proofs.Ytejfopjnokopeaa
