/- A sequence in memory; plan. -/
import Derived.Test.YtcmklipifhpgmaaMst
import Derived.Test.YtcmklipifhpgmaaRvs
namespace Go.Proofs.Ytcmklipifhpgmaa
open Go.ChangeShapes Go.WideShapes Go.ChangeAt Go.RowKit Go.Deep Go.Joins

abbrev Op := Int × Int
def oV (p : List Op) (j : Nat) : Value := .int .i64 (if j % 2 = 0 then (p.getD (j / 2) (0, 0)).1 else (p.getD (j / 2) (0, 0)).2)
theorem oV_one (p : List Op) (j : Nat) : (oV p j).oneCell' = true := rfl
theorem oV0 (p : List Op) (i : Nat) : oV p (i * 2) = .int .i64 (p.getD i (0, 0)).1 := by simp [oV]
theorem oV1 (p : List Op) (i : Nat) : oV p (i * 2 + 1) = .int .i64 (p.getD i (0, 0)).2 := by
  unfold oV
  rw [if_neg (by omega), show (i * 2 + 1) / 2 = i by omega]
theorem vsL_app (p : List Op) (x : Op) : vsL (oV (p ++ [x])) ((p.length + 1) * 2) = vsL (oV p) (p.length * 2) ++ [.int .i64 x.1, .int .i64 x.2] := by
  rw [show (p.length + 1) * 2 = p.length * 2 + 1 + 1 by omega, vsL_succ, vsL_succ, oV0, oV1]
  have e : (p ++ [x]).getD p.length (0, 0) = x := by simp
  have e0 : vsL (oV (p ++ [x])) (p.length * 2) = vsL (oV p) (p.length * 2) := by
    unfold vsL
    refine List.map_congr_left fun j hj => ?_
    have hj := List.mem_range.1 hj
    have : (p ++ [x]).getD (j / 2) (0, 0) = p.getD (j / 2) (0, 0) := by
      rw [List.getD_eq_getElem?_getD, List.getD_eq_getElem?_getD, List.getElem?_append_left (by omega)]
    unfold oV
    rw [this]
  rw [e, e0]
  simp
/-- A sequence; ghosts: its blocks, the addresses of its slices. -/
structure SQ where
  L : Nat
  M : Nat
  OA : Option Addr
  oc : Nat
  n : Nat
  o : Nat → Int
  st : Int
  p : List Op
  S : Int → Int → Bool
  nS : Nat
  r : Int
/-- All but its pending operations. -/
structure Sb (w : World) (s : SQ) (v : Value) : Prop where
  c0 : w.cell? ⟨s.L, 0, none⟩ = some (.slice s.OA s.n s.oc)
  c1 : w.cell? ⟨s.L, 1, none⟩ = some (.int .i64 s.st)
  c2 : w.cell? ⟨s.L, 2, none⟩ = some v
  c3 : w.cell? ⟨s.L, 3, none⟩ = some (.map (some s.M))
  c4 : w.cell? ⟨s.L, 4, none⟩ = some (.int .i64 s.r)
  fz : ∀ j, w.frozen? ⟨s.L, j, none⟩ = false
  lL : s.L < w.heap.size
  od : Fl w s.OA 1 s.n (eV s.o)
  on : s.OA = none → s.n = 0 ∧ s.oc = 0
  oL : ∀ a, s.OA = some a → a.block ≠ s.L ∧ a.block < w.heap.size
  mp : Sd w s.M s.nS s.S
  mL : s.M ≠ s.L
section
variable {w w' : World} {s : SQ} {v : Value}
theorem Sb.chg {T : Nat → Prop} (h : Sb w s v) (hc : Chg T w w') (h1 : ¬ T s.L) (h2 : ¬ T s.M) (h3 : ∀ a, s.OA = some a → ¬ T a.block) : Sb w' s v := by
  have eL := hc.block s.L h.lL h1
  exact ⟨(blk_cell eL _).trans h.c0, (blk_cell eL _).trans h.c1, (blk_cell eL _).trans h.c2, (blk_cell eL _).trans h.c3, (blk_cell eL _).trans h.c4, fun j => (blk_frz eL j).trans (h.fz j), Nat.lt_of_lt_of_le h.lL hc.size, h.od.chg hc (fun a e _ => h3 a e), h.on, fun a e => ⟨(h.oL a e).1, Nat.lt_of_lt_of_le (h.oL a e).2 hc.size⟩, h.mp.chg hc h2, h.mL⟩
theorem Sb.below (h : Sb w s v) (hb : Below w.heap.size w w') : Sb w' s v := h.chg (Chg.of_below hb (fun _ => False)) (fun x => x) (fun x => x) (fun _ _ x => x)
theorem Sb.set2 (h : Sb w s v) (v' : Value) : Sb (w.setCell ⟨s.L, 2, none⟩ v') s v' := by
  have hc := Chg.set w s.L 2 v'
  exact ⟨(set_off _ _ _ _ _ (by decide)).trans h.c0, (set_off _ _ _ _ _ (by decide)).trans h.c1, set_same _ _ _ _ _ h.c2, (set_off _ _ _ _ _ (by decide)).trans h.c3, (set_off _ _ _ _ _ (by decide)).trans h.c4, fun j => (set_frz ..).trans (h.fz j), Nat.lt_of_lt_of_le h.lL hc.size, h.od.chg hc (fun a e _ => (h.oL a e).1), h.on, fun a e => ⟨(h.oL a e).1, Nat.lt_of_lt_of_le (h.oL a e).2 hc.size⟩, h.mp.chg hc h.mL, h.mL⟩
theorem Sb.set1 (h : Sb w s v) (x : Int) : Sb (w.setCell ⟨s.L, 1, none⟩ (.int .i64 x)) { s with st := x } v := by
  have hc := Chg.set w s.L 1 (.int .i64 x)
  exact ⟨(set_off _ _ _ _ _ (by decide)).trans h.c0, set_same _ _ _ _ _ h.c1, (set_off _ _ _ _ _ (by decide)).trans h.c2, (set_off _ _ _ _ _ (by decide)).trans h.c3, (set_off _ _ _ _ _ (by decide)).trans h.c4, fun j => (set_frz ..).trans (h.fz j), Nat.lt_of_lt_of_le h.lL hc.size, h.od.chg hc (fun a e _ => (h.oL a e).1), h.on, fun a e => ⟨(h.oL a e).1, Nat.lt_of_lt_of_le (h.oL a e).2 hc.size⟩, h.mp.chg hc h.mL, h.mL⟩
theorem Sb.set4 (h : Sb w s v) (x : Int) : Sb (w.setCell ⟨s.L, 4, none⟩ (.int .i64 x)) { s with r := x } v := by
  have hc := Chg.set w s.L 4 (.int .i64 x)
  exact ⟨(set_off _ _ _ _ _ (by decide)).trans h.c0, (set_off _ _ _ _ _ (by decide)).trans h.c1, (set_off _ _ _ _ _ (by decide)).trans h.c2, (set_off _ _ _ _ _ (by decide)).trans h.c3, set_same _ _ _ _ _ h.c4, fun j => (set_frz ..).trans (h.fz j), Nat.lt_of_lt_of_le h.lL hc.size, h.od.chg hc (fun a e _ => (h.oL a e).1), h.on, fun a e => ⟨(h.oL a e).1, Nat.lt_of_lt_of_le (h.oL a e).2 hc.size⟩, h.mp.chg hc h.mL, h.mL⟩
theorem Sb.other (h : Sb w s v) {s' : SQ} (e1 : s'.L = s.L) (e2 : s'.M = s.M) (e3 : s'.OA = s.OA) (e4 : s'.oc = s.oc) (e5 : s'.n = s.n) (e6 : s'.o = s.o) (e7 : s'.st = s.st) (e8 : s'.S = s.S) (e9 : s'.nS = s.nS) (e10 : s'.r = s.r) : Sb w s' v := by
  obtain ⟨L, M, OA, oc, n, o, st, p, S, nS, r⟩ := s
  obtain ⟨L', M', OA', oc', n', o', st', p', S', nS', r'⟩ := s'
  simp only at e1 e2 e3 e4 e5 e6 e7 e8 e9 e10
  subst e1 e2 e3 e4 e5 e6 e7 e8 e9 e10
  exact ⟨h.c0, h.c1, h.c2, h.c3, h.c4, h.fz, h.lL, h.od, h.on, h.oL, h.mp, h.mL⟩
end
/-- While it plans: the pending operations are a row of its own, made since block BB. -/
structure Pl (w : World) (s : SQ) (BB : Nat) (v : Value) : Prop where
  b : Sb w s v
  own : w.ownsRow BB 30 2 v s.p.length (vsL (oV s.p) (s.p.length * 2))
  LB : s.L < BB
  MB : s.M < BB
  OB : ∀ a, s.OA = some a → a.block < BB
  BW : BB ≤ w.heap.size
theorem Pl.chg {T : Nat → Prop} {w w' : World} {s : SQ} {BB : Nat} {v : Value} (h : Pl w s BB v) (hc : Chg T w w') (h1 : ¬ T s.L) (h2 : ¬ T s.M) (h3 : ∀ a, s.OA = some a → ¬ T a.block) (h4 : ∀ k, v.ownBlock = some k → ¬ T k) : Pl w' s BB v :=
  ⟨h.b.chg hc h1 h2 h3, own_chg h.own hc h4, h.LB, h.MB, h.OB, Nat.le_trans h.BW hc.size⟩
theorem Pl.below {w w' : World} {s : SQ} {BB : Nat} {v : Value} (h : Pl w s BB v) (hb : Below w.heap.size w w') : Pl w' s BB v := h.chg (Chg.of_below hb (fun _ => False)) (fun x => x) (fun x => x) (fun _ _ x => x) (fun _ _ x => x)
/-- One more operation: appended, then stored. -/
theorem Pl.app {w w9 : World} {s : SQ} {BB : Nat} {v v' : Value} {x : Op} (h : Pl w s BB v) (hg : w.grownBy w9 v.ownBlock) (ho : w9.ownsRow BB 30 2 v' (s.p.length + 1) (vsL (oV s.p) (s.p.length * 2) ++ [.int .i64 x.1, .int .i64 x.2])) : Pl (w9.setCell ⟨s.L, 2, none⟩ v') { s with p := s.p ++ [x] } BB v' := by
  have hc := Chg.of_grown hg
  have hlo : ∀ k, v.ownBlock = some k → BB ≤ k := fun k hk => (own_lo h.own k hk).1
  have hlo' : ∀ k, v'.ownBlock = some k → BB ≤ k := fun k hk => (own_lo ho k hk).1
  have LB := h.LB
  have MB := h.MB
  have b1 := h.b.chg hc (fun e => by have := hlo _ e; omega) (fun e => by have := hlo _ e; omega) (fun a ea e => by have := hlo _ e; have := h.OB a ea; omega)
  refine ⟨(b1.set2 v').other rfl rfl rfl rfl rfl rfl rfl rfl rfl rfl, ?_, h.LB, h.MB, h.OB, ?_⟩
  · show (w9.setCell ⟨s.L, 2, none⟩ v').ownsRow BB 30 2 v' (s.p ++ [x]).length (vsL (oV (s.p ++ [x])) ((s.p ++ [x]).length * 2))
    rw [List.length_append, List.length_singleton, vsL_app]
    exact own_chg ho (Chg.set w9 s.L 2 v') (fun k hk e => by have := hlo' k hk; omega)
  · have := h.BW
    have := hc.size
    simp
    omega
def planL (ph : Int) (rev : Bool) (n : Nat) (o : Nat → Int) : List Op := (List.range n).map fun i => (ph, o (if rev then n - 1 - i else i))
def PlP (w : World) (s : SQ) (BB : Nat) (l : List Op) (e : Ending) (w' : World) : Prop := e = .returned (.tuple #[]) ∧ ∃ v', Pl w' { s with p := s.p ++ l } BB v' ∧ Chg (fun b => b = s.L ∨ BB ≤ b) w w'
end Go.Proofs.Ytcmklipifhpgmaa
