/- settle; a whole sequence. -/
import Derived.Test.YtcmklipifhpgmaaPlw
import Derived.Test.YtcmklipifhpgmaaDlf
namespace Go.Proofs.Ytcmklipifhpgmaa
open Go.ChangeShapes Go.WideShapes Go.ChangeAt Go.RowKit Go.Deep Go.Joins

def stl (x : Int) (m : Nat) : Int := if 0 < m then x else if x = 0 then 1 else if x = 2 then 3 else x
def StP (w : World) (s : SQ) (v : Value) (x : Int) (e : Ending) (w' : World) : Prop := e = .returned (.tuple #[]) ∧ Sb w' { s with st := x } v ∧ Chg (fun b => b = s.L) w w'
theorem Sb.id {w : World} {s : SQ} {v : Value} (h : Sb w s v) {x : Int} (e : x = s.st) : Sb w { s with st := x } v := h.other rfl rfl rfl rfl rfl rfl e rfl rfl rfl
theorem stl_any {w : World} {s : SQ} {PA : Option Addr} {m pc : Nat} (h : Sb w s (.slice PA m pc)) : Calls Try.prog 32 #[.pointer (some ⟨s.L, 0, none⟩)] w (StP w s (.slice PA m pc) (stl s.st m)) := by
  have c1 := h.c1
  have c2 := h.c2
  have f1 := h.fz 1
  have lL := h.lL
  obtain ⟨L, hL⟩ : ∃ L, L = s.L := ⟨_, rfl⟩
  obtain ⟨st, hst⟩ : ∃ st, st = s.st := ⟨_, rfl⟩
  by_cases hm : 0 < m
  · have hm2 : (0 : Int) < (m : Int) := by omega
    have F : Hid (StP w s (.slice PA m pc) (stl s.st m) (.returned (.tuple #[])) w) := ⟨rfl, h.id (by unfold stl; rw [if_pos hm]), Chg.refl _ _⟩
    clear h hst hL
    go_enter Try.func32, Try.ntmps32
    go_wp2
    refine bodyPost_ret (results_none rfl _ _ _) rfl ?_
    exact F.out
  · obtain rfl : m = 0 := by omega
    by_cases h0 : s.st = 0
    · have F : Hid (StP w s (.slice PA 0 pc) (stl s.st 0) (.returned (.tuple #[])) (w.setCell ⟨s.L, 1, none⟩ (.int .i64 1))) := ⟨rfl, by rw [show stl s.st 0 = 1 by simp [stl, h0]]; exact h.set1 1, Chg.set ..⟩
      rw [h0] at c1
      have H0 := Lib.hid h0
      clear h hst hL h0
      go_enter Try.func32, Try.ntmps32
      go_wp2
      refine bodyPost_ret (results_none rfl _ _ _) rfl ?_
      exact F.out
    · by_cases h2 : s.st = 2
      · have F : Hid (StP w s (.slice PA 0 pc) (stl s.st 0) (.returned (.tuple #[])) (w.setCell ⟨s.L, 1, none⟩ (.int .i64 3))) := ⟨rfl, by rw [show stl s.st 0 = 3 by simp [stl, h2]]; exact h.set1 3, Chg.set ..⟩
        rw [h2] at c1
        have H2 := Lib.hid h2
        clear h hst hL h2 h0
        go_enter Try.func32, Try.ntmps32
        go_wp2
        refine bodyPost_ret (results_none rfl _ _ _) rfl ?_
        exact F.out
      · have F : Hid (StP w s (.slice PA 0 pc) (stl s.st 0) (.returned (.tuple #[])) w) := ⟨rfl, h.id (by simp [stl, h0, h2]), Chg.refl _ _⟩
        have e0 : (s.st == 0) = false := by simp [h0]
        have e2 : (s.st == 2) = false := by simp [h2]
        rw [← hst] at c1 e0 e2
        clear h hL h0 h2 hst
        go_enter Try.func32, Try.ntmps32
        go_wp2
        refine bodyPost_ret (results_none rfl _ _ _) rfl ?_
        exact F.out
/-- A sequence between two calls: its pending operations lie in a block that is not one of Z (old blocks), not its own and not its map. -/
structure Sq (Z : Nat → Prop) (w : World) (s : SQ) : Prop where
  ex : ∃ PA pc, Sb w s (.slice PA s.p.length pc) ∧ Fl w PA 2 s.p.length (oV s.p) ∧ s.p.length ≤ pc ∧ pc ≤ 9223372036854775807 ∧ ∀ a, PA = some a → (a.block ≠ s.L ∧ a.block ≠ s.M ∧ ¬ Z a.block) ∧ a.block < w.heap.size
  far : ∀ b, Z b → b < w.heap.size
theorem Sq.chg {Z T : Nat → Prop} {w w' : World} {s : SQ} (h : Sq Z w s) (hc : Chg T w w') (h1 : ¬ T s.L) (h2 : ¬ T s.M) (h3 : ∀ a, s.OA = some a → ¬ T a.block) (hn : ∀ b, b < w.heap.size → T b → Z b) : Sq Z w' s := by
  obtain ⟨PA, pc, e1, e2, e3, e4, e5⟩ := h.ex
  exact ⟨⟨PA, pc, e1.chg hc h1 h2 h3, e2.chg hc (fun a e _ ht => (e5 a e).1.2.2 (hn _ (e5 a e).2 ht)), e3, e4, fun a e => ⟨(e5 a e).1, Nat.lt_of_lt_of_le (e5 a e).2 hc.size⟩⟩, fun b hb => Nat.lt_of_lt_of_le (h.far b hb) hc.size⟩
theorem Sq.below {Z : Nat → Prop} {w w' : World} {s : SQ} (h : Sq Z w s) (hb : Below w.heap.size w w') : Sq Z w' s := h.chg (Chg.of_below hb (fun _ => False)) (fun x => x) (fun x => x) (fun _ _ x => x) (fun _ _ x => x.elim)
end Go.Proofs.Ytcmklipifhpgmaa
