/- slices.Reverse, of a row of its own. -/
import Derived.Test.YtcmklipifhpgmaaBas
namespace Go.Proofs.Ytcmklipifhpgmaa
open Go.ChangeShapes Go.WideShapes Go.ChangeAt Go.RowKit Go.Deep Go.Joins

theorem bel_drewN {B : Nat} {w a : World} (h : Below B w a) (n : Nat) : Below B w (a.drewN n) := ⟨h.os, h.tape, h.output, h.size, h.block⟩
theorem Lr.drewN {w wr : World} {Y n : Nat} {Z : Nat → Int} (h : Lr w wr Y n Z) (k : Nat) : Lr w (wr.drewN k) Y n Z := h.below (bel_drewN (Below.refl _ _) k)
theorem Lr.fl {w wr : World} {Y n : Nat} {Z : Nat → Int} (h : Lr w wr Y n Z) (hn : n ≤ 1000) : Fl wr (some ⟨Y, 0, none⟩) 1 n (eV Z) :=
  ⟨by omega, .inr ⟨Y, 0, rfl, h.lY, fun j hj => by rw [Nat.zero_add]; exact h.at_ j (by omega)⟩⟩
def RvP (wb : World) (Y n : Nat) (T : Nat → Int) (e : Ending) (w' : World) : Prop := e = .returned (.tuple #[]) ∧ Lr wb w' Y n (fun i => T (n - 1 - i))
def NoP (w : World) (e : Ending) (w' : World) : Prop := e = .returned (.tuple #[]) ∧ w' = w
theorem rev_none (c : Nat) (w : World) : Calls Try.prog 38 #[.slice none 0 c] w (NoP w) := by
  have F : Hid (NoP w (.returned (.tuple #[])) w) := ⟨rfl, rfl⟩
  go_enter Try.func38, Try.ntmps38
  go_wp2_with fail
  go_loopw [2, 3] (fun v2 v3 wr => v2 = .int .i64 0 ∧ v3 = .int .i64 (-1) ∧ wr = w) (fun _ _ _ => 0)
  case atStart => exact ⟨rfl, rfl, rfl⟩
  case round =>
    obtain ⟨rfl, rfl, rfl⟩ := hrel
    go_wp2
    refine bodyPost_ret (results_none rfl _ _ _) rfl ?_
    exact F.out
set_option maxRecDepth 20000 in
set_option maxHeartbeats 4000000 in
theorem rev_any {wb w : World} {Y n : Nat} {T : Nat → Int} (h : Lr wb w Y n T) (c : Nat) (hn : n ≤ 1000) : Calls Try.prog 38 #[.slice (some ⟨Y, 0, none⟩) n c] w (RvP wb Y n T) := by
  have L0 := Lib.hid h
  clear h
  go_enter Try.func38, Try.ntmps38
  go_wp2_with fail
  go_loopw [2, 3] (fun v2 v3 wr => ∃ i jj : Nat, v2 = .int .i64 i ∧ v3 = .int .i64 ((jj : Int) - 1) ∧ i + jj = n ∧ i ≤ jj + 1 ∧ Lr wb wr Y n (fun x => if x < i ∨ n ≤ x + i then T (n - 1 - x) else T x)) (fun v2 _ _ => n - (intOf v2).toNat)
  case atStart => exact ⟨0, n, rfl, rfl, by omega, by omega, L0.out.congr (fun x hx => by rw [if_neg (by omega)])⟩
  case round =>
    clear L0
    obtain ⟨i, jj, rfl, rfl, hij, hle, hL⟩ := hrel
    by_cases hlt : i + 1 < jj
    · obtain ⟨j, hj⟩ : ∃ j, jj = j + 1 := ⟨jj - 1, by omega⟩
      subst hj
      rw [show (((j + 1 : Nat) : Int) - 1) = (j : Int) by omega]
      have q1 : (i : Int) < (j : Int) := by omega
      have hin : i < n := by omega
      have hjn : j < n := by omega
      have yi := hL.at_ i hin
      have yj := hL.at_ j hjn
      rw [if_neg (by omega)] at yi yj
      have fi := hL.frz i
      have fj := hL.frz j
      have lY := hL.lY
      have NX : Hid (Lr wb (((wr.setCell ⟨Y, i, none⟩ (.int .i64 (T j))).setCell ⟨Y, j, none⟩ (.int .i64 (T i))).drew) Y n (fun x => if x < i + 1 ∨ n ≤ x + (i + 1) then T (n - 1 - x) else T x)) :=
        (((hL.set i hin (T j)).set j hjn (T i)).congr (fun x hx => by
          by_cases e : x = j
          · subst e; rw [if_pos (by omega), if_pos rfl]; congr 1; omega
          · rw [if_neg e]
            by_cases e2 : x = i
            · subst e2; rw [if_pos (by omega), if_pos rfl]; congr 1; omega
            · rw [if_neg e2]
              by_cases e3 : x < i ∨ n ≤ x + i
              · rw [if_pos (by omega), if_pos e3]
              · rw [if_neg (by omega), if_neg e3])).below (Below.refl _ _).drew
      have HIJ := Lib.hid hij
      clear hL hij
      generalize T j = tj at *
      generalize T i = ti at *
      go_upto_region 3 with fail
      go_region
      go_wp2
      go_roundw
      case rel => exact ⟨i + 1, j, by go_num, by first | rfl | (congr 1; omega), by have := HIJ.out; omega, by omega, NX.out⟩
      case measure => have := HIJ.out; simp [intOf]; omega
    · have q1 : ¬ (i : Int) < (jj : Int) - 1 := by omega
      have F : Hid (RvP wb Y n T (.returned (.tuple #[])) wr) := ⟨rfl, hL.congr (fun x hx => by
        by_cases e3 : x < i ∨ n ≤ x + i
        · rw [if_pos e3]
        · rw [if_neg e3]; congr 1; omega)⟩
      clear hL hij hle
      go_wp2
      refine bodyPost_ret (results_none rfl _ _ _) rfl ?_
      exact F.out
end Go.Proofs.Ytcmklipifhpgmaa
