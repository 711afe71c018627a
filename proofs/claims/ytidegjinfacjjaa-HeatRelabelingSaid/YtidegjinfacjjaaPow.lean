/- Mod and Powers. -/
import Derived.Test.YtidegjinfacjjaaNew
namespace Go.Proofs.Ytidegjinfacjjaa
open Go.ChangeShapes Go.WideShapes Go.ChangeAt Go.RowKit Go.Deep Go.Joins

theorem mod_any (v : Int) (n : Nat) (hn : 1 ≤ n) (hn2 : n ≤ 1000000) (w : World) : Calls Try.prog 13 #[.int .i64 v, .int .i64 n] w (PuP w (.int .i64 (modOf v n : Nat))) := by
  have H := Lib.hid (modOf_spec v n hn hn2).1
  have hnz : ((n : Int) == 0) = false := beq_eq_false_iff_ne.2 (by omega)
  have hw : IntKind.u64.wrap (n : Int) = n := by rw [IntKind.wrap_u64]; omega
  go_enter Try.func13, Try.ntmps13
  go_wp2
  go_ret
  refine ⟨?_, rfl⟩
  rw [← H.out]
  rfl
/-- A raw power, brought into 0 to most. -/
def pw (r : Int) (most : Nat) : Nat := ((IntKind.u64.wrap r).tmod ((most : Int) + 1)).toNat
theorem pw_spec (r : Int) (most : Nat) (h : most ≤ 100000) : wrap64 ((IntKind.u64.wrap r).tmod ((most : Int) + 1)) = (pw r most : Nat) ∧ pw r most ≤ most := by
  have h0 : 0 ≤ IntKind.u64.wrap r := by rw [IntKind.wrap_u64]; omega
  have h1 := Int.tmod_nonneg ((most : Int) + 1) h0
  have h2 := Int.tmod_lt_of_pos (IntKind.u64.wrap r) (show 0 < (most : Int) + 1 by omega)
  unfold pw
  refine ⟨?_, by omega⟩
  rw [IntWalk.wrap64_in _ (by omega)]
  omega
def powZ (l : Nat) (R : Nat → Int) (most : Nat) (i : Nat) : Int := if i < l then (pw (R i) most : Nat) else 0
theorem powZ_b (l : Nat) (R : Nat → Int) (most : Nat) (h : most ≤ 100000) (i : Nat) : 0 ≤ powZ l R most i ∧ powZ l R most i ≤ most := by
  unfold powZ
  have := (pw_spec (R i) most h).2
  split <;> omega
def PwP (w : World) (n : Nat) (Z : Nat → Int) (e : Ending) (w' : World) : Prop := ∃ Y, e = .returned (.slice (some ⟨Y, 0, none⟩) n n) ∧ Fl w' (some ⟨Y, 0, none⟩) 1 n (eV Z) ∧ w.heap.size ≤ Y ∧ Y < w'.heap.size ∧ (∀ j, w'.frozen? ⟨Y, j, none⟩ = false) ∧ Below w.heap.size w w'
theorem lr_made (w : World) (n t : Nat) : Lr w (w.alloc (.cells (madeCells #[.int .i64 0] n) t)) w.heap.size n (fun _ => 0) := by
  have R := World.rowIs_made w (.int .i64 0) n t
  exact ⟨bal (Below.refl _ _) _, by simp, Nat.le_refl _, fun j hj => R.cell hj, fun j => R.frozen j⟩
theorem lr_pw {w wr : World} {Y n : Nat} {Z : Nat → Int} (h : Lr w wr Y n Z) (hn : n ≤ 1000) : PwP w n Z (.returned (.slice (some ⟨Y, 0, none⟩) n n)) wr :=
  ⟨Y, rfl, ⟨by omega, .inr ⟨Y, 0, rfl, h.lY, fun j hj => by rw [Nat.zero_add]; exact h.at_ j (by omega)⟩⟩, h.Y0, h.lY, h.frz, h.bel⟩
set_option maxRecDepth 20000 in
set_option maxHeartbeats 4000000 in
theorem pow_any (A : Option Addr) (l c : Nat) (R : Nat → Int) (n most : Nat) (w : World) (h : Fl w A 1 l (eV R)) (hn : n ≤ 1000) (hm : most ≤ 100000) : Calls Try.prog 16 #[.slice A l c, .int .i64 n, .int .i64 most] w (PwP w n (powZ l R most)) := by
  have H := Lib.hid h
  have hl := h.len
  have hmk := run_make_row' (P := Try.prog) 24 2 _ 8 Try.underlying24 info2 rfl .i64 .i64 n (by omega) (by omega)
  have L0 := Lib.hid (lr_made w n 2)
  have M1 : IntKind.u64.wrap ((most : Int) + 1) = (most : Int) + 1 := by rw [IntKind.wrap_u64]; omega
  have M0 : wrap64 ((most : Int) + 1) = (most : Int) + 1 := IntWalk.wrap64_in _ (by omega)
  have M2 : ((most : Int) + 1 == 0) = false := beq_eq_false_iff_ne.2 (by omega)
  have HM := Lib.hid hm
  clear h
  go_enter Try.func16, Try.ntmps16
  go_wp2
  clear hmk
  generalize w.alloc (.cells (madeCells #[.int .i64 0] n) 2) = w0 at *
  generalize hY : w.heap.size = Y at *
  have HY := Lib.hid hY
  clear hY
  go_loopw [8] (fun vi wr => ∃ i : Nat, vi = .int .i64 i ∧ i ≤ n ∧ i ≤ l ∧ Lr w wr Y n (fun j => if j < i then powZ l R most j else 0)) (fun vi _ => n - (intOf vi).toNat)
  case atStart => exact ⟨0, rfl, Nat.zero_le _, Nat.zero_le _, L0.out.congr (fun j _ => if_neg (by omega))⟩
  case round =>
    clear L0
    obtain ⟨i, rfl, hi, hi2, hL⟩ := hrel
    have L := Lib.hid hL
    by_cases hlt : i < n
    · by_cases hl2 : i < l
      · obtain ⟨b, off, rfl, hb, c0⟩ := (H.out.below hL.bel (Nat.le_refl _)).eat hl2
        have y0 := hL.at_ i hlt
        have fy := hL.frz i
        have lY := hL.lY
        have PW := Lib.hid (pw_spec (R i) most hm).1
        have NX : Hid (Lr w (wr.setCell ⟨Y, i, none⟩ (.int .i64 (pw (R i) most : Nat))) Y n (fun j => if j < i + 1 then powZ l R most j else 0)) := (hL.set i hlt _).congr (fun j hj => by
          by_cases e : j = i
          · subst e; rw [if_pos (by omega), if_pos rfl]; unfold powZ; rw [if_pos hl2]
          · rw [if_neg e]
            by_cases e2 : j < i
            · rw [if_pos (by omega), if_pos e2]
            · rw [if_neg (by omega), if_neg e2])
        clear hL L
        generalize pw (R i) most = p at *
        generalize R i = r at *
        have PWo := PW.out
        go_wp2
        go_roundw
        case rel => exact ⟨i + 1, by go_num, by omega, by omega, NX.out⟩
        case measure => simp [intOf]; omega
      · have hil : i = l := by omega
        have F := Lib.hid (lr_pw (hL.congr (U := powZ l R most) (fun j _ => by
          by_cases e : j < i
          · rw [if_pos e]
          · rw [if_neg e]; unfold powZ; rw [if_neg (by omega)])) hn)
        have q : ¬ (i : Int) < (l : Int) := by omega
        clear hL L hil
        go_wp2
        go_ret
        exact F.out
    · have F := Lib.hid (lr_pw (hL.congr (U := powZ l R most) (fun j hj => by rw [if_pos (by omega)])) hn)
      have q : ¬ (i : Int) < (n : Int) := by omega
      clear hL L
      go_wp2
      go_ret
      exact F.out
end Go.Proofs.Ytidegjinfacjjaa
