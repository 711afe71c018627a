/- NewZone and the reference's. -/
import Derived.Test.YtbblachhijpgeaaZon
namespace Go.Proofs.Ytbblachhijpgeaa
open Go.RowKit

theorem cod_ok {b : Bool} (h : b = true) : cod b = 0 := by rw [h]; rfl
theorem cod_no {b : Bool} (h : b = false) : cod b = 1 := by rw [h]; rfl
theorem okZ_no1 {n : Nat} {f : Nat → St} {lv : Int} (h : vT n f = false) : okZ n f lv = false := by unfold okZ; rw [h]; rfl
theorem okZ_no2 {n : Nat} {f : Nat → St} {lv : Int} (h : ¬ (0 ≤ lv ∧ lv ≤ 64)) : okZ n f lv = false := by unfold okZ; rw [decide_eq_false h, Bool.and_false]
theorem okZ_ok {n : Nat} {f : Nat → St} {lv : Int} (h1 : vT n f = true) (h : 0 ≤ lv ∧ lv ≤ 64) : okZ n f lv = true := by unfold okZ; rw [decide_eq_true h, h1]; rfl
theorem sls_blk {K : IntKind} {w : World} {a : Addr} {n : Nat} {f : Nat → St} (h : SlS K w (some a) n f) (hn : 1 ≤ n) : a.block < w.heap.size := by
  rcases h.row with h0 | ⟨b, off, hA, hlt, _⟩
  · omega
  · injection hA with hA
    subst hA
    exact hlt
theorem nz_fin1 {w w1 w9 : World} {A9 : Option Addr} {c9 n : Nat} {f : Nat → St} {lv : Int} (hB : Below w.heap.size w w1) (hok : okZ n f lv = true) (hS : SlS .i64 w9 A9 n f) (hA : ∀ a, A9 = some a → w1.drew.heap.size ≤ a.block) (hb : Below w1.drew.heap.size w1.drew w9) :
    NzP 93 w n f lv (.returned (.tuple #[.pointer (some ⟨w9.heap.size + 1, 0, none⟩), .int .i64 0])) ((w9.alloc (.cells (madeCells #[.bool false] n) 4)).alloc (.cells #[.slice A9 n c9, .slice (some ⟨w9.heap.size, 0, none⟩) n n, .int .i64 lv, .int .i64 0] 93)) := by
  have hz : (w9.alloc (.cells (madeCells #[.bool false] n) 4)).heap.size = w9.heap.size + 1 := by simp
  have b1 : Below w.heap.size w w9 := bel2 hB ((Below.refl _ w1).drew.trans hb)
  have s1 : w.heap.size ≤ w1.heap.size := hB.size
  have s9 : w1.heap.size ≤ w9.heap.size := hb.size
  have M := zn_make (t := 93) (w := w9.alloc (.cells (madeCells #[.bool false] n) 4)) (O := w9.heap.size) (tc := c9) (lv := lv) (hS.below (bal (Below.refl _ _) _) (Nat.le_refl _)) (fun a e hn => by
    subst e
    have := sls_blk hS hn
    omega) (World.rowIs_made w9 (.bool false) n 4)
  rw [hz] at M
  exact ⟨bal (bal b1 _) _, .inr ⟨hok, _, _, _, _, rfl, M, by omega, by omega, fun a e _ => by have := hA a e; have : w1.heap.size ≤ a.block := this; omega⟩⟩
theorem nz_fin2 {w w1 w9 : World} {A9 : Option Addr} {c9 n : Nat} {f : Nat → St} {lv : Int} (hB : Below w.heap.size w w1) (hok : okZ n f lv = true) (hS : SlS .i64 w9 A9 n f) (hA : ∀ a, A9 = some a → (w1.drew.alloc (.cells (madeCells #[.bool false] n) 4)).heap.size ≤ a.block) (hb : Below (w1.drew.alloc (.cells (madeCells #[.bool false] n) 4)).heap.size (w1.drew.alloc (.cells (madeCells #[.bool false] n) 4)) w9) :
    NzP 93 w n f lv (.returned (.tuple #[.pointer (some ⟨w9.heap.size, 0, none⟩), .int .i64 0])) (w9.alloc (.cells #[.slice A9 n c9, .slice (some ⟨w1.heap.size, 0, none⟩) n n, .int .i64 lv, .int .i64 0] 93)) := by
  have hz : (w1.drew.alloc (.cells (madeCells #[.bool false] n) 4)).heap.size = w1.heap.size + 1 := by simp
  have b1 : Below w.heap.size w w9 := bel2 hB ((bal (Below.refl _ w1).drew _).trans (hb.mono (by rw [hz]; omega)))
  have s1 : w.heap.size ≤ w1.heap.size := hB.size
  have s9 := hb.size
  rw [hz] at s9
  have R0 : (w1.drew.alloc (.cells (madeCells #[.bool false] n) 4)).rowIs w1.heap.size 4 n (fun _ => .bool false) := World.rowIs_made w1.drew (.bool false) n 4
  have M := zn_make (t := 93) (w := w9) (O := w1.heap.size) (tc := c9) (lv := lv) hS (fun a e hn => by
    subst e
    have := sls_blk hS hn
    have := hA a rfl
    rw [hz] at this
    omega) (R0.of_block (hb.block _ (by rw [hz]; omega)))
  exact ⟨bal b1 _, .inr ⟨hok, _, _, _, _, rfl, M, by omega, by omega, fun a e _ => by have := hA a e; rw [hz] at this; omega⟩⟩
set_option maxRecDepth 100000 in
set_option maxHeartbeats 4000000 in
theorem nz_any (A : Option Addr) (n c : Nat) (f : Nat → St) (lv : Int) (w : World) (h : SlS .i64 w A n f) (hA : A = none → n = 0 ∧ c = 0) : Calls Try.prog 15 #[.slice A n c, .int .i64 lv] w (NzP 93 w n f lv) := by
  have P := chk_any A n c f w h
  have HS := Lib.hid h
  have HA := Lib.hid hA
  clear h hA
  go_enter Try.func15, Try.ntmps15
  go_wp2_with fail
  refine P.mono ?_
  clear P
  rintro e w1 ⟨rfl, hb⟩
  by_cases hv : vT n f = true
  case neg =>
    have hv : vT n f = false := by simpa using hv
    rw [cod_no hv]
    have F : Hid (NzP 93 w n f lv (.returned (.tuple #[.pointer none, .int .i64 1])) w1) := ⟨hb, .inl ⟨okZ_no1 hv, rfl⟩⟩
    clear hb
    go_wp2
    go_ret2
    exact F.out
  case pos =>
  rw [cod_ok hv]
  by_cases h1 : lv < 0
  · have F : Hid (NzP 93 w n f lv (.returned (.tuple #[.pointer none, .int .i64 1])) w1) := ⟨hb, .inl ⟨okZ_no2 (by omega), rfl⟩⟩
    clear hb
    go_wp2
    go_ret2
    exact F.out
  by_cases h2 : 64 < lv
  · have F : Hid (NzP 93 w n f lv (.returned (.tuple #[.pointer none, .int .i64 1])) w1) := ⟨hb, .inl ⟨okZ_no2 (by omega), rfl⟩⟩
    clear hb
    go_wp2
    go_ret2
    exact F.out
  have hn := vT_len hv
  have OKZ : Hid (okZ n f lv = true) := okZ_ok hv (by omega)
  have hmk := run_make_row' (P := Try.prog) 91 4 _ 1 Try.underlying91 info4 rfl .i64 .i64 n (by omega) (by omega)
  have CL : Hid (∀ W : World, Below w1.heap.size w1 W → Calls Try.prog 31 #[.slice A n c] W (CloP W n f)) := fun W hW => clo38 A n c f W (HS.out.below (bel2 hb hW) (Nat.le_refl _)) HA.out (by omega)
  have HB := Lib.hid hb
  clear hb
  go_upto_region 6 with fail
  have hb0 : Below w1.heap.size w1 w1.drew := (Below.refl _ w1).drew
  go_region_held3 (fun w' => Below w1.heap.size w1 w')
    (first | assumption | (refine bel2 ?_ hb9; assumption) | (refine bal ?_ _; assumption) | (refine bal ?_ _; refine bal ?_ _; assumption) | (refine bal ?_ _; refine bel2 ?_ hb9; assumption) | exact bel2 hb0 hb9 | exact bel2 (bal hb0 _) hb9 | exact bal hb0 _ | exact bal (bel2 hb0 hb9) _ | exact bal (bal (bel2 hb0 hb9) _) _ | exact bal (bel2 (bal hb0 _) hb9) _ | go_keep)
    ((go_at_call 31; refine (CL.out _ (by assumption)).mono ?_; rintro e w9 ⟨A9, c9, rfl, hS9, hA9, hN9, hb9⟩))
  · have F := Lib.hid (nz_fin1 (c9 := c9) (lv := lv) HB.out OKZ.out hS9 hA9 hb9)
    clear hS9 hA9 hN9 hb9 hb0
    go_wp2
    go_ret2
    exact F.out
  · have F := Lib.hid (nz_fin2 (c9 := c9) (lv := lv) HB.out OKZ.out hS9 hA9 hb9)
    clear hS9 hA9 hN9 hb9 hb0
    go_wp2
    go_ret2
    exact F.out
end Go.Proofs.Ytbblachhijpgeaa
