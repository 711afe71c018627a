/- The reference's governor: Limit, Current, Sample. -/
import Derived.Test.YtfmaadfccnjnjaaGsm
namespace Go.Proofs.Ytfmaadfccnjnjaa
open Go.RowKit

theorem rg_up {w : World} {L T n c : Nat} {s : GV} (h : w.rowIs L 67 8 (gcell T n c s)) : w.cell? ⟨L, 1, none⟩ = some (.int .i64 (s.up : Nat)) := h.cell (show 1 < 8 by omega)
theorem rg_dn {w : World} {L T n c : Nat} {s : GV} (h : w.rowIs L 67 8 (gcell T n c s)) : w.cell? ⟨L, 2, none⟩ = some (.int .i64 (s.dn : Nat)) := h.cell (show 2 < 8 by omega)
theorem rg_sp {w : World} {L T n c : Nat} {s : GV} (h : w.rowIs L 67 8 (gcell T n c s)) : w.cell? ⟨L, 3, none⟩ = some (.int .i64 (s.sp : Nat)) := h.cell (show 3 < 8 by omega)
theorem rg_lo {w : World} {L T n c : Nat} {s : GV} (h : w.rowIs L 67 8 (gcell T n c s)) : w.cell? ⟨L, 4, none⟩ = some (.int .i64 (s.lo : Nat)) := h.cell (show 4 < 8 by omega)
theorem rg_hi {w : World} {L T n c : Nat} {s : GV} (h : w.rowIs L 67 8 (gcell T n c s)) : w.cell? ⟨L, 5, none⟩ = some (.int .i64 (s.hi : Nat)) := h.cell (show 5 < 8 by omega)
theorem rg_cu {w : World} {L T n c : Nat} {s : GV} (h : w.rowIs L 67 8 (gcell T n c s)) : w.cell? ⟨L, 6, none⟩ = some (.int .i64 (s.cu : Nat)) := h.cell (show 6 < 8 by omega)
theorem rg_lz {w : World} {L T n c : Nat} {s : GV} (h : w.rowIs L 67 8 (gcell T n c s)) : w.cell? ⟨L, 7, none⟩ = some (.int .i64 (s.lz : Nat)) := h.cell (show 7 < 8 by omega)
theorem rg_tb {w : World} {L T n c : Nat} {s : GV} (h : w.rowIs L 67 8 (gcell T n c s)) : w.cell? ⟨L, 0, none⟩ = some (.slice (some ⟨T, 0, none⟩) n c) := h.cell (show 0 < 8 by omega)
theorem rcur_any (L T n c : Nat) (s : GV) (w : World) (hR : w.rowIs L 67 8 (gcell T n c s)) : Calls Try.prog 32 #[.pointer (some ⟨L, 0, none⟩)] w fun e w' => e = .returned (.int .i64 (s.cu : Nat)) ∧ w = w' := by
  have c6 := rg_cu hR
  go_enter Try.func32, Try.ntmps32
  go_wp2
  go_ret
  exact ⟨rfl, rfl⟩
theorem rlim_bad (L T n c : Nat) (s : GV) (a b : Int) (w : World) (hR : w.rowIs L 67 8 (gcell T n c s)) (_hn : n ≤ 9223372036854775807) (h : a < 0 ∨ b < a ∨ (n : Int) ≤ b) :
    Calls Try.prog 28 #[.pointer (some ⟨L, 0, none⟩), .int .i64 a, .int .i64 b] w (GPost 67 L T n c s (.int .i64 1) w) := by
  have c0 := rg_tb hR
  have HR := Lib.hid hR
  clear hR
  by_cases h1 : a < 0
  · clear h
    go_enter Try.func28, Try.ntmps28
    go_wp2
    go_ret
    exact ⟨rfl, HR.out, World.grownBy.refl _ _⟩
  by_cases h2 : b < a
  · clear h
    go_enter Try.func28, Try.ntmps28
    go_wp2
    go_ret
    exact ⟨rfl, HR.out, World.grownBy.refl _ _⟩
  · have h3 : (n : Int) ≤ b := by omega
    clear h
    go_enter Try.func28, Try.ntmps28
    go_wp2
    go_ret
    exact ⟨rfl, HR.out, World.grownBy.refl _ _⟩
set_option maxRecDepth 100000 in
set_option maxHeartbeats 2000000 in
theorem rlim_good (L T n c : Nat) (s : GV) (a b : Nat) (w : World) (hR : w.rowIs L 67 8 (gcell T n c s)) (_hn : n ≤ 9223372036854775807) (h : a ≤ b ∧ b < n) :
    Calls Try.prog 28 #[.pointer (some ⟨L, 0, none⟩), .int .i64 (a : Nat), .int .i64 (b : Nat)] w (GPost 67 L T n c (limS s a b) (.int .i64 0) w) := by
  have c0 := rg_tb hR
  have c4 := rg_lo hR
  have c5 := rg_hi hR
  have c6 := rg_cu hR
  have c7 := rg_lz hR
  have z4 := hR.frozen 4
  have z5 := hR.frozen 5
  have z6 := hR.frozen 6
  have z7 := hR.frozen 7
  obtain ⟨h1, h2⟩ := h
  have hLw := hR.lt
  have R4 := Lib.hid (row_cu (min (max s.cu a) b) (row_lz 0 (row_hi b (row_lo a hR))))
  have G4 := Lib.hid (g_then (g_then (g_then (g_store w L 4 (.int .i64 (a : Nat))) (g_store _ L 5 (.int .i64 (b : Nat)))) (g_store _ L 7 (.int .i64 (0 : Nat)))) (g_store _ L 6 (.int .i64 (min (max s.cu a) b : Nat))))
  have E := Lib.hid (show limS s a b = { s with lo := a, hi := b, cu := min (max s.cu a) b, lz := 0 } from rfl)
  generalize hM : min (max s.cu a) b = M at *
  have HM := Lib.hid hM
  clear hM hR
  generalize s.cu = cu at *
  generalize s.lo = lo0 at *
  generalize s.hi = hi0 at *
  generalize s.lz = lz0 at *
  rcases Nat.lt_or_ge cu a with k1 | k1
  · have HMa : M = a := by rw [← HM.out]; omega
    subst HMa
    go_enter Try.func28, Try.ntmps28
    go_wp2
    go_ret
    exact ⟨rfl, by rw [E.out]; exact R4.out, G4.out⟩
  · rcases Nat.lt_or_ge b cu with k2 | k2
    · have HMa : M = b := by rw [← HM.out]; omega
      subst HMa
      go_enter Try.func28, Try.ntmps28
      go_wp2
      go_ret
      exact ⟨rfl, by rw [E.out]; exact R4.out, G4.out⟩
    · have HMa : M = cu := by rw [← HM.out]; omega
      subst HMa
      go_enter Try.func28, Try.ntmps28
      go_wp2
      go_ret
      exact ⟨rfl, by rw [E.out]; exact R4.out, G4.out⟩
theorem rsmp_bad (L T n c : Nat) (s : GV) (a : Int) (w : World) (hR : w.rowIs L 67 8 (gcell T n c s)) (h : a < 0 ∨ 100 < a) :
    Calls Try.prog 30 #[.pointer (some ⟨L, 0, none⟩), .int .i64 a] w (GPost 67 L T n c s (.tuple #[.int .i64 0, .int .i64 1]) w) := by
  have HR := Lib.hid hR
  clear hR
  by_cases h1 : a < 0
  · clear h
    go_enter Try.func30, Try.ntmps30
    go_wp2
    go_ret2
    exact ⟨rfl, HR.out, World.grownBy.refl _ _⟩
  · have h3 : 100 < a := by omega
    clear h
    go_enter Try.func30, Try.ntmps30
    go_wp2
    go_ret2
    exact ⟨rfl, HR.out, World.grownBy.refl _ _⟩

/-- What the reference's search finds. -/
theorem suf_stop {n : Nat} {f : Nat → St} {up : Nat} {W : Int} {lo cu q : Nat} (hm : ∀ i j, i ≤ j → j < n → (f i).l ≤ (f j).l) (hcu : cu < n) (hlo : lo ≤ q) (hq : q ≤ cu) (h1 : 1 ≤ q) (hbad : up * (f (q - 1)).l < W) (hgood : ∀ j, q ≤ j → j ≤ cu → W ≤ up * (f j).l) : suf f up W lo cu = q := by
  have hb : ∀ j, lo ≤ j → j < q → ¬ W ≤ up * (f j).l := fun j _ hj h => by
    have := hm j (q - 1) (by omega) (by omega)
    have h2 : (up : Int) * (f j).l ≤ (up : Int) * (f (q - 1)).l := Int.mul_le_mul_of_nonneg_left this (by omega)
    omega
  rcases Nat.lt_or_ge q cu with h | h
  · exact suf_hit h hlo (hgood q (Nat.le_refl _) hq) hb
  · have : q = cu := by omega
    subst this
    exact suf_no hb
theorem suf_all {f : Nat → St} {up : Nat} {W : Int} {lo cu : Nat} (hlc : lo ≤ cu) (hgood : ∀ j, lo ≤ j → j ≤ cu → W ≤ up * (f j).l) : suf f up W lo cu = lo := by
  rcases Nat.lt_or_ge lo cu with h | h
  · exact suf_hit h (Nat.le_refl _) (hgood lo (Nat.le_refl _) hlc) (fun j h1 h2 => by omega)
  · have : lo = cu := by omega
    subst this
    exact suf_no (fun j h1 h2 => by omega)
end Go.Proofs.Ytfmaadfccnjnjaa
