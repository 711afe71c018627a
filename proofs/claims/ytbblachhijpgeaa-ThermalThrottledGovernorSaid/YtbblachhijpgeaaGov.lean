/- The governor of perf: its state, and the lowest point that suffices. -/
import Derived.Test.YtbblachhijpgeaaThl
namespace Go.Proofs.Ytbblachhijpgeaa
open Go.RowKit

theorem SlS.cells {K : IntKind} {w : World} {G n : Nat} {f : Nat → St} (h : SlS K w (some ⟨G, 0, none⟩) n f) {i : Nat} (hi : i < n) :
    w.cell? ⟨G, i * 3, none⟩ = some (.int K (f i).a) ∧ w.cell? ⟨G, i * 3 + 1, none⟩ = some (.int K (f i).b) ∧ w.cell? ⟨G, i * 3 + 2, none⟩ = some (.int K (f i).c) := by
  rcases h.row with h0 | ⟨b, off, hA, _, hc⟩
  · omega
  · injection hA with hA
    injection hA with h1 h2
    subst h1 h2
    have := hc i hi
    simpa using this
theorem SlS.lt {K : IntKind} {w : World} {G n : Nat} {f : Nat → St} (h : SlS K w (some ⟨G, 0, none⟩) n f) (hn : 1 ≤ n) : G < w.heap.size := by
  rcases h.row with h0 | ⟨b, off, hA, hb, _⟩
  · omega
  · injection hA with hA
    injection hA with h1 h2
    subst h1; exact hb
/-- What a governor holds beside its table. -/
structure GV where
  up : Nat
  dn : Nat
  sp : Nat
  lo : Nat
  hi : Nat
  cu : Nat
  lz : Nat
def gcell (T n c : Nat) (s : GV) (j : Nat) : Value :=
  if j = 0 then .slice (some ⟨T, 0, none⟩) n c else .int .i64 ((if j = 1 then s.up else if j = 2 then s.dn else if j = 3 then s.sp else if j = 4 then s.lo else if j = 5 then s.hi else if j = 6 then s.cu else s.lz : Nat) : Int)
structure GOk (n : Nat) (s : GV) : Prop where
  up : 1 ≤ s.up ∧ s.up ≤ 100
  dn : s.dn < s.up
  sp : 1 ≤ s.sp ∧ s.sp ≤ 1000
  lz : s.lz < s.sp
  lh : s.lo ≤ s.cu ∧ s.cu ≤ s.hi ∧ s.hi < n
theorem g_up {w : World} {L T n c : Nat} {s : GV} (h : w.rowIs L 102 8 (gcell T n c s)) : w.cell? ⟨L, 1, none⟩ = some (.int .i64 (s.up : Nat)) := h.cell (show 1 < 8 by omega)
theorem g_dn {w : World} {L T n c : Nat} {s : GV} (h : w.rowIs L 102 8 (gcell T n c s)) : w.cell? ⟨L, 2, none⟩ = some (.int .i64 (s.dn : Nat)) := h.cell (show 2 < 8 by omega)
theorem g_sp {w : World} {L T n c : Nat} {s : GV} (h : w.rowIs L 102 8 (gcell T n c s)) : w.cell? ⟨L, 3, none⟩ = some (.int .i64 (s.sp : Nat)) := h.cell (show 3 < 8 by omega)
theorem g_lo {w : World} {L T n c : Nat} {s : GV} (h : w.rowIs L 102 8 (gcell T n c s)) : w.cell? ⟨L, 4, none⟩ = some (.int .i64 (s.lo : Nat)) := h.cell (show 4 < 8 by omega)
theorem g_hi {w : World} {L T n c : Nat} {s : GV} (h : w.rowIs L 102 8 (gcell T n c s)) : w.cell? ⟨L, 5, none⟩ = some (.int .i64 (s.hi : Nat)) := h.cell (show 5 < 8 by omega)
theorem g_cu {w : World} {L T n c : Nat} {s : GV} (h : w.rowIs L 102 8 (gcell T n c s)) : w.cell? ⟨L, 6, none⟩ = some (.int .i64 (s.cu : Nat)) := h.cell (show 6 < 8 by omega)
theorem g_lz {w : World} {L T n c : Nat} {s : GV} (h : w.rowIs L 102 8 (gcell T n c s)) : w.cell? ⟨L, 7, none⟩ = some (.int .i64 (s.lz : Nat)) := h.cell (show 7 < 8 by omega)
theorem g_tb {w : World} {L T n c : Nat} {s : GV} (h : w.rowIs L 102 8 (gcell T n c s)) : w.cell? ⟨L, 0, none⟩ = some (.slice (some ⟨T, 0, none⟩) n c) := h.cell (show 0 < 8 by omega)
/-- The lowest point from lo on that suffices for the work, or cu. -/
def suf (f : Nat → St) (up : Nat) (work : Int) (lo cu : Nat) : Nat := ((List.range cu).find? (fun p => decide (lo ≤ p) && decide (work ≤ up * (f p).a))).getD cu
theorem suf_hit {f : Nat → St} {up : Nat} {work : Int} {lo cu p : Nat} (hp : p < cu) (hl : lo ≤ p) (h : work ≤ up * (f p).a) (hb : ∀ j, lo ≤ j → j < p → ¬ work ≤ up * (f j).a) : suf f up work lo cu = p := by
  have : (List.range cu).find? (fun p => decide (lo ≤ p) && decide (work ≤ up * (f p).a)) = some p := by
    rw [List.find?_range_eq_some]
    refine ⟨by simp [hl, h], by simpa using hp, fun j hj => ?_⟩
    rcases Nat.lt_or_ge j lo with h1 | h1
    · have : ¬ lo ≤ j := by omega
      simp [this]
    · have := hb j h1 hj
      simp [this]
  unfold suf
  rw [this]; rfl
theorem suf_no {f : Nat → St} {up : Nat} {work : Int} {lo cu : Nat} (hb : ∀ j, lo ≤ j → j < cu → ¬ work ≤ up * (f j).a) : suf f up work lo cu = cu := by
  have : (List.range cu).find? (fun p => decide (lo ≤ p) && decide (work ≤ up * (f p).a)) = none := by
    rw [List.find?_range_eq_none]
    intro j hj
    rcases Nat.lt_or_ge j lo with h1 | h1
    · have : ¬ lo ≤ j := by omega
      simp [this]
    · have := hb j h1 hj
      simp [this]
  unfold suf
  rw [this]; rfl
set_option maxRecDepth 100000 in
set_option maxHeartbeats 4000000 in
theorem suf_any (L T n c : Nat) (s : GV) (f : Nat → St) (x : Nat) (w : World) (hR : w.rowIs L 102 8 (gcell T n c s)) (hS : SlS .u64 w (some ⟨T, 0, none⟩) n f) (hk : GOk n s) (hx : x ≤ 100)
    (hv : ∀ i, i < n → (f i).a ≤ 1099511627776) :
    Calls Try.prog 39 #[.pointer (some ⟨L, 0, none⟩), .int .i64 (x : Nat)] w fun e w' => e = .returned (.int .i64 (suf f s.up (x * (f s.cu).a) s.lo s.cu : Nat)) ∧ Below w.heap.size w w' := by
  obtain ⟨⟨k1, k2⟩, k3, -, -, k4, k5, k6⟩ := hk
  have c0 := g_tb hR
  have c1 := g_up hR
  have c4 := g_lo hR
  have c6 := g_cu hR
  have hn := hS.len
  have hcu : s.cu < n := by omega
  have hTw := hS.lt (by omega)
  have hLw := hR.lt
  obtain ⟨d0, -, -⟩ := hS.cells hcu
  have v0 := hv _ hcu
  obtain ⟨⟨u0, u1⟩, -, -⟩ := wf3 (hS.wf _ hcu)
  have HS := Lib.hid hS
  have HV := Lib.hid hv
  clear hR hS hv
  obtain ⟨up, dn, sp, lo, hi, cu, lz⟩ := s
  simp only at *
  have m1 : 0 ≤ (x : Int) * (f cu).a ∧ (x : Int) * (f cu).a ≤ 109951162777600 := by
    have h1 : (0 : Int) ≤ x := by omega
    have h2 : (x : Int) ≤ 100 := by omega
    refine ⟨Int.mul_nonneg h1 u0, ?_⟩
    calc (x : Int) * (f cu).a ≤ 100 * (f cu).a := Int.mul_le_mul_of_nonneg_right h2 u0
      _ ≤ _ := by omega
  obtain ⟨m2, m3⟩ := m1
  generalize hW : (x : Int) * (f cu).a = W at *
  generalize hF : (f cu).a = F at *
  go_enter Try.func39, Try.ntmps39
  go_wp2_with fail
  go_quiet (fail)
  go_wp2_with fail
  have C0 := Lib.hid (And.intro c0 (And.intro c1 c6))
  clear c0 c1 c4 c6 d0
  go_loopw [6] (fun i wr => ∃ p : Nat, lo ≤ p ∧ p ≤ cu ∧ i = .int .i64 p ∧ Below w.heap.size w wr ∧ Hid (∀ j, lo ≤ j → j < p → up * (f j).a < W)) (fun i _ => cu - (intOf i).toNat)
  case atStart => exact ⟨lo, Nat.le_refl _, k4, rfl, below_drewN (Below.refl _ _) _, fun j h1 h2 => by omega⟩
  case round =>
    obtain ⟨p, hp1, hp2, rfl, BW, HN⟩ := hrel
    obtain ⟨c0, c1, c6⟩ := C0.out
    rw [← BW.cell (by exact hLw)] at c0 c1 c6
    by_cases hlt : p < cu
    · have hpn : p < n := by omega
      obtain ⟨d0, -, -⟩ := HS.out.cells hpn
      rw [← BW.cell (by exact hTw)] at d0
      have v1 := HV.out p hpn
      obtain ⟨⟨w0, w1⟩, -, -⟩ := wf3 (HS.out.wf p hpn)
      have m4 : 0 ≤ (up : Int) * (f p).a ∧ (up : Int) * (f p).a ≤ 109951162777600 := by
        have h1 : (0 : Int) ≤ up := by omega
        have h2 : (up : Int) ≤ 100 := by omega
        refine ⟨Int.mul_nonneg h1 w0, ?_⟩
        calc (up : Int) * (f p).a ≤ 100 * (f p).a := Int.mul_le_mul_of_nonneg_right h2 w0
          _ ≤ _ := by omega
      obtain ⟨m5, m6⟩ := m4
      have NH := Lib.hid (fun h => suf_hit (f := f) (up := up) (work := W) hlt hp1 h (fun j h1 h2 => by have := HN.out j h1 h2; omega))
      have NX : Hid (up * (f p).a < W → ∀ j, lo ≤ j → j < p + 1 → up * (f j).a < W) := fun h0 j h1 h2 => by
        rcases Nat.lt_or_ge j p with h3 | h3
        · exact HN.out j h1 h3
        · have : j = p := by omega
          subst this; exact h0
      generalize hV : (up : Int) * (f p).a = V at *
      generalize hG : (f p).a = Q at *
      by_cases hW2 : W ≤ V
      · have HH := Lib.hid (NH.out hW2)
        go_wp2_with fail
        go_quiet (fail)
        go_wp2
        go_ret
        exact ⟨by rw [HH.out]; rfl, below_drewN BW _⟩
      · have HH := Lib.hid (NX.out (by omega))
        go_wp2_with fail
        go_quiet (fail)
        go_wp2
        go_roundw
        case rel => exact ⟨p + 1, by omega, by omega, by go_num, below_drewN BW _, HH⟩
        case measure => simp [intOf]; omega
    · have : p = cu := by omega
      subst this
      have HH := Lib.hid (suf_no (f := f) (up := up) (work := W) (fun j h1 h2 => by have := HN.out j h1 h2; omega))
      go_wp2
      go_ret
      exact ⟨by rw [HH.out]; rfl, BW⟩
end Go.Proofs.Ytbblachhijpgeaa
