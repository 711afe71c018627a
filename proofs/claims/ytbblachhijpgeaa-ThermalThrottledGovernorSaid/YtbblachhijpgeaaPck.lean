/- Tables of points: Check and the reference's. -/
import Derived.Test.YtbblachhijpgeaaFpu
namespace Go.Proofs.Ytbblachhijpgeaa
open Go.RowKit

theorem wf3 {K : St} (h : WfS .u64 K) : U64 K.a ∧ U64 K.b ∧ U64 K.c := ⟨wf_u64 h.1, wf_u64 h.2.1, wf_u64 h.2.2⟩

def prevS (f : Nat → St) (k : Nat) : St := if k = 0 then ⟨0, 0, 0⟩ else f (k - 1)
def okAt (f : Nat → St) (k : Nat) : Bool :=
  decide ((prevS f k).a < (f k).a) && decide ((prevS f k).b ≤ (f k).b) && decide ((prevS f k).c ≤ (f k).c) && decide ((f k).a ≤ 1099511627776) && decide ((f k).b ≤ 1099511627776) && decide ((f k).c ≤ 1099511627776)
def okTo (f : Nat → St) : Nat → Bool
  | 0 => true
  | k + 1 => okTo f k && okAt f k
def vld (n : Nat) (f : Nat → St) : Bool := decide (1 ≤ n) && decide (n ≤ 16) && okTo f n
theorem okTo_le (f : Nat → St) {m n : Nat} (h : m ≤ n) (ho : okTo f n = true) : okTo f m = true := by
  induction n with
  | zero => have : m = 0 := by omega
            subst this; exact ho
  | succ n ih =>
    rcases Nat.lt_or_ge m (n + 1) with h1 | h1
    · simp only [okTo, Bool.and_eq_true] at ho; exact ih (by omega) ho.1
    · have : m = n + 1 := by omega
      subst this; exact ho
theorem okTo_not (f : Nat → St) {m n : Nat} (h : m < n) (ho : okAt f m = false) : okTo f n = false := by
  cases he : okTo f n
  · rfl
  · have := okTo_le f (show m + 1 ≤ n by omega) he
    simp [okTo, ho] at this
theorem vld_okAt {n : Nat} {f : Nat → St} (hv : vld n f = true) {k : Nat} (hk : k < n) : okAt f k = true := by
  simp only [vld, Bool.and_eq_true] at hv
  have := okTo_le f (show k + 1 ≤ n by omega) hv.2
  simp only [okTo, Bool.and_eq_true] at this
  exact this.2
theorem vld_len {n : Nat} {f : Nat → St} (hv : vld n f = true) : 1 ≤ n ∧ n ≤ 16 := by
  simp [vld] at hv; omega
theorem okAt_iff {f : Nat → St} {k : Nat} : okAt f k = true ↔ (prevS f k).a < (f k).a ∧ (prevS f k).b ≤ (f k).b ∧ (prevS f k).c ≤ (f k).c ∧ (f k).a ≤ 1099511627776 ∧ (f k).b ≤ 1099511627776 ∧ (f k).c ≤ 1099511627776 := by
  unfold okAt
  simp only [Bool.and_eq_true, decide_eq_true_eq]
  omega
theorem okAt_not {f : Nat → St} {k : Nat} (h : ¬ ((prevS f k).a < (f k).a ∧ (prevS f k).b ≤ (f k).b ∧ (prevS f k).c ≤ (f k).c ∧ (f k).a ≤ 1099511627776 ∧ (f k).b ≤ 1099511627776 ∧ (f k).c ≤ 1099511627776)) : okAt f k = false := by
  cases he : okAt f k
  · rfl
  · exact absurd (okAt_iff.1 he) h
theorem vld_step {n : Nat} {f : Nat → St} (hv : vld n f = true) {k : Nat} (hk : k + 1 < n) : (f k).a < (f (k + 1)).a ∧ (f k).b ≤ (f (k + 1)).b ∧ (f k).c ≤ (f (k + 1)).c := by
  have := okAt_iff.1 (vld_okAt hv hk)
  simp [prevS] at this; omega
theorem vld_top {n : Nat} {f : Nat → St} (hv : vld n f = true) {k : Nat} (hk : k < n) : (f k).a ≤ 1099511627776 ∧ (f k).b ≤ 1099511627776 ∧ (f k).c ≤ 1099511627776 := (okAt_iff.1 (vld_okAt hv hk)).2.2.2
def ChkPost (w : World) (n : Nat) (f : Nat → St) (e : Ending) (w' : World) : Prop :=
  e = .returned (.int .i64 (if vld n f then 0 else 1)) ∧ Below w.heap.size w w'
theorem vld_bad {n k : Nat} {f : Nat → St} (hk : k < n) (h : okAt f k = false) : vld n f = false := by
  unfold vld; rw [okTo_not f hk h]; simp
theorem post_bad {w w' : World} {n : Nat} {f : Nat → St} (h : vld n f = false) (hb : Below w.heap.size w w') : ChkPost w n f (.returned (.int .i64 1)) w' := by
  refine ⟨?_, hb⟩; rw [h]; rfl
theorem post_good {w w' : World} {n : Nat} {f : Nat → St} (h : vld n f = true) (hb : Below w.heap.size w w') : ChkPost w n f (.returned (.int .i64 0)) w' := by
  refine ⟨?_, hb⟩; rw [h]; rfl

theorem chk_none (A : Option Addr) (c : Nat) (f : Nat → St) (w : World) :
    Calls Try.prog 37 #[.slice A 0 c] w (ChkPost w 0 f) := by
  go_enter Try.func37, Try.ntmps37
  go_wp2
  go_ret
  exact ⟨rfl, Below.refl _ _⟩
theorem chk_long (A : Option Addr) (n c : Nat) (f : Nat → St) (w : World) (h : 16 < n) (hn : n ≤ 9223372036854775807) :
    Calls Try.prog 37 #[.slice A n c] w (ChkPost w n f) := by
  have h1 : ¬ ((n : Int) < 1) := by omega
  have h2 : (16 : Int) < n := by omega
  go_enter Try.func37, Try.ntmps37
  go_wp2
  go_ret
  exact post_bad (by simp [vld]; omega) (Below.refl _ _)
def pcell (s : St) (j : Nat) : Value := .int .u64 (if j = 0 then s.a else if j = 1 then s.b else s.c)
theorem prow_set {w : World} {L : Nat} {s t : St} (h : w.rowIs L 73 3 (pcell s)) :
    (((w.setCell ⟨L, 0, none⟩ (.int .u64 t.a)).setCell ⟨L, 1, none⟩ (.int .u64 t.b)).setCell ⟨L, 2, none⟩ (.int .u64 t.c)).rowIs L 73 3 (pcell t) := by
  refine (((h.set 0 _).set 1 _).set 2 _).congr fun j hj => ?_
  match j, hj with
  | 0, _ => rfl
  | 1, _ => rfl
  | 2, _ => rfl
theorem prow_new (w : World) : (w.alloc (.cells #[.int .u64 0, .int .u64 0, .int .u64 0] 73)).rowIs w.heap.size 73 3 (pcell ⟨0, 0, 0⟩) := by
  refine World.rowIs_alloc w #[.int .u64 0, .int .u64 0, .int .u64 0] 73 (pcell ⟨0, 0, 0⟩) fun j hj => ?_
  match j, hj with
  | 0, _ => rfl
  | 1, _ => rfl
  | 2, _ => rfl
set_option maxRecDepth 100000 in
set_option maxHeartbeats 4000000 in
theorem chk_mid (b off n c : Nat) (f : Nat → St) (w : World) (h : 1 ≤ n) (hn : n ≤ 16) (hb : b < w.heap.size) (hc : Sts .u64 w b off n f) :
    Calls Try.prog 37 #[.slice (some ⟨b, off, none⟩) n c] w (ChkPost w n f) := by
  have h1 : ¬ ((n : Int) < 1) := by omega
  have h2 : ¬ (16 : Int) < n := by omega
  have HC := Lib.hid hc; clear hc
  have R0 := prow_new w
  have B0 : Below w.heap.size w (w.alloc (.cells #[.int .u64 0, .int .u64 0, .int .u64 0] 73)) := (Below.refl _ _).alloc (Nat.le_refl _) _
  go_enter Try.func37, Try.ntmps37
  go_wp2
  obtain ⟨L, hL⟩ : ∃ L, L = w.heap.size := ⟨_, rfl⟩
  have hbL : b < L := by omega
  rw [← hL] at R0
  rw [← hL]
  have HL := Lib.hid (Nat.le_of_eq hL.symm); clear hL
  go_loopw [16] (fun i wr => ∃ k : Nat, k ≤ n ∧ i = .int .i64 k ∧ Below w.heap.size w wr ∧ wr.rowIs L 73 3 (pcell (prevS f k)) ∧ Hid (okTo f k = true)) (fun i _ => n - (intOf i).toNat)
  case atStart => exact ⟨0, Nat.zero_le _, rfl, B0, R0, rfl⟩
  case round =>
    clear R0 B0
    obtain ⟨k, hk, rfl, hbel, R, Ho⟩ := hrel
    by_cases hlt : k < n
    · obtain ⟨d0, d1, d2⟩ := HC.out k hlt
      rw [← hbel.cell hb] at d0 d1 d2
      have OK : Hid (okAt f k = true ↔ _) := okAt_iff
      have NO := Lib.hid (fun (w2 : World) h => post_bad (w := w) (w' := w2) (vld_bad hlt (okAt_not (f := f) (k := k) h)))
      have NX : Hid (prevS f (k + 1) = f k) := by show _ = _; simp [prevS]
      have OT : Hid (okTo f (k + 1) = (okTo f k && okAt f k)) := rfl
      have hLw := R.lt
      generalize f k = X at *
      generalize prevS f k = Y at *
      obtain ⟨xl, xr, xp⟩ := X
      obtain ⟨yl, yr, yp⟩ := Y
      simp only at d0 d1 d2
      have e0 := R.cell (show 0 < 3 by omega)
      have e1 := R.cell (show 1 < 3 by omega)
      have e2 := R.cell (show 2 < 3 by omega)
      have f0 := R.frozen 0
      have f1 := R.frozen 1
      have f2 := R.frozen 2
      simp only [pcell] at e0 e1 e2
      have R' := Lib.hid ((prow_set (t := ⟨xl, xr, xp⟩) R).alloc (Obj.cells #[.int .u64 xl, .int .u64 xr, .int .u64 xp] 73))
      have hw3 : w.heap.size ≤ L := HL.out
      have HB3 := Lib.hid (((hbel.setCell (p := ⟨L, 0, none⟩) hw3 (.int .u64 xl)).setCell (p := ⟨L, 1, none⟩) hw3 (.int .u64 xr)).setCell (p := ⟨L, 2, none⟩) hw3 (.int .u64 xp))
      have B' := hbel.alloc hbel.size (Obj.cells #[.int .u64 xl, .int .u64 xr, .int .u64 xp] 73)
      have HB := Lib.hid (B'); clear B'
      by_cases a1 : xl ≤ yl
      · go_wp2
        go_ret
        exact NO.out _ (fun h => by obtain ⟨q1, q2, q3, q4, q5, q6⟩ := h; omega) HB.out
      by_cases a2 : xr < yr
      · go_wp2
        go_ret
        exact NO.out _ (fun h => by obtain ⟨q1, q2, q3, q4, q5, q6⟩ := h; omega) HB.out
      by_cases a3 : xp < yp
      · go_wp2
        go_ret
        exact NO.out _ (fun h => by obtain ⟨q1, q2, q3, q4, q5, q6⟩ := h; omega) HB.out
      by_cases a4 : 1099511627776 < xl
      · go_wp2
        go_ret
        exact NO.out _ (fun h => by obtain ⟨q1, q2, q3, q4, q5, q6⟩ := h; omega) HB.out
      by_cases a5 : 1099511627776 < xr
      · go_wp2
        go_ret
        exact NO.out _ (fun h => by obtain ⟨q1, q2, q3, q4, q5, q6⟩ := h; omega) HB.out
      by_cases a6 : 1099511627776 < xp
      · go_wp2
        go_ret
        exact NO.out _ (fun h => by obtain ⟨q1, q2, q3, q4, q5, q6⟩ := h; omega) HB.out
      go_wp2
      go_roundw
      case rel =>
        refine ⟨k + 1, by omega, by go_num, HB3.out.alloc HB3.out.size _, by rw [NX.out]; exact R'.out, ?_⟩
        show _ = _
        rw [OT.out, Ho.out, OK.out.2 ⟨by simp only; omega, by simp only; omega, by simp only; omega, by simp only; omega, by simp only; omega, by simp only; omega⟩]; rfl
      case measure => simp [intOf]; omega
    · have : k = n := by omega
      subst this
      go_wp2
      go_ret
      exact post_good (by simp [vld, Ho.out]; omega) hbel
theorem pchk_any (A : Option Addr) (n c : Nat) (f : Nat → St) (w : World) (h : SlS .u64 w A n f) : Calls Try.prog 37 #[.slice A n c] w (ChkPost w n f) := by
  rcases Nat.eq_zero_or_pos n with h0 | h0
  · subst h0; exact chk_none A c f w
  rcases Nat.lt_or_ge 16 n with h1 | h1
  · exact chk_long A n c f w h1 h.len
  · rcases h.row with h2 | ⟨b, off, rfl, hlt, hc⟩
    · omega
    · exact chk_mid b off n c f w h0 h1 hlt hc

theorem ok_zero {f : Nat → St} {x : St} (hx : f 0 = x) (a0 : ¬ x.a < 1) (a1 : ¬ 1099511627776 < x.a) (a2 : ¬ 1099511627776 < x.b) (a3 : ¬ 1099511627776 < x.c) (u : U64 x.a ∧ U64 x.b ∧ U64 x.c) : okAt f 0 = true := by
  rw [okAt_iff, hx]
  unfold U64 at u
  simp only [prevS, if_pos]
  omega
theorem ok_succ {f : Nat → St} {j : Nat} {x y : St} (hx : f (j + 1) = x) (hy : f j = y) (a1 : ¬ 1099511627776 < x.a) (a2 : ¬ 1099511627776 < x.b) (a3 : ¬ 1099511627776 < x.c)
    (b1 : ¬ x.a ≤ y.a) (b2 : ¬ x.b < y.b) (b3 : ¬ x.c < y.c) : okAt f (j + 1) = true := by
  have : prevS f (j + 1) = y := by simp [prevS, hy]
  rw [okAt_iff, hx, this]
  omega
theorem no_top {f : Nat → St} {k : Nat} {x : St} (hx : f k = x) (h : x.a < 1 ∨ 1099511627776 < x.a ∨ 1099511627776 < x.b ∨ 1099511627776 < x.c) (u : U64 (prevS f k).a) : okAt f k = false := by
  refine okAt_not ?_
  rw [hx]
  unfold U64 at u
  omega
theorem no_step {f : Nat → St} {j : Nat} {x y : St} (hx : f (j + 1) = x) (hy : f j = y) (h : x.a ≤ y.a ∨ x.b < y.b ∨ x.c < y.c) : okAt f (j + 1) = false := by
  refine okAt_not ?_
  have : prevS f (j + 1) = y := by simp [prevS, hy]
  rw [hx, this]
  omega
theorem prow_v {w : World} {L : Nat} {x y z t : Int} (h : w.rowIs L 73 3 (pcell ⟨x, y, z⟩)) : (w.setCell ⟨L, 1, none⟩ (.int .u64 t)).rowIs L 73 3 (pcell ⟨x, t, z⟩) := by
  refine (h.set 1 _).congr fun j hj => ?_
  match j, hj with
  | 0, _ => rfl
  | 1, _ => rfl
  | 2, _ => rfl
theorem prow_f {w : World} {L : Nat} {x y z t : Int} (h : w.rowIs L 73 3 (pcell ⟨x, y, z⟩)) : (w.setCell ⟨L, 0, none⟩ (.int .u64 t)).rowIs L 73 3 (pcell ⟨t, y, z⟩) := by
  refine (h.set 0 _).congr fun j hj => ?_
  match j, hj with
  | 0, _ => rfl
  | 1, _ => rfl
  | 2, _ => rfl
theorem prow_box (w : World) (x y z : Int) : (w.alloc (.cells #[.int .u64 x, .int .u64 y, .int .u64 z] 73)).rowIs w.heap.size 73 3 (pcell ⟨x, y, z⟩) := by
  refine World.rowIs_alloc w #[.int .u64 x, .int .u64 y, .int .u64 z] 73 (pcell ⟨x, y, z⟩) fun j hj => ?_
  match j, hj with
  | 0, _ => rfl
  | 1, _ => rfl
  | 2, _ => rfl
theorem info30 : (Try.prog.info? 73).map (fun i => (i.zero, i.size, i.bytes)) = some (some (.agg #[.int .u64 0, .int .u64 0, .int .u64 0]), 3, 24) := by kernel_rfl
end Go.Proofs.Ytbblachhijpgeaa
