/- slices.Repeat of one string, and New. -/
import Derived.Test.YtoafoikphpdimaaCln
import Derived.Test.YtoafoikphpdimaaShl
import Derived.Laws.CopyRow
namespace Go.Proofs.Ytoafoikphpdimaa
open Go.ChangeShapes Go.WideShapes Go.ChangeAt Go.RowKit Go.Deep Go.Joins

def repL (v z : Value) (n k : Nat) : List Value := List.replicate k v ++ List.replicate (n - k) z
theorem repL_len (v z : Value) (n k : Nat) (h : k ≤ n) : (repL v z n k).length = n := by unfold repL; simp; omega
theorem repL_copy (v z : Value) (n k m : Nat) : (repL v z n k).take k ++ List.replicate m v ++ (repL v z n k).drop (k + m) = repL v z n (k + m) := by
  unfold repL
  rw [List.take_left' (by simp), List.drop_append, List.length_replicate, List.drop_replicate, List.drop_replicate, show k - (k + m) = 0 by omega, show k + m - k = m by omega]
  simp only [List.replicate_zero, List.nil_append]
  rw [show n - k - m = n - (k + m) by omega, ← List.replicate_append_replicate]
theorem made_rep (v z : Value) (n : Nat) (hz : z.cells = #[z]) : (madeCells z.cells n).toList = repL v z n 0 := by
  rw [hz, toList_madeCells_one]
  simp [repL]
theorem bel_row {B X : Nat} {w wr : World} (h : Below B w wr) (hB : B ≤ wr.heap.size) (hX : B ≤ X) (a : Array Value) : Below B w (wr.setRow X a) :=
  h.grown (show wr.grownBy (wr.setRow X a) (some X) from ⟨rfl, rfl, rfl, by simp, fun k _ hk => setRow_other wr X k _ (fun e => hk (by simp [e]))⟩) hB (fun k hk => by cases hk; exact hX)
def RpP (w : World) (n : Nat) (d : ByteArray) (e : Ending) (w' : World) : Prop := ∃ X, e = .returned (.slice (some ⟨X, 0, none⟩) n n) ∧ w.heap.size ≤ X ∧ w'.ownsRow 0 9 1 (.slice (some ⟨X, 0, none⟩) n n) n ((List.replicate n d).map .string) ∧ Below w.heap.size w w'
theorem rep_copy (wr : World) (X n k : Nat) (d : ByteArray) (ty : TypeId) (hX : wr.heap[X]? = some (.cells (repL (.string d) (.string ByteArray.empty) n k).toArray 9 (0, 0))) (h2 : k < n) :
    (Builtin.copy_ #[40, 40] ty #[.slice (some ⟨X, k, none⟩) (n - k) (n - k), .slice (some ⟨X, 0, none⟩) k n]).run Try.prog wr = .ok (goInt (Nat.min k (n - k))) (wr.setRow X (repL (.string d) (.string ByteArray.empty) n (k + Nat.min k (n - k))).toArray) := by
  have hm : Nat.min k (n - k) ≤ n - k := Nat.min_le_right _ _
  have hm2 : Nat.min k (n - k) ≤ k := Nat.min_le_left _ _
  have := run_copy_row (P := Try.prog) wr 40 40 ty 9 X k (n - k) (n - k) ⟨X, 0, none⟩ k n (repL (.string d) (.string ByteArray.empty) n k).toArray 9 (List.replicate (Nat.min k (n - k)) (.string d)) Try.underlying40 (by
    obtain ⟨i0, hi, hzz⟩ := Option.map_eq_some_iff.1 info9
    simp only [Prod.mk.injEq] at hzz
    rw [hi]; simp [hzz.2.1]) hX (by simp) (fun j v hj => by
      rw [List.getElem?_replicate] at hj
      split at hj
      · rename_i hj2
        rw [add_plain, Nat.zero_add]
        have : (repL (.string d) (.string ByteArray.empty) n k)[j]? = some (.string d) := by
          unfold repL
          rw [List.getElem?_append_left (by simp; omega), List.getElem?_replicate, if_pos (by omega)]
        simp only [World.cell?, hX]
        rw [← hj]
        simpa using this
      · cases hj) (by rw [List.size_toArray, repL_len _ _ _ _ (by omega), List.length_replicate]; omega) (fun v hv => by
      rw [(List.mem_replicate.1 hv).2]; rfl)
  rw [List.length_replicate] at this
  rw [this]
  rw [show (repL (.string d) (.string ByteArray.empty) n k).toArray.toList = repL (.string d) (.string ByteArray.empty) n k from rfl, repL_copy _ _ _ _ _]
theorem rep_copy0 (wr : World) (X n : Nat) (a : Addr) (d : ByteArray) (ty : TypeId) (hX : wr.heap[X]? = some (.cells (repL (.string d) (.string ByteArray.empty) n 0).toArray 9 (0, 0))) (h1 : wr.cell? a = some (.string d)) (ha : a.spot = none) (h2 : 1 ≤ n) :
    (Builtin.copy_ #[40, 40] ty #[.slice (some ⟨X, 0, none⟩) n n, .slice (some a) 1 1]).run Try.prog wr = .ok (goInt 1) (wr.setRow X (repL (.string d) (.string ByteArray.empty) n 1).toArray) := by
  have hm : Nat.min 1 n = 1 := Nat.min_eq_left h2
  have := run_copy_row (P := Try.prog) wr 40 40 ty 9 X 0 n n a 1 1 (repL (.string d) (.string ByteArray.empty) n 0).toArray 9 [.string d] Try.underlying40 (by
    obtain ⟨i0, hi, hzz⟩ := Option.map_eq_some_iff.1 info9
    simp only [Prod.mk.injEq] at hzz
    rw [hi]; simp [hzz.2.1]) hX (by rw [hm]; rfl) (fun j v hj => by
      match j, hj with
      | 0, hj =>
        obtain ⟨x, y, z⟩ := a
        cases ha
        rw [add_plain, Nat.add_zero, h1]
        exact hj) (by rw [List.size_toArray, repL_len _ _ _ _ (by omega)]; exact h2) (fun v hv => by
      rw [List.mem_singleton.1 hv]; rfl)
  rw [this]
  have e := repL_copy (.string d) (.string ByteArray.empty) n 0 1
  rw [show (repL (.string d) (.string ByteArray.empty) n 0).toArray.toList = repL (.string d) (.string ByteArray.empty) n 0 from rfl]
  simp only [Nat.zero_add, List.replicate_one] at e
  simp only [Nat.zero_add, List.length_singleton, e]
  rfl
theorem own_rep {w : World} {X n : Nat} {d : ByteArray} (h : w.heap[X]? = some (.cells (repL (.string d) (.string ByteArray.empty) n n).toArray 9 (0, 0))) (hn : n ≤ 4096) : w.ownsRow 0 9 1 (.slice (some ⟨X, 0, none⟩) n n) n ((List.replicate n d).map .string) := by
  have e : repL (.string d) (.string ByteArray.empty) n n = (List.replicate n d).map .string := by simp [repL]
  rw [e] at h
  exact ⟨by simp, .inr ⟨X, n, _, rfl, Nat.zero_le _, h, Nat.le_refl _, by unfold maxLen; omega, by simp, by simp⟩⟩
set_option maxRecDepth 20000 in
set_option maxHeartbeats 2000000 in
theorem rep_any {b : Nat} {n : Nat} {d : ByteArray} {w : World} (h1 : w.cell? ⟨b, 0, none⟩ = some (.string d)) (hn : 1 ≤ n ∧ n ≤ 4096) : Calls Try.prog 30 #[.slice (some ⟨b, 0, none⟩) 1 1, .int .i64 n] w (RpP w n d) := by
  obtain ⟨i0, hi, hzz⟩ := Option.map_eq_some_iff.1 info9
  have hmk := run_make_row' (P := Try.prog) 40 9 (.string { data := #[] }) 16 Try.underlying40 info9 rfl .i64 .i64 n (by omega) (by omega) w
  have P := Try.bits_Mul 1 n (by omega) (by omega) w
  rw [Nat.one_mul, Nat.div_eq_of_lt (by omega), Nat.mod_eq_of_lt (by omega)] at P
  have hb := cell_lt h1
  have hw : IntKind.u64.wrap (n : Int) = n := by rw [IntKind.wrap_u64]; omega
  go_enter Try.func30, Try.ntmps30
  go_upto_region 7 with (go_at_call 41; refine P.mono ?_; rintro e w1 ⟨rfl, hw1⟩; rw [hw1])
  have hX0 : (w.alloc (.cells (madeCells #[.string { data := #[] }] n) 9)).heap[w.heap.size]? = some (.cells (repL (.string d) (.string ByteArray.empty) n 0).toArray 9 (0, 0)) := by
    rw [heap_alloc_new w _]
    have := made_rep (.string d) (.string ByteArray.empty) n rfl
    rw [← this]
    rfl
  have h1' : (w.alloc (.cells (madeCells #[.string { data := #[] }] n) 9)).cell? ⟨b, 0, none⟩ = some (.string d) := (((Below.refl _ w).alloc (Nat.le_refl _) (.cells (madeCells #[.string { data := #[] }] n) 9)).cell (by exact hb)).trans h1
  have hB := (Below.refl _ w).alloc (Nat.le_refl _) (.cells (madeCells #[.string { data := #[] }] n) 9)
  generalize w.alloc (.cells (madeCells #[.string { data := #[] }] n) 9) = w1 at *
  have hc0 : ∀ ty, _ := fun ty => rep_copy0 w1 w.heap.size n ⟨b, 0, none⟩ d ty hX0 h1' rfl hn.1
  have hX1 := setRow_heap w1 w.heap.size _ (repL (.string d) (.string ByteArray.empty) n 1).toArray 9 _ hX0
  have hB1 : Below w.heap.size w (w1.setRow w.heap.size (repL (.string d) (.string ByteArray.empty) n 1).toArray) := bel_row hB hB.size (Nat.le_refl _) _
  have HX1 := Lib.hid hX1
  have HB1 := Lib.hid hB1
  clear hmk P hw h1' hB hX1 hB1 hX0
  go_wp2_with fail
  go_loopw [8] (fun vi wr => ∃ k : Nat, 1 ≤ k ∧ k ≤ n ∧ vi = .int .i64 k ∧ wr.heap[w.heap.size]? = some (.cells (repL (.string d) (.string ByteArray.empty) n k).toArray 9 (0, 0)) ∧ Below w.heap.size w wr) (fun i _ => n - (intOf i).toNat)
  case atStart => exact ⟨1, Nat.le_refl _, hn.1, rfl, HX1.out, HB1.out⟩
  case round =>
    clear HX1 HB1 hc0
    obtain ⟨k, hk1, hk, rfl, hX, hB⟩ := hrel
    have HX := Lib.hid hX
    have HB := Lib.hid hB
    by_cases hlt : k < n
    · have hcp : ∀ ty, _ := fun ty => rep_copy wr.drew w.heap.size n k d ty hX hlt
      have hm : 1 ≤ Nat.min k (n - k) ∧ Nat.min k (n - k) ≤ n - k := ⟨by rw [Nat.le_min]; omega, Nat.min_le_right _ _⟩
      have NX := Lib.hid (setRow_heap wr.drew w.heap.size _ (repL (.string d) (.string ByteArray.empty) n (k + Nat.min k (n - k))).toArray 9 _ hX)
      have NB : Hid (Below w.heap.size w (wr.drew.setRow w.heap.size (repL (.string d) (.string ByteArray.empty) n (k + Nat.min k (n - k))).toArray)) := bel_row hB.drew hB.size (Nat.le_refl _) _
      generalize Nat.min k (n - k) = m at *
      clear hX hB
      go_upto_region 9 with fail
      have j1 : IntKind.i64.wrap ((k : Int) + (m : Int)) = (k : Int) + m := IntWalk.i64_in _ (by omega)
      go_region
      go_wp2_with fail
      go_roundw
      case rel => exact ⟨k + m, by omega, by omega, by go_num, NX.out, NB.out⟩
      case measure => simp [intOf]; omega
    · have hkn : k = n := by omega
      subst hkn
      have G : Hid (RpP w k d (.returned (.slice (some ⟨w.heap.size, 0, none⟩) k k)) wr) := ⟨_, rfl, Nat.le_refl _, own_rep HX.out hn.2, HB.out⟩
      clear hX hB HX HB
      go_wp2
      go_ret
      exact G.out
end Go.Proofs.Ytoafoikphpdimaa
