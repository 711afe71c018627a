/- Expected of both predictors. -/
import Derived.Test.YtfbgkdjjfjlhhaaPrd
namespace Go.Proofs.Ytfbgkdjjfjlhhaa
open Go.RowKit

def sm (f : Nat → Int) : Nat → Int
  | 0 => 0
  | k + 1 => sm f k + f k
def mx (f : Nat → Int) : Nat → Int
  | 0 => 0
  | k + 1 => max (mx f k) (f k)
theorem sm_bd {f : Nat → Int} {n : Nat} (h : ∀ i, i < n → 0 ≤ f i ∧ f i ≤ 1152921504606846976) (k : Nat) (hk : k ≤ n) : mx f k ≤ sm f k ∧ 0 ≤ mx f k ∧ sm f k ≤ k * 1152921504606846976 := by
  induction k with
  | zero => simp [sm, mx]
  | succ k ih => have := ih (by omega); have := h k (by omega); simp only [sm, mx]; omega
/-- What is expected: n durations, the last eight as f. -/
def exV (t : Int) (n : Nat) (f : Nat → Int) : Int := if n < 8 then t else min t ((sm f 8 - mx f 8) / 7)
theorem own_val {w : World} {B g n cap : Nat} {ys : List Int} (h : w.ownsRow B 23 1 (.slice (some ⟨g, 0, none⟩) n cap) n (vals ys)) (j : Nat) (hj : j < ys.length) : w.cell? ⟨g, j, none⟩ = some (.int .u64 (ys.getD j 0)) := by
  have hl : ys.length = n := by have := h.1; simpa [vals] using this
  have := h.cellAt j (by omega)
  rw [this]
  simp [vals, List.getElem?_eq_getElem hj, List.getD_eq_getElem?_getD]
theorem getD_bd {ys : List Int} {b : Int} (h : ∀ y ∈ ys, 0 ≤ y ∧ y ≤ b) (i : Nat) (hi : i < ys.length) : 0 ≤ ys.getD i 0 ∧ ys.getD i 0 ≤ b := by
  rw [List.getD_eq_getElem?_getD, List.getElem?_eq_getElem hi]
  exact h _ (List.getElem_mem hi)
set_option maxRecDepth 100000 in
set_option maxHeartbeats 2000000 in
theorem exp_a (w : World) (B L : Nat) (v : Value) (ys : List Int) (t : Int) (h : PrV 73 w B L v ys) (h8 : ys.length ≤ 8) (hy : ∀ y ∈ ys, 0 ≤ y ∧ y ≤ 1152921504606846976) :
    Calls Try.prog 34 #[.pointer (some ⟨L, 0, none⟩), .int .u64 t] w fun e w' => e = .returned (.int .u64 (exV t ys.length (fun i => ys.getD i 0))) ∧ w = w' := by
  obtain ⟨h1, h2, -⟩ := h
  have c0 := cell_of_blk h1
  clear h1
  by_cases hlt : ys.length < 8
  · have E := Lib.hid (show exV t ys.length (fun i => ys.getD i 0) = t by unfold exV; rw [if_pos hlt])
    rcases h2.2 with ⟨rfl, h0⟩ | ⟨g, cap, cur, rfl, -⟩
    · clear h2
      go_enter Try.func34, Try.ntmps34
      go_wp2
      go_ret
      exact ⟨by rw [E.out]; rfl, rfl⟩
    · clear h2
      go_enter Try.func34, Try.ntmps34
      go_wp2
      go_ret
      exact ⟨by rw [E.out]; rfl, rfl⟩
  · obtain ⟨g, cap, rfl⟩ := own_form h2 (by omega)
    have hl8 : ys.length = 8 := by omega
    have CE := Lib.hid (own_val h2)
    have BD := fun i hi => getD_bd hy i hi
    clear h2 hy
    rw [hl8] at CE BD c0 ⊢
    generalize hf : (fun i => ys.getD i 0) = f at *
    have CE : Hid (∀ j, j < 8 → w.cell? ⟨g, j, none⟩ = some (.int .u64 (f j))) := by rw [← hf]; exact CE.out
    have BD : ∀ i, i < 8 → 0 ≤ f i ∧ f i ≤ 1152921504606846976 := by rw [← hf]; exact BD
    have SB := Lib.hid (fun k hk => sm_bd BD k hk)
    have BD := Lib.hid BD
    clear hf hlt h8
    have E := Lib.hid (show exV t 8 f = min t ((sm f 8 - mx f 8) / 7) from rfl)
    go_enter Try.func34, Try.ntmps34
    go_wp2
    go_loop [5, 6, 21] (fun s m i => ∃ k : Nat, k ≤ 8 ∧ i = .int .i64 k ∧ s = .int .u64 (sm f k) ∧ m = .int .u64 (mx f k)) (fun _ _ i => 8 - (intOf i).toNat)
    case atStart => exact ⟨0, by omega, rfl, rfl, rfl⟩
    case round =>
      obtain ⟨k, hk, rfl, rfl, rfl⟩ := hrel
      by_cases hkl : k < 8
      · have d0 := CE.out k hkl
        obtain ⟨b0, b1⟩ := BD.out k hkl
        obtain ⟨s0, s1, s2⟩ := SB.out k hk
        have s3 : sm f k ≤ 9223372036854775808 := by omega
        have NS : Hid (sm f (k + 1) = sm f k + f k) := rfl
        have NM : Hid (mx f (k + 1) = max (mx f k) (f k)) := rfl
        obtain ⟨S1, hS1⟩ : ∃ S1, sm f (k + 1) = S1 := ⟨_, rfl⟩
        obtain ⟨M1, hM1⟩ : ∃ M1, mx f (k + 1) = M1 := ⟨_, rfl⟩
        rw [hS1] at NS
        rw [hM1] at NM
        have HS1 := Lib.hid hS1
        have HM1 := Lib.hid hM1
        clear hS1 hM1
        clear s2
        generalize sm f k = S at *
        generalize mx f k = M at *
        generalize f k = F at *
        have i0 : (0 : Int) ≤ k := by omega
        go_wp2
        go_round
        case rel => exact ⟨k + 1, by omega, by go_num, congrArg (Value.int .u64) (by rw [HS1.out, NS.out]), congrArg (Value.int .u64) (by rw [HM1.out, NM.out])⟩
        case measure => simp [intOf]; omega
      · obtain rfl : k = 8 := by omega
        obtain ⟨s0, s1, s2⟩ := SB.out 8 (by omega)
        have s3 : sm f 8 ≤ 9223372036854775808 := by omega
        clear s2
        generalize sm f 8 = S at *
        generalize mx f 8 = M at *
        go_wp2
        go_ret
        exact ⟨by rw [E.out]; rfl, rfl⟩
set_option maxRecDepth 100000 in
set_option maxHeartbeats 2000000 in
theorem exp_b (w : World) (B L : Nat) (v : Value) (zs : List Int) (t : Int) (h : PrV 75 w B L v zs) (h8 : zs.length ≤ 100) (hy : ∀ y ∈ zs, 0 ≤ y ∧ y ≤ 1152921504606846976) :
    Calls Try.prog 35 #[.pointer (some ⟨L, 0, none⟩), .int .u64 t] w fun e w' => e = .returned (.int .u64 (exV t zs.length (fun i => zs.getD (zs.length - 8 + i) 0))) ∧ w = w' := by
  obtain ⟨h1, h2, -⟩ := h
  have c0 := cell_of_blk h1
  clear h1
  by_cases hlt : zs.length < 8
  · have E := Lib.hid (show exV t zs.length (fun i => zs.getD (zs.length - 8 + i) 0) = t by unfold exV; rw [if_pos hlt])
    rcases h2.2 with ⟨rfl, h0⟩ | ⟨g, cap, cur, rfl, -⟩
    · clear h2
      go_enter Try.func35, Try.ntmps35
      go_wp2
      go_ret
      exact ⟨by rw [E.out]; rfl, rfl⟩
    · clear h2
      go_enter Try.func35, Try.ntmps35
      go_wp2
      go_ret
      exact ⟨by rw [E.out]; rfl, rfl⟩
  · obtain ⟨g, cap, rfl⟩ := own_form h2 (by omega)
    have CE := own_val h2
    have BD := fun i hi => getD_bd hy i hi
    clear h2 hy
    obtain ⟨n, hn⟩ : ∃ n, zs.length = n + 8 := ⟨zs.length - 8, by omega⟩
    rw [hn] at CE BD c0 ⊢
    have hn9 : n ≤ 92 := by omega
    rw [Nat.add_sub_cancel]
    generalize hf : (fun i => zs.getD (n + i) 0) = f at *
    have CE : Hid (∀ j, j < 8 → w.cell? ⟨g, n + j, none⟩ = some (.int .u64 (f j))) := by rw [← hf]; exact fun j hj => CE (n + j) (by omega)
    have BD : ∀ i, i < 8 → 0 ≤ f i ∧ f i ≤ 1152921504606846976 := by rw [← hf]; exact fun j hj => BD (n + j) (by omega)
    have SB := Lib.hid (fun k hk => sm_bd BD k hk)
    have BD := Lib.hid BD
    have E := Lib.hid (show exV t (n + 8) f = min t ((sm f 8 - mx f 8) / 7) by unfold exV; rw [if_neg (by omega)])
    clear hf hlt h8 hn
    go_enter Try.func35, Try.ntmps35
    go_wp2
    go_loop [5, 6, 7] (fun s m i => ∃ k : Nat, k ≤ 8 ∧ i = .int .i64 (n + k : Nat) ∧ s = .int .u64 (sm f k) ∧ m = .int .u64 (mx f k)) (fun _ _ i => n + 8 - (intOf i).toNat)
    case atStart => exact ⟨0, by omega, congrArg (Value.int .i64) (by omega), rfl, rfl⟩
    case round =>
      obtain ⟨k, hk, rfl, rfl, rfl⟩ := hrel
      by_cases hkl : k < 8
      · have d0 := CE.out k hkl
        obtain ⟨b0, b1⟩ := BD.out k hkl
        obtain ⟨s0, s1, s2⟩ := SB.out k hk
        have s3 : sm f k ≤ 9223372036854775808 := by omega
        have NS : Hid (sm f (k + 1) = sm f k + f k) := rfl
        have NM : Hid (mx f (k + 1) = max (mx f k) (f k)) := rfl
        obtain ⟨S1, hS1⟩ : ∃ S1, sm f (k + 1) = S1 := ⟨_, rfl⟩
        obtain ⟨M1, hM1⟩ : ∃ M1, mx f (k + 1) = M1 := ⟨_, rfl⟩
        rw [hS1] at NS
        rw [hM1] at NM
        have HS1 := Lib.hid hS1
        have HM1 := Lib.hid hM1
        clear hS1 hM1
        clear s2
        generalize sm f k = S at *
        generalize mx f k = M at *
        generalize f k = F at *
        have i0 : ((n + k : Nat) : Int) < ((n + 8 : Nat) : Int) := by omega
        have KN := Lib.hid (show n + k + 1 = n + (k + 1) from rfl)
        obtain ⟨q, hq⟩ : ∃ q, n + k = q := ⟨_, rfl⟩
        rw [hq] at d0 i0 KN ⊢
        have HQ := Lib.hid hq
        clear hq
        go_wp2
        go_round
        case rel => exact ⟨k + 1, by omega, congrArg (Value.int .i64) (by have := KN.out; omega), congrArg (Value.int .u64) (by rw [HS1.out, NS.out]), congrArg (Value.int .u64) (by rw [HM1.out, NM.out])⟩
        case measure => simp [intOf]; omega
      · obtain rfl : k = 8 := by omega
        obtain ⟨s0, s1, s2⟩ := SB.out 8 (by omega)
        have s3 : sm f 8 ≤ 9223372036854775808 := by omega
        clear s2
        generalize sm f 8 = S at *
        generalize mx f 8 = M at *
        go_wp2
        go_ret
        exact ⟨by rw [E.out]; rfl, rfl⟩
/-- The last eight of a list, and the window of the reference. -/
theorem exV_last (t : Int) (zs : List Int) : exV t (last8 zs).length (fun i => (last8 zs).getD i 0) = exV t zs.length (fun i => zs.getD (zs.length - 8 + i) 0) := by
  have hl : (last8 zs).length = zs.length - (zs.length - 8) := by simp [last8]
  unfold exV
  rw [hl]
  by_cases h : zs.length < 8
  · rw [if_pos (by omega), if_pos h]
  · rw [if_neg (by omega), if_neg h]
    have e : (fun i => (last8 zs).getD i 0) = (fun i => zs.getD (zs.length - 8 + i) 0) := by
      funext i
      simp [last8, List.getD_eq_getElem?_getD, List.getElem?_drop]
    rw [e]
theorem last8_snoc (zs : List Int) (x : Int) : last8 (last8 zs ++ [x]) = last8 (zs ++ [x]) := by
  unfold last8
  rcases Nat.lt_or_ge zs.length 8 with h | h
  · rw [show zs.length - 8 = 0 by omega]; rfl
  · have e : (zs.drop (zs.length - 8) ++ [x]).length - 8 = 1 := by simp; omega
    rw [e, show (zs ++ [x]).length - 8 = zs.length - 8 + 1 by simp; omega, List.drop_append_of_le_length (by simp; omega), List.drop_append_of_le_length (by omega), List.drop_drop]
theorem last8_len (zs : List Int) : (last8 zs).length ≤ 8 := by simp [last8]; omega
theorem last8_mem {zs : List Int} {P : Int → Prop} (h : ∀ y ∈ zs, P y) : ∀ y ∈ last8 zs, P y := fun y hy => h y (List.mem_of_mem_drop hy)
end Go.Proofs.Ytfbgkdjjfjlhhaa
