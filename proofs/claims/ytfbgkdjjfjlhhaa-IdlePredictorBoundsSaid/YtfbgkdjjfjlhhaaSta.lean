/- States makes a valid list of states in new memory. -/
import Derived.Test.YtfbgkdjjfjlhhaaSel
import Derived.Test.YtfbgkdjjfjlhhaaEng
import Derived.Outline
import Derived.Deep.OwnRows
import Derived.Deep.DeepCutAuto
import Derived.StillTailTactics
import Derived.Laws.MakeOwn
import Derived.Laws.Entries
namespace Go.Proofs.Ytfbgkdjjfjlhhaa
open Go.RowKit
theorem info25 : (Try.prog.info? 25).map (fun i => (i.zero, i.size, i.bytes)) = some (some (.agg #[.int .u64 0, .int .u64 0, .int .u64 0]), 3, 24) := by kernel_rfl

def addP (m : Nat) (g : Nat → St) (i : Nat) : Int := if i < m then (g i).p % 50 else 0
def acc (n m : Nat) (g : Nat → St) : Nat → Int
  | 0 => 0
  | t + 1 => acc n m g t + addP m g (n - 1 - t) + 1
theorem addP_bd (m : Nat) (g : Nat → St) (i : Nat) : 0 ≤ addP m g i ∧ addP m g i ≤ 49 := by unfold addP; split <;> omega
theorem acc_bd (n m : Nat) (g : Nat → St) (t : Nat) : 0 ≤ acc n m g t ∧ acc n m g t ≤ 50 * t := by
  induction t with
  | zero => simp [acc]
  | succ t ih => have := addP_bd m g (n - 1 - t); simp only [acc]; omega
theorem acc_pos (n m : Nat) (g : Nat → St) (t : Nat) : 1 ≤ acc n m g (t + 1) := by
  have := acc_bd n m g t; have := addP_bd m g (n - 1 - t); simp only [acc]; omega
theorem acc_lt (n m : Nat) (g : Nat → St) (t : Nat) : acc n m g t < acc n m g (t + 1) := by
  have := addP_bd m g (n - 1 - t); simp only [acc]; omega
def lat (g : Nat → St) : Nat → Int
  | 0 => 0
  | i + 1 => lat g i + 1 + (g (i + 1)).l % 40
def res (g : Nat → St) : Nat → Int
  | 0 => 0
  | i + 1 => res g i + 1 + (g (i + 1)).r % 200
theorem lat_bd (g : Nat → St) (i : Nat) : 0 ≤ lat g i ∧ lat g i ≤ 40 * i := by
  induction i with
  | zero => simp [lat]
  | succ i ih => simp only [lat]; omega
theorem res_bd (g : Nat → St) (i : Nat) : 0 ≤ res g i ∧ res g i ≤ 200 * i := by
  induction i with
  | zero => simp [res]
  | succ i ih => simp only [res]; omega
/-- How many states. -/
def stN (m : Nat) : Nat := max 1 (min m 7)
/-- The states that are made. -/
def stF (m : Nat) (g : Nat → St) (i : Nat) : St := ⟨lat g i, res g i, acc (stN m) m g (stN m - i) - 1⟩
theorem stN_bd (m : Nat) : 1 ≤ stN m ∧ stN m ≤ 7 ∧ (1 ≤ m → stN m ≤ m) ∧ (m = 0 → stN m = 1) := by unfold stN; omega
theorem okAt_of {f : Nat → St} {k : Nat} (h1 : (f k).l ≤ 1073741824) (h2 : (f k).r ≤ 1073741824) (h3 : (f k).p ≤ 1048576)
    (h4 : k = 0 ∨ ((f (k - 1)).l < (f k).l ∧ (f (k - 1)).r < (f k).r) ∧ (f k).p < (f (k - 1)).p) : okAt f k = true := by
  unfold okAt St.okB St.ltB
  simp only [Bool.and_eq_true, Bool.or_eq_true, decide_eq_true_eq, beq_iff_eq]
  exact ⟨⟨⟨h1, h2⟩, h3⟩, h4⟩
theorem stF_okTo (m : Nat) (g : Nat → St) (k : Nat) (hk : k ≤ stN m) : okTo (stF m g) k = true := by
  have hn := stN_bd m
  induction k with
  | zero => rfl
  | succ k ih =>
    rw [okTo, ih (by omega), Bool.true_and]
    have a := acc_bd (stN m) m g (stN m - k)
    have b := lat_bd g k
    have c := res_bd g k
    refine okAt_of (show lat g k ≤ _ by omega) (show res g k ≤ _ by omega) (show acc (stN m) m g (stN m - k) - 1 ≤ _ by omega) ?_
    cases k with
    | zero => exact .inl rfl
    | succ j =>
      have e := acc_lt (stN m) m g (stN m - (j + 1))
      rw [show stN m - (j + 1) + 1 = stN m - j from by omega] at e
      refine .inr ⟨⟨?_, ?_⟩, ?_⟩
      · show lat g j < lat g (j + 1)
        simp only [lat]; omega
      · show res g j < res g (j + 1)
        simp only [res]; omega
      · show acc (stN m) m g (stN m - (j + 1)) - 1 < acc (stN m) m g (stN m - j) - 1
        omega
theorem stF_vld (m : Nat) (g : Nat → St) : vld (stN m) (stF m g) = true := by
  have hn := stN_bd m
  simp [vld, stF_okTo m g (stN m) (Nat.le_refl _), stF, lat, res]; omega
theorem stF_wf (m : Nat) (g : Nat → St) (i : Nat) (hi : i < stN m) : U64 (stF m g i).l ∧ U64 (stF m g i).r ∧ U64 (stF m g i).p := by
  have hn := stN_bd m
  have b := lat_bd g i
  have c := res_bd g i
  have a := acc_bd (stN m) m g (stN m - i)
  have d := acc_pos (stN m) m g (stN m - i - 1)
  rw [show stN m - i - 1 + 1 = stN m - i from by omega] at d
  unfold U64 stF; simp only; omega

/-- A row of states as cells. -/
def cellOf (F : Nat → St) (j : Nat) : Value := .int .u64 (if j % 3 = 0 then (F (j / 3)).l else if j % 3 = 1 then (F (j / 3)).r else (F (j / 3)).p)
theorem cellOf_0 (F : Nat → St) (i : Nat) : cellOf F (i * 3) = .int .u64 (F i).l := by simp [cellOf]
theorem cellOf_1 (F : Nat → St) (i : Nat) : cellOf F (i * 3 + 1) = .int .u64 (F i).r := by
  unfold cellOf
  rw [if_neg (by omega), if_pos (by omega), show (i * 3 + 1) / 3 = i from by omega]
theorem cellOf_2 (F : Nat → St) (i : Nat) : cellOf F (i * 3 + 2) = .int .u64 (F i).p := by
  unfold cellOf
  rw [if_neg (by omega), if_neg (by omega), show (i * 3 + 2) / 3 = i from by omega]
theorem cellOf_congr {F G : Nat → St} {n : Nat} (h : ∀ i, i < n → F i = G i) (j : Nat) (hj : j < n * 3) : cellOf F j = cellOf G j := by
  unfold cellOf; rw [h (j / 3) (by omega)]
theorem cellOf_set (F G : Nat → St) (u r : Nat) (v : Int) (n : Nat) (hr : r < 3)
    (h : ∀ i, i < n → i ≠ u → F i = G i) (h0 : (G u).l = if r = 0 then v else (F u).l) (h1 : (G u).r = if r = 1 then v else (F u).r) (h2 : (G u).p = if r = 2 then v else (F u).p)
    (j : Nat) (hj : j < n * 3) : (if j = u * 3 + r then Value.int .u64 v else cellOf F j) = cellOf G j := by
  by_cases hju : j / 3 = u
  · have : j = u * 3 + j % 3 := by omega
    unfold cellOf
    rw [hju, h0, h1, h2]
    rcases (show j % 3 = 0 ∨ j % 3 = 1 ∨ j % 3 = 2 by omega) with e | e | e <;> rw [e]
    · by_cases hr0 : r = 0
      · rw [if_pos (by omega)]; simp [hr0]
      · rw [if_neg (by omega)]; simp [hr0]
    · by_cases hr0 : r = 1
      · rw [if_pos (by omega)]; simp [hr0]
      · rw [if_neg (by omega)]; simp [hr0]
    · by_cases hr0 : r = 2
      · rw [if_pos (by omega)]; simp [hr0]
      · rw [if_neg (by omega)]; simp [hr0]
  · rw [if_neg (by omega)]
    unfold cellOf
    rw [h (j / 3) (by omega) hju]

def F1 (n m : Nat) (g : Nat → St) (q : Nat) (i : Nat) : St := ⟨0, 0, if q ≤ i then acc n m g (n - i) - 1 else 0⟩
def F2 (n m : Nat) (g : Nat → St) (a b : Nat) (i : Nat) : St := ⟨if i < a then lat g i else 0, if i < b then res g i else 0, acc n m g (n - i) - 1⟩
theorem row_step1 {w : World} {G n m : Nat} {g : Nat → St} {u : Nat} (hu : u < n) (h : w.rowIs G 25 (n * 3) (cellOf (F1 n m g (u + 1)))) :
    (w.setCell ⟨G, u * 3 + 2, none⟩ (.int .u64 (acc n m g (n - (u + 1)) + addP m g u))).rowIs G 25 (n * 3) (cellOf (F1 n m g u)) := by
  refine (h.set (u * 3 + 2) _).congr (cellOf_set (F1 n m g (u + 1)) (F1 n m g u) u 2 _ n (by omega) ?_ ?_ ?_ ?_)
  · intro i hi hne
    unfold F1
    by_cases h1 : u ≤ i
    · have h2 : u + 1 ≤ i := by omega
      simp [h1, h2]
    · have h2 : ¬ u + 1 ≤ i := by omega
      simp [h1, h2]
  · simp [F1]
  · simp [F1]
  · have e : acc n m g (n - u) = acc n m g (n - (u + 1)) + addP m g u + 1 := by
      rw [show n - u = (n - (u + 1)) + 1 from by omega, acc, show n - 1 - (n - (u + 1)) = u from by omega]
    simp [F1, e, Int.add_sub_cancel]
theorem row_step2 {w : World} {G n m : Nat} {g : Nat → St} {k : Nat} (h : w.rowIs G 25 (n * 3) (cellOf (F2 n m g (k + 1) (k + 1)))) :
    (w.setCell ⟨G, (k + 1) * 3, none⟩ (.int .u64 (lat g k + 1 + (g (k + 1)).l % 40))).rowIs G 25 (n * 3) (cellOf (F2 n m g (k + 1 + 1) (k + 1))) := by
  refine (h.set ((k + 1) * 3) _).congr (cellOf_set (F2 n m g (k + 1) (k + 1)) (F2 n m g (k + 1 + 1) (k + 1)) (k + 1) 0 _ n (by omega) ?_ ?_ ?_ ?_)
  · intro i hi hne
    unfold F2
    by_cases h1 : i < k + 1
    · have h2 : i < k + 1 + 1 := by omega
      simp [h1, h2]
    · have h2 : ¬ i < k + 1 + 1 := by omega
      simp [h1, h2]
  · simp [F2, lat]
  · simp [F2]
  · simp [F2]
theorem row_step3 {w : World} {G n m : Nat} {g : Nat → St} {k : Nat} (h : w.rowIs G 25 (n * 3) (cellOf (F2 n m g (k + 1 + 1) (k + 1)))) :
    (w.setCell ⟨G, (k + 1) * 3 + 1, none⟩ (.int .u64 (res g k + 1 + (g (k + 1)).r % 200))).rowIs G 25 (n * 3) (cellOf (F2 n m g (k + 1 + 1) (k + 1 + 1))) := by
  refine (h.set ((k + 1) * 3 + 1) _).congr (cellOf_set (F2 n m g (k + 1 + 1) (k + 1)) (F2 n m g (k + 1 + 1) (k + 1 + 1)) (k + 1) 1 _ n (by omega) ?_ ?_ ?_ ?_)
  · intro i hi hne
    unfold F2
    by_cases h1 : i < k + 1
    · have h2 : i < k + 1 + 1 := by omega
      simp [h1, h2]
    · have h2 : ¬ i < k + 1 + 1 := by omega
      simp [h1, h2]
  · simp [F2]
  · simp [F2, res]
  · simp [F2]
theorem sls_of_row {w : World} {G m : Nat} {g : Nat → St} (h : w.rowIs G 25 (stN m * 3) (cellOf (F2 (stN m) m g (stN m) (stN m)))) : SlS w (some ⟨G, 0, none⟩) (stN m) (stF m g) := by
  have hn := stN_bd m
  refine ⟨by omega, .inr ⟨G, 0, rfl, h.lt, fun i hi => ?_⟩, fun i hi => stF_wf m g i hi⟩
  have e : F2 (stN m) m g (stN m) (stN m) i = stF m g i := by simp [F2, stF, hi]
  refine ⟨?_, ?_, ?_⟩
  · have := h.cell (show i * 3 < stN m * 3 by omega); rw [cellOf_0, e] at this; simpa using this
  · have := h.cell (show i * 3 + 1 < stN m * 3 by omega); rw [cellOf_1, e] at this; simpa using this
  · have := h.cell (show i * 3 + 2 < stN m * 3 by omega); rw [cellOf_2, e] at this; simpa using this

theorem run_make_rowN {P : Program} (t e : TypeId) (i : TypeInfo) (z : Value) (ht : P.underlying t = some (.slice e)) (hi : P.info? e = some i) (hz : i.zero = some z)
    (kl kc : IntKind) (n c : Nat) (hnc : n ≤ c) (hbytes : i.bytes * c ≤ 281474976710656) (h63 : c ≤ 9223372036854775807) (w : World) :
    (Instr.makeSlice t (.int kl (n : Int)) (.int kc (c : Int))).run P w = .ok (.slice (some ⟨w.heap.size, 0, none⟩) n c) (w.alloc (.cells (madeCells z.cells (c * i.size)) e)) := by
  have hb : (i.bytes : Int) * (c : Int) ≤ 281474976710656 := by
    have h : ((i.bytes * c : Nat) : Int) ≤ 281474976710656 := by omega
    rwa [Int.natCast_mul] at h
  have hr := run_make (P := P) w t e i z ht hi hz kl kc n c (by omega) (by omega) hb (by omega)
  simp only [Int.toNat_natCast] at hr
  exact hr
def zeros (n : Nat) : Array Value := madeCells #[.int .u64 0, .int .u64 0, .int .u64 0] (n * 3)
theorem mk25 (n : Nat) (hn : n ≤ 7) (w : World) : (Instr.makeSlice 22 (.int .i64 (n : Int)) (.int .i64 (n : Int))).run Try.prog w = .ok (.slice (some ⟨w.heap.size, 0, none⟩) n n) (w.alloc (.cells (zeros n) 25)) := by
  obtain ⟨i, hi, hzz⟩ := Option.map_eq_some_iff.1 info25
  simp only [Prod.mk.injEq] at hzz
  obtain ⟨hz, hs, hb⟩ := hzz
  have := run_make_rowN (P := Try.prog) 22 25 i _ Try.underlying22 hi hz .i64 .i64 n n (Nat.le_refl _) (by rw [hb]; omega) (by omega) w
  rw [hs] at this
  exact this
theorem zeros_row (n m : Nat) (g : Nat → St) (w : World) : (w.alloc (.cells (zeros n) 25)).rowIs w.heap.size 25 (n * 3) (cellOf (F1 n m g n)) := by
  have hsz : (zeros n).size = n * 3 := size_madeCells _ _
  have := World.rowIs_alloc w (zeros n) 25 (cellOf (F1 n m g n)) (fun j hj => ?_)
  · rwa [hsz] at this
  · rw [hsz] at hj
    have hd : ¬ n ≤ j / 3 := by omega
    unfold zeros madeCells
    rw [Array.getElem?_map, Array.getElem?_range]
    rw [if_pos hj]
    simp only [Option.map_some, cellOf, F1, if_neg hd]
    rcases (show j % 3 = 0 ∨ j % 3 = 1 ∨ j % 3 = 2 by omega) with e | e | e <;> simp [e]

set_option maxRecDepth 100000 in
set_option maxHeartbeats 2000000 in
theorem sta_pos (b off m c : Nat) (g : Nat → St) (w : World) (h : SlS w (some ⟨b, off, none⟩) m g) (hm : 1 ≤ m) (hb : b < w.heap.size) (hc : Sts w b off m g) :
    Calls Try.prog 14 #[.slice (some ⟨b, off, none⟩) m c] w fun e w' => ∃ G, e = .returned (.slice (some ⟨G, 0, none⟩) (stN m) (stN m)) ∧ w.heap.size ≤ G ∧ SlS w' (some ⟨G, 0, none⟩) (stN m) (stF m g) ∧ Below w.heap.size w w' := by
  have hl := h.len
  have WF := Lib.hid h.wf
  have HC := Lib.hid hc
  clear hc
  obtain ⟨hn1, hn7, hnm, -⟩ := stN_bd m
  have hnm := hnm hm
  have hN : Hid (stN m = max 1 (min m 7)) := rfl
  have FIN : Hid (∀ (wx : World) (G : Nat), wx.rowIs G 25 (stN m * 3) (cellOf (F2 (stN m) m g (stN m) (stN m))) → SlS wx (some ⟨G, 0, none⟩) (stN m) (stF m g)) := fun _ _ => sls_of_row
  generalize hn : stN m = n at *
  have Hn := Lib.hid hn; clear hn
  have hmk := mk25 n hn7
  go_enter Try.func14, Try.ntmps14
  go_upto_region 1 with fail
  go_cut [3] (fun v wx => v = .int .i64 n ∧ wx = w)
  case first =>
    by_cases h7 : m < 7
    · have e : n = m := by have := hN.out; omega
      have E := Lib.hid e; clear e
      go_wp2
      all_goals (go_meet; refine ⟨?_, rfl⟩; exact congrArg (Value.int .i64) (by have := E.out; omega))
    · have e : n = 7 := by have := hN.out; omega
      have E := Lib.hid e; clear e
      go_wp2
      all_goals (go_meet; refine ⟨?_, rfl⟩; exact congrArg (Value.int .i64) (by have := E.out; omega))
  case rest =>
    obtain ⟨rfl, rfl⟩ := hcut
    have R0 := zeros_row n m g wc
    have B0 : Below wc.heap.size wc (wc.alloc (.cells (zeros n) 25)) := (Below.refl _ _).alloc (Nat.le_refl _) _
    go_wp2
    generalize wc.alloc (.cells (zeros n) 25) = w1 at *
    clear hmk
    generalize hG : wc.heap.size = G at *
    have HG := Lib.hid hG; clear hG
    go_loopw [5, 6] (fun p i wr => ∃ q : Nat, q ≤ n ∧ i = .int .i64 ((q : Int) - 1) ∧ p = .int .u64 (acc n m g (n - q)) ∧ wr.rowIs G 25 (n * 3) (cellOf (F1 n m g q)) ∧ Below G wc wr) (fun _ i _ => (intOf i + 1).toNat)
    case atStart => exact ⟨n, Nat.le_refl _, rfl, by simp [acc], R0, B0⟩
    case round =>
      obtain ⟨q, hq, rfl, rfl, R, B⟩ := hrel
      rcases Nat.eq_zero_or_pos q with hq0 | hq0
      · subst hq0
        rw [show ((0 : Nat) : Int) - 1 = -1 from rfl, Nat.sub_zero]
        have R1 : wr.rowIs G 25 (n * 3) (cellOf (F2 n m g 1 1)) := R.congr (cellOf_congr (n := n) (fun i _ => by
          unfold F1 F2
          cases i with
          | zero => simp [lat, res]
          | succ i => simp))
        go_wp2
        obtain ⟨wo, rfl⟩ : ∃ wo : World, wo = wr := ⟨_, rfl⟩
        go_loopw [7] (fun i wr => ∃ k : Nat, k + 1 ≤ n ∧ i = .int .i64 ((k : Int) + 1) ∧ wr.rowIs G 25 (n * 3) (cellOf (F2 n m g (k + 1) (k + 1))) ∧ Below G wc wr) (fun i _ => n - (intOf i).toNat)
        case atStart => exact ⟨0, hn1, rfl, R1, B⟩
        case round =>
          clear R R1 B
          obtain ⟨k, hk, rfl, R, B⟩ := hrel
          by_cases hlt : k + 1 < n
          · obtain ⟨d0, d1, -⟩ := HC.out (k + 1) (by omega)
            rw [← B.cell hb] at d0 d1
            have e0 := R.cell (show k * 3 < n * 3 by omega)
            have e1 := R.cell (show k * 3 + 1 < n * 3 by omega)
            have z0 := R.cell (show (k + 1) * 3 < n * 3 by omega)
            have z1 := R.cell (show (k + 1) * 3 + 1 < n * 3 by omega)
            rw [cellOf_0] at e0
            rw [cellOf_1] at e1
            have f0 := R.frozen ((k + 1) * 3)
            have f1 := R.frozen ((k + 1) * 3 + 1)
            have v0 : (F2 n m g (k + 1) (k + 1) k).l = lat g k := by simp [F2]
            have v1 : (F2 n m g (k + 1) (k + 1) k).r = res g k := by simp [F2]
            rw [v0] at e0
            rw [v1] at e1
            have w1 : IntKind.i64.wrap (k : Int) = (k : Int) := IntWalk.i64_in _ (by omega)
            have i1 : (k : Int) < n := by omega
            have i2 : (k : Int) + 1 < n := by omega
            have i3 : (k : Int) + 1 < m := by omega
            have i4 : (0 : Int) ≤ (k : Int) + 1 := by omega
            have i5 : ((k : Int) + 1).toNat = k + 1 := by omega
            clear v0 v1
            have bl := lat_bd g k
            have br := res_bd g k
            obtain ⟨⟨u0, u1⟩, ⟨u2, u3⟩, -⟩ := WF.out (k + 1) (by omega)
            have R2 := (row_step2 (k := k) R).drew
            have B2 := (B.setCell (p := ⟨G, (k + 1) * 3, none⟩) (Nat.le_refl _) (.int .u64 (lat g k + 1 + (g (k + 1)).l % 40))).drew
            have R2 := Lib.hid R2
            have B2 := Lib.hid B2
            go_wp2_with fail
            go_still_tail 18, (by kernel_rfl)
            go_wp2
            have R2 := R2.out
            have B2 := B2.out
            generalize (wr.setCell ⟨G, (k + 1) * 3, none⟩ (.int .u64 (lat g k + 1 + (g (k + 1)).l % 40))).drew = w2 at *
            clear R B d0 d1 e0 e1 z0 z1 f0 f1
            have d1 := (HC.out (k + 1) (by omega)).2.1
            rw [← B2.cell hb] at d1
            have e1 := R2.cell (show k * 3 + 1 < n * 3 by omega)
            have z1 := R2.cell (show (k + 1) * 3 + 1 < n * 3 by omega)
            rw [cellOf_1] at e1
            have f1 := R2.frozen ((k + 1) * 3 + 1)
            have v1 : (F2 n m g (k + 1 + 1) (k + 1) k).r = res g k := by simp [F2]
            rw [v1] at e1
            clear v1
            have R3 := Lib.hid (row_step3 (k := k) R2).drew
            have B3 := Lib.hid (B2.setCell (p := ⟨G, (k + 1) * 3 + 1, none⟩) (Nat.le_refl _) (.int .u64 (res g k + 1 + (g (k + 1)).r % 200))).drew
            go_still_tail 18, (by kernel_rfl)
            go_wp2
            go_roundw
            case rel => exact ⟨k + 1, by omega, by go_num, R3.out, B3.out⟩
            case measure => (simp [intOf] <;> omega)
          · have : k + 1 = n := by omega
            subst this
            go_wp2
            go_ret
            exact ⟨G, rfl, Nat.le_of_eq HG.out, FIN.out _ _ R, by rw [HG.out]; exact B⟩
      · obtain ⟨u, rfl⟩ : ∃ u, q = u + 1 := ⟨q - 1, by omega⟩
        rw [show ((u + 1 : Nat) : Int) - 1 = (u : Int) from by omega]
        have hum : u < m := by omega
        have d2 := (HC.out u hum).2.2
        rw [← B.cell hb] at d2
        have e2 := R.cell (show u * 3 + 2 < n * 3 by omega)
        have f2 := R.frozen (u * 3 + 2)
        have R1 := row_step1 (show u < n by omega) R
        have hA := acc_bd n m g (n - (u + 1))
        have hP := (WF.out u hum).2.2
        have AE : Hid (acc n m g (n - u) = acc n m g (n - (u + 1)) + addP m g u + 1) := by
          show _ = _
          rw [show n - u = (n - (u + 1)) + 1 from by omega, acc, show n - 1 - (n - (u + 1)) = u from by omega]
        have AP : addP m g u = (g u).p % 50 := by simp [addP, hum]
        rw [AP] at R1
        rw [AP] at AE
        clear AP
        unfold U64 at hP
        generalize (g u).p = y at *
        generalize acc n m g (n - (u + 1)) = a at *
        go_wp2
        go_roundw
        case rel => exact ⟨u, by omega, by go_num, by rw [AE.out], R1, B.setCell (Nat.le_refl _) _⟩
        case measure => (simp [intOf] <;> omega)

theorem stN_zero : stN 0 = 1 := rfl
theorem sls_zero {w : World} {G : Nat} (g : Nat → St) (h : w.rowIs G 25 3 (cellOf (F2 1 0 g 1 1))) : SlS w (some ⟨G, 0, none⟩) (stN 0) (stF 0 g) := sls_of_row (m := 0) h
set_option maxRecDepth 100000 in
set_option maxHeartbeats 2000000 in
theorem sta_zero (A : Option Addr) (c : Nat) (g : Nat → St) (w : World) :
    Calls Try.prog 14 #[.slice A 0 c] w fun e w' => ∃ G, e = .returned (.slice (some ⟨G, 0, none⟩) (stN 0) (stN 0)) ∧ w.heap.size ≤ G ∧ SlS w' (some ⟨G, 0, none⟩) (stN 0) (stF 0 g) ∧ Below w.heap.size w w' := by
  have hmk := mk25 1 (by omega)
  have R0 := zeros_row 1 0 g w
  have B0 : Below w.heap.size w (w.alloc (.cells (zeros 1) 25)) := (Below.refl _ _).alloc (Nat.le_refl _) _
  rw [show (((1 : Nat) : Int)) = 1 from rfl] at hmk
  go_enter Try.func14, Try.ntmps14
  go_wp2
  generalize w.alloc (.cells (zeros 1) 25) = w1 at *
  generalize hG : w.heap.size = G at *
  have HG := Lib.hid hG; clear hG
  clear hmk
  have e2 := R0.cell (show 2 < 1 * 3 by omega)
  have f2 := R0.frozen 2
  have R1 : Hid ((w1.setCell ⟨G, 2, none⟩ (.int .u64 0)).rowIs G 25 3 (cellOf (F2 1 0 g 1 1))) := by
    refine (R0.set 2 (.int .u64 0)).congr (fun j hj => ?_)
    match j, hj with
    | 0, _ => rfl
    | 1, _ => rfl
    | 2, _ => rfl
  have B1 := Lib.hid (B0.setCell (p := ⟨G, 2, none⟩) (Nat.le_refl _) (.int .u64 0))
  clear R0
  go_loopw [5, 6] (fun p i wr => (i = .int .i64 0 ∧ p = .int .u64 0 ∧ wr = w1) ∨ (i = .int .i64 (-1) ∧ p = .int .u64 1 ∧ wr = w1.setCell ⟨G, 2, none⟩ (.int .u64 0))) (fun _ i _ => (intOf i + 1).toNat)
  case atStart => exact .inl ⟨rfl, rfl, rfl⟩
  case round =>
    rcases hrel with ⟨rfl, rfl, rfl⟩ | ⟨rfl, rfl, rfl⟩
    · go_wp2
      go_roundw
      case rel => simp
      case measure => simp [intOf]
    · generalize w1.setCell ⟨G, 2, none⟩ (.int .u64 0) = w2 at *
      clear e2 f2 B0
      go_wp2
      go_loopw [7] (fun i wr => i = .int .i64 1 ∧ wr = w2) (fun i _ => (intOf i).toNat)
      case atStart => exact ⟨rfl, rfl⟩
      case round =>
        obtain ⟨rfl, rfl⟩ := hrel
        go_wp2
        go_ret
        exact ⟨G, rfl, Nat.le_of_eq HG.out, sls_zero g R1.out, by rw [HG.out]; exact B1.out⟩

/-- What States leaves. -/
def StaPost (w : World) (m : Nat) (g : Nat → St) (e : Ending) (w' : World) : Prop :=
  ∃ G, e = .returned (.slice (some ⟨G, 0, none⟩) (stN m) (stN m)) ∧ w.heap.size ≤ G ∧ SlS w' (some ⟨G, 0, none⟩) (stN m) (stF m g) ∧ Below w.heap.size w w'
theorem sta_any (A : Option Addr) (m c : Nat) (g : Nat → St) (w : World) (h : SlS w A m g) : Calls Try.prog 14 #[.slice A m c] w (StaPost w m g) := by
  rcases Nat.eq_zero_or_pos m with h0 | h0
  · subst h0; exact sta_zero A c g w
  · rcases h.row with h2 | ⟨b, off, rfl, hlt, hc⟩
    · omega
    · exact sta_pos b off m c g w h h0 hlt hc
end Go.Proofs.Ytfbgkdjjfjlhhaa
