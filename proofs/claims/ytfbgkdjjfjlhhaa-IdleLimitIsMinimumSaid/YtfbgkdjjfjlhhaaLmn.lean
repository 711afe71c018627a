/- The law that the limit is the smallest request, in whatever order they were set: its walk. -/
import Derived.Test.YtfbgkdjjfjlhhaaTig
import Derived.Test.YtfbgkdjjfjlhhaaOpen
namespace Go.Proofs.Ytfbgkdjjfjlhhaa
open Go.RowKit Go.ChangeShapes Go.WideShapes

/-- A slice of numbers in a world. -/
structure Zs (w : World) (A : Option Addr) (n : Nat) (Z : Nat → Int) : Prop where
  len : n ≤ 9223372036854775807
  row : n = 0 ∨ ∃ b off, A = some ⟨b, off, none⟩ ∧ b < w.heap.size ∧ ∀ i, i < n → w.cell? ⟨b, off + i, none⟩ = some (.int .u64 (Z i))
  wf : ∀ i, i < n → U64 (Z i)
theorem open_u64s {H : Type} {enc : TypeId × Value → H} {w : World} {a : Option Addr} {len cap : Nat} {d : DataW H} {p : List MemPlace}
    (h : DataW.Trod enc Try.prog w 0 (fun _ => true) true 50 (.slice a len cap) d p) : ∃ Z, Zs w a len Z := by
  obtain ⟨fuel, hf⟩ := h
  rcases open_ints Try.underlying50 Try.underlying23 (by kernel_rfl) hf with ⟨hcs, _⟩ | ⟨x, l, c, zs, hcs, _, hl, hm, hz, _, hcell, hwz⟩
  · simp [Value.cells] at hcs
    obtain ⟨rfl, rfl, rfl⟩ := hcs
    exact ⟨fun _ => 0, by omega, .inl rfl, fun i hi => by omega⟩
  · simp [Value.cells] at hcs
    obtain ⟨rfl, rfl, rfl⟩ := hcs
    have hz : zs.length = cap := by simpa using hz
    refine ⟨fun i => zs.getD i 0, by unfold maxLen at hm; omega, ?_, fun i hi => ?_⟩
    · rcases Nat.eq_zero_or_pos len with h0 | h0
      · exact .inl h0
      · obtain ⟨b, off, rfl, hc⟩ := ints_at hcell (by omega)
        refine .inr ⟨b, off, rfl, ?_, fun i hi => hc i (by omega)⟩
        exact cell_lt (hc 0 (by omega))
    · apply u64_of_wf
      apply hwz
      rw [List.getD_eq_getElem?_getD, List.getElem?_eq_getElem (by omega)]
      simp

theorem limTo_congr {U U' : Nat → Bool} {V V' : Nat → Int} (k : Nat) (h : ∀ j, j < k → U j = U' j ∧ (U j = true → V j = V' j)) : limTo U V k = limTo U' V' k := by
  induction k with
  | zero => rfl
  | succ k ih =>
    have h1 := ih (fun j hj => h j (by omega))
    obtain ⟨a, b⟩ := h k (by omega)
    simp only [limTo, h1, ← a]
    by_cases hu : U k = true
    · rw [b hu]
    · simp [hu]
theorem limTo_spec (U : Nat → Bool) (V : Nat → Int) (k : Nat) :
    (∀ j, j < k → U j = true → (limTo U V k).2 = true ∧ (limTo U V k).1 ≤ V j) ∧ ((limTo U V k).2 = true → ∃ j, j < k ∧ U j = true ∧ (limTo U V k).1 = V j) := by
  induction k with
  | zero => exact ⟨fun j hj => by omega, fun h => by simp [limTo] at h⟩
  | succ k ih =>
    obtain ⟨a, b⟩ := ih
    by_cases hc : U k = true ∧ ((limTo U V k).2 = false ∨ V k < (limTo U V k).1)
    · simp only [limTo, if_pos hc]
      refine ⟨fun j hj hu => ⟨by simp, ?_⟩, fun _ => ⟨k, by omega, hc.1, rfl⟩⟩
      rcases Nat.lt_or_ge j k with h | h
      · have := a j h hu
        rcases hc.2 with h2 | h2
        · rw [h2] at this; simp at this
        · have := this.2; omega
      · have : j = k := by omega
        subst this; exact Int.le_refl _
    · simp only [limTo, if_neg hc]
      refine ⟨fun j hj hu => ?_, fun h => ?_⟩
      · rcases Nat.lt_or_ge j k with h | h
        · exact a j h hu
        · have : j = k := by omega
          subst this
          have h1 : (limTo U V j).2 = true := by
            cases h2 : (limTo U V j).2
            · exact absurd ⟨hu, .inl h2⟩ hc
            · rfl
          refine ⟨h1, ?_⟩
          have h3 : ¬ V j < (limTo U V j).1 := fun h3 => hc ⟨hu, .inr h3⟩
          omega
      · obtain ⟨j, h1, h2, h3⟩ := b h
        exact ⟨j, by omega, h2, h3⟩

def aU : Nat → Nat → Bool
  | 0 => U0
  | i + 1 => updF (aU i) i true
def aV (Z : Nat → Int) : Nat → Nat → Int
  | 0 => V0
  | i + 1 => updF (aV Z i) i (Z i)
def bU (s n : Nat) : Nat → Nat → Bool
  | 0 => U0
  | i + 1 => updF (bU s n i) ((i + s) % n) true
def bV (s n : Nat) (Z : Nat → Int) : Nat → Nat → Int
  | 0 => V0
  | i + 1 => updF (bV s n Z i) ((i + s) % n) (Z ((i + s) % n))
theorem aU_spec (i j : Nat) : aU i j = decide (j < i) := by
  induction i with
  | zero => simp [aU]
  | succ i ih =>
    simp only [aU, updF]
    split
    · simp; omega
    · rw [ih]; congr 1; simp; omega
theorem aV_spec (Z : Nat → Int) (i j : Nat) (h : j < i) : aV Z i j = Z j := by
  induction i with
  | zero => omega
  | succ i ih =>
    simp only [aV, updF]
    split
    · rename_i e; rw [e]
    · exact ih (by omega)
theorem bU_yes (s n i t : Nat) (h : t < i) : bU s n i ((t + s) % n) = true := by
  induction i with
  | zero => omega
  | succ i ih =>
    simp only [bU, updF]
    split
    · rfl
    · rename_i e
      exact ih (by
        rcases Nat.lt_or_ge t i with h1 | h1
        · exact h1
        · have : t = i := by omega
          subst this; exact absurd rfl e)
theorem bU_lt (s n i j : Nat) (hn : 0 < n) (h : bU s n i j = true) : j < n := by
  induction i with
  | zero => simp [bU] at h
  | succ i ih =>
    simp only [bU, updF] at h
    split at h
    · rename_i e; rw [e]; exact Nat.mod_lt _ hn
    · exact ih h
theorem bV_spec (s n : Nat) (Z : Nat → Int) (i j : Nat) (h : bU s n i j = true) : bV s n Z i j = Z j := by
  induction i with
  | zero => simp [bU] at h
  | succ i ih =>
    simp only [bU, updF] at h
    simp only [bV, updF]
    split
    · rename_i e; rw [e]
    · rename_i e
      rw [if_neg e] at h
      exact ih h
theorem ab_same (s n : Nat) (Z : Nat → Int) (hn : 0 < n) : limV (bU s n n) (bV s n Z n) = limV (aU n) (aV Z n) := by
  unfold limV
  rw [limTo_congr (U := bU s n n) (U' := aU n) (V := bV s n Z n) (V' := aV Z n)]
  intro j _
  have e : bU s n n j = aU n j := by
    rw [aU_spec]
    by_cases hj : j < n
    · have h1 : ((j + (n - s % n)) % n + s) % n = j := by
        rw [Nat.add_mod, Nat.mod_mod, ← Nat.add_mod]
        have h2 : s % n < n := Nat.mod_lt _ hn
        have h3 : s % n + n * (s / n) = s := Nat.mod_add_div s n
        have h4 : j + (n - s % n) + s = j + n * (s / n + 1) := by rw [Nat.mul_add, Nat.mul_one]; omega
        rw [h4, Nat.add_mul_mod_self_left, Nat.mod_eq_of_lt hj]
      have h5 := bU_yes s n n ((j + (n - s % n)) % n) (Nat.mod_lt _ hn)
      rw [h1] at h5
      rw [h5]; simp [hj]
    · cases h : bU s n n j
      · simp [hj]
      · exact absurd (bU_lt s n n j hn h) hj
  refine ⟨e, fun h => ?_⟩
  rw [bV_spec s n Z n j h]
  have : j < n := bU_lt s n n j hn h
  rw [aV_spec Z n j this]
theorem a_min (n : Nat) (Z : Nat → Int) (hn : n ≤ 32) (i : Nat) (hi : i < n) : limV (aU n) (aV Z n) ≤ Z i := by
  have := (limTo_spec (aU n) (aV Z n) 32).1 i (by omega) (by rw [aU_spec]; simp [hi])
  rw [aV_spec Z n i hi] at this
  exact this.2
theorem a_one (n : Nat) (Z : Nat → Int) (hn : n ≤ 32) (h0 : 0 < n) : ∃ i, i < n ∧ limV (aU n) (aV Z n) = Z i := by
  have h1 := (limTo_spec (aU n) (aV Z n) 32).1 0 (by omega) (by rw [aU_spec]; simp [h0])
  obtain ⟨j, _, h3, h4⟩ := (limTo_spec (aU n) (aV Z n) 32).2 h1.1
  rw [aU_spec] at h3
  have h5 : j < n := by simpa using h3
  exact ⟨j, h5, by unfold limV; rw [h4, aV_spec Z n j h5]⟩
theorem limV_0 : limV U0 V0 = 1152921504606846976 := by simp [limV, limTo]
theorem Zs.below {w w' : World} {A : Option Addr} {n : Nat} {Z : Nat → Int} (h : Zs w A n Z) (hb : Below w.heap.size w w') : Zs w' A n Z := by
  refine ⟨h.len, ?_, h.wf⟩
  rcases h.row with h0 | ⟨b, off, hA, hlt, hc⟩
  · exact .inl h0
  · exact .inr ⟨b, off, hA, Nat.lt_of_lt_of_le hlt hb.size, fun i hi => by rw [hb.cell (by exact hlt)]; exact hc i hi⟩
theorem lim_z (b n : Nat) (Z : Nat → Int) (w : World) (h : w.rowIs b 66 64 (lcell (aU n) (aV Z n))) :
    Calls Try.prog 28 #[.pointer (some ⟨b, 0, none⟩)] w fun e w' => e = .returned (.int .u64 (limV (aU n) (aV Z n))) ∧ Below w.heap.size w w' := lim_any b _ _ w h
theorem lim_y (b s n : Nat) (Z : Nat → Int) (w : World) (hn : 0 < n) (h : w.rowIs b 66 64 (lcell (bU s n n) (bV s n Z n))) :
    Calls Try.prog 28 #[.pointer (some ⟨b, 0, none⟩)] w fun e w' => e = .returned (.int .u64 (limV (aU n) (aV Z n))) ∧ Below w.heap.size w w' :=
  (lim_any b _ _ w h).mono fun e w' ⟨he, hb⟩ => ⟨by rw [he, ab_same s n Z hn], hb⟩

def fnd (L : Int) (Z : Nat → Int) : Nat → Bool
  | 0 => false
  | j + 1 => fnd L Z j || decide (L = Z j)
theorem fnd_yes (L : Int) (Z : Nat → Int) (n i : Nat) (hi : i < n) (h : L = Z i) : fnd L Z n = true := by
  induction n with
  | zero => omega
  | succ n ih =>
    simp only [fnd, Bool.or_eq_true, decide_eq_true_eq]
    rcases Nat.lt_or_ge i n with h1 | h1
    · exact .inl (ih h1)
    · have : i = n := by omega
      subst this; exact .inr h
set_option maxRecDepth 100000 in
set_option maxHeartbeats 2000000 in
theorem lmn_long (A : Option Addr) (n c : Nat) (Z : Nat → Int) (sh : Int) (w : World) (hn : n ≤ 9223372036854775807) (h20 : 20 < n) :
    Calls Try.prog 9 #[.slice A n c, .int .i64 sh] w (LawPost w) := by
  go_enter Try.func9, Try.ntmps9
  go_wp2_with fail
  refine (awake_any _).mono ?_
  rintro e w1 ⟨rfl, hb1⟩
  go_wp2
  go_ret
  exact ⟨rfl, hb1⟩
set_option maxRecDepth 100000 in
set_option maxHeartbeats 2000000 in
theorem lmn_pos (b off n c : Nat) (Z : Nat → Int) (sh : Int) (w : World) (h : Zs w (some ⟨b, off, none⟩) n Z) (h0 : 1 ≤ n) (h20 : n ≤ 20) (hb : b < w.heap.size) (hc : ∀ i, i < n → w.cell? ⟨b, off + i, none⟩ = some (.int .u64 (Z i))) :
    Calls Try.prog 9 #[.slice (some ⟨b, off, none⟩) n c, .int .i64 sh] w (LawPost w) := by
  have hlen := h.len
  have HC := Lib.hid hc; clear hc
  have MN := Lib.hid (a_min n Z (by omega))
  have MO := Lib.hid (a_one n Z (by omega) h0)
  have LY := Lib.hid (fun s q W H => lim_y q s n Z W h0 H)
  have hne : ((n : Int) == 0) = false := by simp; omega
  go_enter Try.func9, Try.ntmps9
  go_wp2_with fail
  refine (new_any w).mono ?_
  rintro e w1 ⟨rfl, RA, hb1⟩
  have hpw : w.heap.size < w1.heap.size := RA.lt
  have hpw0 : w.heap.size ≤ w.heap.size := Nat.le_refl _
  go_wp2_with fail
  refine (new_any w1).mono ?_
  rintro e w2 ⟨rfl, RB, hb2⟩
  have RA := row_below RA hb2 (Nat.le_refl _)
  have B2 := bel2 hb1 hb2
  clear hb1 hb2
  generalize hp : w.heap.size = p at *
  have HP := Lib.hid hp; clear hp
  generalize w1.heap.size = q at *
  have hpq : p ≠ q := by omega
  obtain ⟨s, hs⟩ : ∃ s, s = modOf sh n := ⟨_, rfl⟩
  have M : ∀ W, Calls Try.prog 15 #[.int .i64 sh, .int .i64 n] W fun e w' => e = .returned (.int .i64 (s : Nat)) ∧ W = w' := fun W => by rw [hs]; exact mod_any sh n h0 (by omega) W
  have HM := Lib.hid M; clear M
  have hs2 : s < n := by rw [hs]; exact (modOf_spec sh n h0 (by omega)).2
  clear hs
  go_wp2_with fail
  go_loopw [8] (fun i wr => ∃ t : Nat, t ≤ n ∧ i = .int .i64 t ∧ wr.rowIs p 66 64 (lcell (aU t) (aV Z t)) ∧ wr.rowIs q 66 64 (lcell (bU s n t) (bV s n Z t)) ∧ Below p w wr) (fun i _ => n - (intOf i).toNat)
  case atStart => exact ⟨0, Nat.zero_le _, rfl, RA, RB, B2⟩
  case round =>
    clear RA RB B2
    obtain ⟨t, ht, rfl, RA, RB, B⟩ := hrel
    by_cases hlt : t < n
    · obtain ⟨k, hk⟩ : ∃ k, k = (t + s) % n := ⟨_, rfl⟩
      have hkn : k < n := by rw [hk]; exact Nat.mod_lt _ (by omega)
      have he : ((t : Int) + (s : Int)) % (n : Int) = (k : Int) := by rw [hk]; simp
      have SA := Lib.hid (fun W H => set_lit p (aU t) (aV Z t) t (Z t) W H (by omega))
      have SB := Lib.hid (fun W H => set_lit q (bU s n t) (bV s n Z t) k (Z k) W H (by omega))
      have EB : Hid (bU s n (t + 1) = updF (bU s n t) k true ∧ bV s n Z (t + 1) = updF (bV s n Z t) k (Z k)) := by
        rw [hk]; exact ⟨rfl, rfl⟩
      clear hk
      have ct := HC.out t hlt
      have hbp : b < p := hb
      rw [← B.cell (by exact hbp)] at ct
      have hbw : b < wr.heap.size := by have := RA.lt; omega
      go_wp2_with fail
      refine (HM.out _).mono ?_
      rintro e w3 ⟨rfl, rfl⟩
      go_wp2_with fail
      refine (SA.out _ RA).mono ?_
      rintro e w4 ⟨rfl, RA4, hg4⟩
      have B4 : Below p w w4 := by rw [← HP.out] at B ⊢; exact bel_only B hg4 (Nat.le_of_eq HP.out)
      have RB4 := RB.of_block (hg4.block q RB.lt (fun x => by injection x with x; omega))
      have ck := HC.out k hkn
      rw [← B4.cell (by exact hbp)] at ck
      clear RA RB B ct hg4
      go_wp2_with fail
      refine (SB.out _ RB4).mono ?_
      rintro e w5 ⟨rfl, RB5, hg5⟩
      have B5 : Below p w w5 := by rw [← HP.out] at B4 ⊢; exact bel_only B4 hg5 (by rw [HP.out]; omega)
      have RA5 := RA4.of_block (hg5.block p RA4.lt (fun x => by injection x with x; omega))
      clear RA4 RB4 B4 ck hg5 he
      go_wp2_with fail
      go_roundw
      case rel => exact ⟨t + 1, by omega, by go_num, RA5, by rw [EB.out.1, EB.out.2]; exact RB5, B5⟩
      case measure => simp [intOf]; omega
    · have : t = n := by omega
      subst this
      clear hlt
      have RB := Lib.hid RB
      have EX : Hid (∃ i, i < t ∧ limV (aU t) (aV Z t) = Z i) := MO.out
      have LZ := Lib.hid (fun W H => lim_z p t Z W H)
      generalize limV (aU t) (aV Z t) = L at *
      obtain ⟨wo, rfl⟩ : ∃ wo : World, wo = wr := ⟨_, rfl⟩
      go_wp2_with fail
      go_loopw [10, 11] (fun fo i wr => ∃ j : Nat, j ≤ t ∧ i = .int .i64 j ∧ fo = .bool (fnd L Z j) ∧ Below wo.heap.size wo wr) (fun _ i _ => t - (intOf i).toNat)
      case atStart => exact ⟨0, Nat.zero_le _, rfl, rfl, Below.refl _ _⟩
      case round =>
        obtain ⟨j, hj, rfl, rfl, D⟩ := hrel
        by_cases hl2 : j < t
        · have RA1 := row_below RA D (Nat.le_refl _)
          have D0 : Below p w wr := B.trans (D.mono (by rw [← HP.out]; exact B.size))
          have cj := HC.out j hl2
          rw [← D0.cell (by exact hb)] at cj
          have hbw : b < wr.heap.size := by have := RA1.lt; omega
          have mn := MN.out j hl2
          have FS : Hid (fnd L Z (j + 1) = (fnd L Z j || decide (L = Z j))) := rfl
          generalize fnd L Z j = fj at *
          generalize Z j = zj at *
          go_wp2_with fail
          go_region_with (go_at_call 28; refine (LZ.out _ RA1.drew).mono ?_; rintro e w6 ⟨rfl, hb6⟩; have cq := (hb6.cell (p := ⟨b, off + j, none⟩) hbw).trans cj)
          all_goals
            have RA2 := row_below RA1.drew hb6 (Nat.le_refl _)
            have D2 : Below wo.heap.size wo w6 := (D.drew).trans (hb6.mono D.size)
            have hbw2 : b < w6.heap.size := by have := hb6.size; simp at this; omega
            clear RA1 D D0 cj hb6 hbw
            cases fj
            · by_cases hz : L = zj
              · have hz' : (L == zj) = true := by simp [hz]
                have HZ := Lib.hid hz; clear hz
                go_wp2_with fail
                go_region_with (go_at_call 28; refine (LZ.out _ RA2.drew).mono ?_; rintro e w8 ⟨rfl, hb8⟩; have cr := (hb8.cell (p := ⟨b, off + j, none⟩) hbw2).trans cq)
                all_goals
                  have D3 : Below wo.heap.size wo w8 := (D2.drew).trans (hb8.mono D2.size)
                  clear hb8
                  go_wp2
                  go_roundw
                  case rel => exact ⟨j + 1, by omega, by go_num, by rw [FS.out]; simp [HZ.out], D3⟩
                  case measure => simp [intOf]; omega
              · have hz' : (L == zj) = false := by simp [hz]
                have HZ := Lib.hid hz; clear hz
                go_wp2_with fail
                go_region_with (go_at_call 28; refine (LZ.out _ RA2.drew).mono ?_; rintro e w8 ⟨rfl, hb8⟩; have cr := (hb8.cell (p := ⟨b, off + j, none⟩) hbw2).trans cq)
                all_goals
                  have D3 : Below wo.heap.size wo w8 := (D2.drew).trans (hb8.mono D2.size)
                  clear hb8
                  go_wp2
                  go_roundw
                  case rel => exact ⟨j + 1, by omega, by go_num, by rw [FS.out]; simp [HZ.out], D3⟩
                  case measure => simp [intOf]; omega
            · go_wp2_with fail
              go_quiet (fail)
              go_wp2
              go_roundw
              case rel => exact ⟨j + 1, by omega, by go_num, by rw [FS.out]; simp, below_drewN D2 _⟩
              case measure => simp [intOf]; omega
        · have : j = t := by omega
          subst this
          obtain ⟨i, hi, hL⟩ := EX.out
          have hf : fnd L Z j = true := fnd_yes L Z j i hi hL
          have RB1 := row_below RB.out D (Nat.le_refl _)
          have RA1 := row_below RA D (Nat.le_refl _)
          have D1 := Lib.hid (B.trans (D.mono (by rw [← HP.out]; exact B.size)))
          rw [hf]
          clear hf hL RA RB D EX
          go_wp2_with fail
          refine (LY.out s q _ RB1).mono ?_
          rintro e x1 ⟨rfl, hx1⟩
          have RA2 := row_below RA1 hx1 (Nat.le_refl _)
          clear RB1 RA1
          go_wp2_with fail
          refine (LZ.out _ RA2).mono ?_
          rintro e x2 ⟨rfl, hx2⟩
          have D4 := Lib.hid (bel2 (by rw [HP.out]; exact D1.out : Below w.heap.size w wr) (bel2 hx1 hx2))
          clear hx1 hx2
          go_wp2_with fail
          refine (awake_any _).mono ?_
          rintro e x3 ⟨rfl, hx3⟩
          go_wp2
          go_ret
          exact ⟨rfl, bel2 D4.out hx3⟩
set_option maxRecDepth 100000 in
set_option maxHeartbeats 2000000 in
theorem lmn_zero (A : Option Addr) (c : Nat) (sh : Int) (w : World) :
    Calls Try.prog 9 #[.slice A 0 c, .int .i64 sh] w (LawPost w) := by
  have L0 := Lib.hid (fun b W H => (lim_any b U0 V0 W H))
  have E0 : Hid (limV U0 V0 = 1152921504606846976) := limV_0
  generalize limV U0 V0 = L at *
  go_enter Try.func9, Try.ntmps9
  go_wp2_with fail
  refine (new_any w).mono ?_
  rintro e w1 ⟨rfl, RA, hb1⟩
  go_wp2_with fail
  refine (new_any w1).mono ?_
  rintro e w2 ⟨rfl, RB, hb2⟩
  have RA := row_below RA hb2 (Nat.le_refl _)
  have B2 := Lib.hid (bel2 hb1 hb2)
  clear hb1 hb2 RB
  go_wp2_with fail
  go_loopw [8] (fun i wr => i = .int .i64 0 ∧ wr = w2) (fun i _ => (intOf i).toNat)
  case atStart => exact ⟨rfl, rfl⟩
  case round =>
    obtain ⟨rfl, rfl⟩ := hrel
    go_wp2_with fail
    refine (L0.out _ _ RA).mono ?_
    rintro e w3 ⟨rfl, hb3⟩
    rw [E0.out]
    go_wp2_with fail
    refine (awake_any _).mono ?_
    rintro e w4 ⟨rfl, hb4⟩
    go_wp2
    go_ret
    exact ⟨rfl, bel2 (bel2 B2.out hb3) hb4⟩
theorem lmn_walk (A : Option Addr) (n c : Nat) (Z : Nat → Int) (sh : Int) (w : World) (h : Zs w A n Z) (_hs : (Lit.int .i64 sh).wf = true) :
    Calls Try.prog 9 #[.slice A n c, .int .i64 sh] w (LawPost w) := by
  rcases Nat.lt_or_ge 20 n with h1 | h1
  · exact lmn_long A n c Z sh w h.len h1
  · rcases Nat.eq_zero_or_pos n with h0 | h0
    · subst h0; exact lmn_zero A c sh w
    · rcases h.row with h2 | ⟨b, off, rfl, hlt, hc⟩
      · omega
      · exact lmn_pos b off n c Z sh w h h0 h1 hlt hc
end Go.Proofs.Ytfbgkdjjfjlhhaa
