/- at: what each actor gets at a level, and the sum. -/
import Derived.Test.YtbblachhijpgeaaAct
namespace Go.Proofs.Ytbblachhijpgeaa
open Go.RowKit

def atG (lv : Int) (s : St) : Int := min (max lv s.b) (wantI s.a s.b s.c)
def atL (lv : Int) (f : Nat → St) (n : Nat) : List Int := (List.range n).map fun i => atG lv (f i)
def atS (lv : Int) (f : Nat → St) : Nat → Int
  | 0 => 0
  | k + 1 => atS lv f k + atG lv (f k)
theorem atL_len (lv : Int) (f : Nat → St) (n : Nat) : (atL lv f n).length = n := by simp [atL]
theorem atL_get (lv : Int) (f : Nat → St) (n i : Nat) (h : i < n) : (atL lv f n).getD i 0 = atG lv (f i) := by
  simp [atL, List.getD_eq_getElem?_getD, h]
theorem atL_succ (lv : Int) (f : Nat → St) (n : Nat) : atL lv f (n + 1) = atL lv f n ++ [atG lv (f n)] := by simp [atL, List.range_succ]
/-- Valid actors and their bounds. -/
structure GA (n : Nat) (f : Nat → St) : Prop where
  len : n ≤ 32
  ok : ∀ k, k < n → 0 ≤ (f k).a ∧ 0 ≤ (f k).b ∧ (f k).b ≤ (f k).c ∧ (f k).c ≤ 4294967296
theorem ga_of {n : Nat} {f : Nat → St} {w : World} {A : Option Addr} (h : SlS .u64 w A n f) (hv : vA n f = true) : GA n f :=
  ⟨vA_len hv, fun k hk => by
    have := vA_at hv hk
    obtain ⟨a, b, _⟩ := h.wf k hk
    have := wf_u64 a
    have := wf_u64 b
    omega⟩
theorem atG_bd {s : St} {lv : Int} (h : 0 ≤ s.a ∧ 0 ≤ s.b ∧ s.b ≤ s.c ∧ s.c ≤ 4294967296) : s.b ≤ atG lv s ∧ atG lv s ≤ wantI s.a s.b s.c ∧ wantI s.a s.b s.c ≤ s.c ∧ s.b ≤ wantI s.a s.b s.c := by
  unfold atG wantI; omega
theorem atS_bd {n : Nat} {f : Nat → St} (h : GA n f) (lv : Int) : ∀ k, k ≤ n → 0 ≤ atS lv f k ∧ atS lv f k ≤ 4294967296 * k := by
  intro k
  induction k with
  | zero => intro _; exact ⟨Int.le_refl _, Int.le_refl _⟩
  | succ k ih =>
    intro hk
    have a := ih (by omega)
    have b := atG_bd (lv := lv) (h.ok k (by omega))
    have c := h.ok k (by omega)
    show 0 ≤ atS lv f k + atG lv (f k) ∧ atS lv f k + atG lv (f k) ≤ _
    omega
/-- A slice of numbers in memory of the call's own. -/
def NL (K : IntKind) (B : Nat) (w : World) (A : Option Addr) (l : List Int) : Prop :=
  l = [] ∨ ∃ g, A = some ⟨g, 0, none⟩ ∧ B ≤ g ∧ g < w.heap.size ∧ (∀ i, i < l.length → w.cell? ⟨g, i, none⟩ = some (.int K (l.getD i 0))) ∧ ∀ k, w.frozen? ⟨g, k, none⟩ = false
theorem NL.chg {K : IntKind} {B : Nat} {S : Nat → Prop} {w w' : World} {A : Option Addr} {l : List Int} (h : NL K B w A l) (hc : Chg S w w') (hn : ∀ g, A = some ⟨g, 0, none⟩ → ¬ S g) : NL K B w' A l := by
  rcases h with h0 | ⟨g, hA, hB, hlt, hcell, hf⟩
  · exact .inl h0
  · have hb := hc.block g hlt (hn g hA)
    exact .inr ⟨g, hA, hB, Nat.lt_of_lt_of_le hlt hc.size, fun i hi => (World.cell?_of_block hb).trans (hcell i hi), fun k => by rw [← hf k]; unfold World.frozen?; simp only [hb]⟩
theorem NL.below {K : IntKind} {B : Nat} {w w' : World} {A : Option Addr} {l : List Int} (h : NL K B w A l) (hb : Below w.heap.size w w') : NL K B w' A l := h.chg (Chg.of_below hb (fun _ => False)) (fun _ _ x => x)
theorem NL.mono {K : IntKind} {B B' : Nat} {w : World} {A : Option Addr} {l : List Int} (h : NL K B w A l) (hb : B' ≤ B) : NL K B' w A l := by
  rcases h with h0 | ⟨g, hA, hB, rest⟩
  · exact .inl h0
  · exact .inr ⟨g, hA, by omega, rest⟩
theorem nl_of_row {K : IntKind} {B : Nat} {w : World} {g t n : Nat} {l : List Int} {φ : Nat → Value} (h : w.rowIs g t n φ) (hl : l.length = n) (hB : B ≤ g) (hφ : ∀ i, i < n → φ i = .int K (l.getD i 0)) : NL K B w (some ⟨g, 0, none⟩) l :=
  .inr ⟨g, rfl, hB, h.lt, fun i hi => by rw [h.cell (by omega), hφ i (by omega)], fun k => h.frozen k⟩
theorem nl_of_own {K : IntKind} {B base t n : Nat} {w : World} {v : Value} {l : List Int} (h : w.ownsRow base t 1 v n (l.map (Value.int K))) (hB : B ≤ base) : ∃ A c, v = .slice A n c ∧ NL K B w A l ∧ n ≤ c := by
  obtain ⟨hl, ⟨rfl, rfl⟩ | ⟨g, cap, cur, rfl, hb, hh, hnc, hcm, hcs, ht⟩⟩ := h
  · have : l = [] := List.length_eq_zero_iff.1 (by simpa using hl)
    exact ⟨none, 0, rfl, .inl this, Nat.le_refl _⟩
  · refine ⟨_, cap, rfl, .inr ⟨g, rfl, by omega, blk_lt hh, fun i hi => ?_, fun k => by simp [World.frozen?, hh]⟩, hnc⟩
    simp at hl
    have h1 : (l.map (Value.int K))[i]? = some (.int K (l.getD i 0)) := by
      rw [List.getElem?_map, List.getD_eq_getElem?_getD, List.getElem?_eq_getElem hi]
      rfl
    rw [← ht, List.getElem?_take, if_pos (by omega)] at h1
    unfold World.cell?
    simp only [hh]
    simpa using h1
theorem nl_set {K : IntKind} {B : Nat} {w : World} {g i : Nat} {l : List Int} (x : Int) (h : NL K B w (some ⟨g, 0, none⟩) l) (hi : i < l.length) : NL K B (w.setCell ⟨g, i, none⟩ (.int K x)) (some ⟨g, 0, none⟩) (l.set i x) := by
  rcases h with h0 | ⟨g', hA, hB, hlt, hcell, hf⟩
  · subst h0; simp at hi
  · injection hA with hA
    injection hA with hA
    subst hA
    refine .inr ⟨g, rfl, hB, by simp; exact hlt, fun j hj => ?_, fun k => by rw [World.frozen?_setCell]; exact hf k⟩
    simp at hj
    by_cases e : j = i
    · subst e
      rw [World.cell?_setCell_same _ _ _ (hcell j hj)]
      simp [List.getD_eq_getElem?_getD, hj]
    · rw [World.cell?_setCell_other _ _ _ _ (fun h => by injection h with _ h; exact e h.symm), hcell j hj]
      have : i ≠ j := fun h => e h.symm
      simp [List.getD_eq_getElem?_getD, List.getElem?_set_ne this]
def AtP (w : World) (n : Nat) (f : Nat → St) (lv : Int) (e : Ending) (w' : World) : Prop :=
  ∃ A c, e = .returned (.tuple #[.slice A n c, .int .u64 (atS lv f n)]) ∧ NL .u64 w.heap.size w' A (atL lv f n) ∧ Below w.heap.size w w' ∧ n ≤ c
theorem info23 : (Try.prog.info? 31).map (fun i => (i.zero, i.size, i.bytes)) = some (some (.int .u64 0), 1, 8) := by kernel_rfl
/-- The numbers that are laid so far. -/
def atR (lv : Int) (f : Nat → St) (k i : Nat) : Value := .int .u64 (if i < k then atG lv (f i) else 0)
set_option maxRecDepth 100000 in
set_option maxHeartbeats 4000000 in
theorem at_any (A : Option Addr) (n c : Nat) (f : Nat → St) (lv : Int) (w : World) (h : SlS .u64 w A n f) (hv : GA n f) : Calls Try.prog 33 #[.slice A n c, .int .u64 lv] w (AtP w n f lv) := by
  have hl := hv.len
  have H := Lib.hid h
  have HV := Lib.hid hv
  have hmk := run_make_row' (P := Try.prog) 55 31 _ 8 Try.underlying55 info23 rfl .i64 .i64 n (by omega) (by omega)
  have R0 : (w.alloc (.cells (madeCells #[.int .u64 0] n) 31)).rowIs w.heap.size 31 n (atR lv f 0) := (World.rowIs_made w (.int .u64 0) n 31).congr fun i _ => by unfold atR; rw [if_neg (by omega)]
  have B0 : Below w.heap.size w (w.alloc (.cells (madeCells #[.int .u64 0] n) 31)) := bal (Below.refl _ _) _
  have START := Lib.hid (And.intro R0 B0)
  clear h hv R0 B0
  go_enter Try.func33, Try.ntmps33
  go_wp2_with fail
  generalize hG : w.heap.size = G at *
  have HG := Lib.hid hG
  clear hG hmk
  go_loopw [15, 7] (fun i s wr => ∃ k : Nat, k ≤ n ∧ i = .int .i64 k ∧ s = .int .u64 (atS lv f k) ∧ wr.rowIs G 31 n (atR lv f k) ∧ Below G w wr) (fun i _ _ => n - (intOf i).toNat)
  case atStart => exact ⟨0, Nat.zero_le _, rfl, rfl, START.out.1, START.out.2⟩
  case round =>
    clear START
    obtain ⟨k, hk, rfl, rfl, R, hB⟩ := hrel
    by_cases hlt : k < n
    · rcases H.out.row with h0 | ⟨b, off, rfl, hb, hc⟩
      · omega
      obtain ⟨c0, c1, c2⟩ := hc k hlt
      have hbG : b < G := by have := HG.out; omega
      rw [← hB.cell hbG] at c0 c1 c2
      have bd := atG_bd (lv := lv) (HV.out.ok k hlt)
      have sb := atS_bd HV.out lv k hk
      have okk := HV.out.ok k hlt
      have NX : Hid (atS lv f (k + 1) = atS lv f k + atG lv (f k)) := rfl
      have GE : Hid (atG lv (f k) = min (max lv (f k).b) (wantI (f k).a (f k).b (f k).c)) := rfl
      have RN : Hid (∀ w' : World, w'.rowIs G 31 n (atR lv f k) → (w'.setCell ⟨G, k, none⟩ (.int .u64 (atG lv (f k)))).rowIs G 31 n (atR lv f (k + 1))) := fun w' h => (h.set k _).congr fun i hi => by
        by_cases e : i = k
        · subst e; rw [if_pos rfl]; unfold atR; rw [if_pos (by omega)]
        · rw [if_neg e]; unfold atR
          by_cases e2 : i < k
          · rw [if_pos e2, if_pos (by omega)]
          · rw [if_neg e2, if_neg (by omega)]
      clear hc
      have hGs := R.lt
      generalize atG lv (f k) = x at *
      generalize f k = s at *
      generalize atS lv f k = sm at *
      obtain ⟨q, y, z⟩ := s
      simp only at c0 c1 c2 bd okk GE
      have R1 := R.alloc (Obj.cells #[.int .u64 q, .int .u64 y, .int .u64 z] 77)
      have HB1 := Lib.hid (hB.alloc (by have := hB.size; have := HG.out; omega) (Obj.cells #[.int .u64 q, .int .u64 y, .int .u64 z] 77))
      obtain ⟨b0, b1, b2⟩ := box3 .u64 77 wr q y z
      have hL9 : wr.heap.size < (wr.alloc (Obj.cells #[.int .u64 q, .int .u64 y, .int .u64 z] 77)).heap.size := by simp
      clear hB R
      go_upto_region 6 with fail
      have HNE : Hid (wr.heap.size ≠ G) := by show _ ≠ _; omega
      generalize wr.heap.size = L9 at *
      generalize wr.alloc (Obj.cells #[.int .u64 q, .int .u64 y, .int .u64 z] 77) = W1 at *
      have e0 := R1.cell hlt
      have z0 := R1.frozen k
      have hG1 := R1.lt
      have HR := Lib.hid R1
      have hLG : L9 ≠ G := HNE.out
      clear R1 c0 c1 c2
      have KP : Hid (∀ w' : World, Below W1.drew.heap.size W1.drew w' → (w'.cell? ⟨L9, 0, none⟩ = some (.int .u64 q) ∧ w'.cell? ⟨L9, 1, none⟩ = some (.int .u64 y) ∧ w'.cell? ⟨L9, 2, none⟩ = some (.int .u64 z)) ∧ w'.cell? ⟨G, k, none⟩ = some (atR lv f k k) ∧ w'.frozen? ⟨G, k, none⟩ = false) := fun w' hb => by
        have hb : Below W1.heap.size W1 w' := (Below.refl _ W1).drew.trans hb
        exact ⟨⟨(hb.cell hL9).trans b0, (hb.cell hL9).trans b1, (hb.cell hL9).trans b2⟩, (hb.cell hG1).trans e0, (hb.frozen hG1).trans z0⟩
      have KS : Hid (∀ w' : World, Below W1.drew.heap.size W1.drew w' → ∀ v, ((w'.setCell ⟨G, k, none⟩ v).cell? ⟨L9, 0, none⟩ = some (.int .u64 q) ∧ (w'.setCell ⟨G, k, none⟩ v).cell? ⟨L9, 1, none⟩ = some (.int .u64 y) ∧ (w'.setCell ⟨G, k, none⟩ v).cell? ⟨L9, 2, none⟩ = some (.int .u64 z))) := fun w' hb v => by
        obtain ⟨⟨p0, p1, p2⟩, _⟩ := KP.out w' hb
        have ne : ∀ o, (⟨G, k, none⟩ : Addr) ≠ ⟨L9, o, none⟩ := fun o h => by injection h with h _; exact hLG h.symm
        exact ⟨(World.cell?_setCell_other _ _ _ _ (ne 0)).trans p0, (World.cell?_setCell_other _ _ _ _ (ne 1)).trans p1, (World.cell?_setCell_other _ _ _ _ (ne 2)).trans p2⟩
      have HSZ : Hid (G ≤ W1.heap.size) := Nat.le_of_lt hG1
      by_cases m1 : lv < y
      · by_cases m2 : wantI q y z < y
        · have HX : Hid (x = wantI q y z) := by show _ = _; rw [GE.out]; omega
          go_region_held3 (fun w' => w'.cell? ⟨L9, 0, none⟩ = some (.int .u64 q) ∧ w'.cell? ⟨L9, 1, none⟩ = some (.int .u64 y) ∧ w'.cell? ⟨L9, 2, none⟩ = some (.int .u64 z)) (first | exact KS.out _ hb9 _ | exact (KP.out _ hb9).1 | exact (KP.out _ (Below.refl _ _)).1 | go_keep) ((go_at_call 36; refine (want_any q y z _).mono ?_; rintro e w9 ⟨rfl, hb9⟩; have q0 := (KP.out _ hb9).2.1; have q1 := (KP.out _ hb9).2.2))
          all_goals
            have HR9 := RN.out w9 (HR.out.of_block (((Below.refl _ W1).drew.trans hb9).block G hG1))
            rw [HX.out] at HR9
            have HB9 := (HB1.out.trans (((Below.refl _ W1).drew.trans hb9).mono HSZ.out)).setCell (p := ⟨G, k, none⟩) (Nat.le_refl _) (.int .u64 (wantI q y z))
            have c9 := World.cell?_setCell_same w9 ⟨G, k, none⟩ (.int .u64 (wantI q y z)) q0
            have mm : (if lv < y then y else lv) = y := if_pos m1
            have mv : (if wantI q y z < y then wantI q y z else y) = wantI q y z := if_pos m2
            (try simp only [mm])
            (try simp only [mv])
            clear mm mv
            generalize w9.setCell ⟨G, k, none⟩ (.int .u64 (wantI q y z)) = W3 at *
            have HR9 := Lib.hid HR9
            have HB9 := Lib.hid HB9
            clear q0 q1 hb9
            go_wp2
            go_roundw
            case rel => exact ⟨k + 1, by omega, by go_num, by rw [NX.out, HX.out], HR9.out, HB9.out⟩
            case measure => simp [intOf]; omega
        · have HX : Hid (x = y) := by show _ = _; rw [GE.out]; omega
          go_region_held3 (fun w' => w'.cell? ⟨L9, 0, none⟩ = some (.int .u64 q) ∧ w'.cell? ⟨L9, 1, none⟩ = some (.int .u64 y) ∧ w'.cell? ⟨L9, 2, none⟩ = some (.int .u64 z)) (first | exact KS.out _ hb9 _ | exact (KP.out _ hb9).1 | exact (KP.out _ (Below.refl _ _)).1 | go_keep) ((go_at_call 36; refine (want_any q y z _).mono ?_; rintro e w9 ⟨rfl, hb9⟩; have q0 := (KP.out _ hb9).2.1; have q1 := (KP.out _ hb9).2.2))
          all_goals
            have HR9 := RN.out w9 (HR.out.of_block (((Below.refl _ W1).drew.trans hb9).block G hG1))
            rw [HX.out] at HR9
            have HB9 := (HB1.out.trans (((Below.refl _ W1).drew.trans hb9).mono HSZ.out)).setCell (p := ⟨G, k, none⟩) (Nat.le_refl _) (.int .u64 (y))
            have c9 := World.cell?_setCell_same w9 ⟨G, k, none⟩ (.int .u64 (y)) q0
            have mm : (if lv < y then y else lv) = y := if_pos m1
            have mv : (if wantI q y z < y then wantI q y z else y) = y := if_neg (by omega)
            (try simp only [mm])
            (try simp only [mv])
            clear mm mv
            generalize w9.setCell ⟨G, k, none⟩ (.int .u64 (y)) = W3 at *
            have HR9 := Lib.hid HR9
            have HB9 := Lib.hid HB9
            clear q0 q1 hb9
            go_wp2
            go_roundw
            case rel => exact ⟨k + 1, by omega, by go_num, by rw [NX.out, HX.out], HR9.out, HB9.out⟩
            case measure => simp [intOf]; omega
      · by_cases m2 : wantI q y z < lv
        · have HX : Hid (x = wantI q y z) := by show _ = _; rw [GE.out]; omega
          go_region_held3 (fun w' => w'.cell? ⟨L9, 0, none⟩ = some (.int .u64 q) ∧ w'.cell? ⟨L9, 1, none⟩ = some (.int .u64 y) ∧ w'.cell? ⟨L9, 2, none⟩ = some (.int .u64 z)) (first | exact KS.out _ hb9 _ | exact (KP.out _ hb9).1 | exact (KP.out _ (Below.refl _ _)).1 | go_keep) ((go_at_call 36; refine (want_any q y z _).mono ?_; rintro e w9 ⟨rfl, hb9⟩; have q0 := (KP.out _ hb9).2.1; have q1 := (KP.out _ hb9).2.2))
          all_goals
            have HR9 := RN.out w9 (HR.out.of_block (((Below.refl _ W1).drew.trans hb9).block G hG1))
            rw [HX.out] at HR9
            have HB9 := (HB1.out.trans (((Below.refl _ W1).drew.trans hb9).mono HSZ.out)).setCell (p := ⟨G, k, none⟩) (Nat.le_refl _) (.int .u64 (wantI q y z))
            have c9 := World.cell?_setCell_same w9 ⟨G, k, none⟩ (.int .u64 (wantI q y z)) q0
            have mm : (if lv < y then y else lv) = lv := if_neg (by omega)
            have mv : (if wantI q y z < lv then wantI q y z else lv) = wantI q y z := if_pos m2
            (try simp only [mm])
            (try simp only [mv])
            clear mm mv
            generalize w9.setCell ⟨G, k, none⟩ (.int .u64 (wantI q y z)) = W3 at *
            have HR9 := Lib.hid HR9
            have HB9 := Lib.hid HB9
            clear q0 q1 hb9
            go_wp2
            go_roundw
            case rel => exact ⟨k + 1, by omega, by go_num, by rw [NX.out, HX.out], HR9.out, HB9.out⟩
            case measure => simp [intOf]; omega
        · have HX : Hid (x = lv) := by show _ = _; rw [GE.out]; omega
          go_region_held3 (fun w' => w'.cell? ⟨L9, 0, none⟩ = some (.int .u64 q) ∧ w'.cell? ⟨L9, 1, none⟩ = some (.int .u64 y) ∧ w'.cell? ⟨L9, 2, none⟩ = some (.int .u64 z)) (first | exact KS.out _ hb9 _ | exact (KP.out _ hb9).1 | exact (KP.out _ (Below.refl _ _)).1 | go_keep) ((go_at_call 36; refine (want_any q y z _).mono ?_; rintro e w9 ⟨rfl, hb9⟩; have q0 := (KP.out _ hb9).2.1; have q1 := (KP.out _ hb9).2.2))
          all_goals
            have HR9 := RN.out w9 (HR.out.of_block (((Below.refl _ W1).drew.trans hb9).block G hG1))
            rw [HX.out] at HR9
            have HB9 := (HB1.out.trans (((Below.refl _ W1).drew.trans hb9).mono HSZ.out)).setCell (p := ⟨G, k, none⟩) (Nat.le_refl _) (.int .u64 (lv))
            have c9 := World.cell?_setCell_same w9 ⟨G, k, none⟩ (.int .u64 (lv)) q0
            have mm : (if lv < y then y else lv) = lv := if_neg (by omega)
            have mv : (if wantI q y z < lv then wantI q y z else lv) = lv := if_neg (by omega)
            (try simp only [mm])
            (try simp only [mv])
            clear mm mv
            generalize w9.setCell ⟨G, k, none⟩ (.int .u64 (lv)) = W3 at *
            have HR9 := Lib.hid HR9
            have HB9 := Lib.hid HB9
            clear q0 q1 hb9
            go_wp2
            go_roundw
            case rel => exact ⟨k + 1, by omega, by go_num, by rw [NX.out, HX.out], HR9.out, HB9.out⟩
            case measure => simp [intOf]; omega
    · have hkn : k = n := by omega
      have FIN : Hid (AtP w n f lv (.returned (.tuple #[.slice (some ⟨G, 0, none⟩) n n, .int .u64 (atS lv f k)])) wr) := by
        show AtP _ _ _ _ _ _
        have hG := HG.out
        subst hG
        rw [hkn] at R ⊢
        exact ⟨_, n, rfl, nl_of_row R (atL_len lv f n) (Nat.le_refl _) (fun i hi => by unfold atR; rw [if_pos hi, atL_get lv f n i hi]), hB, Nat.le_refl _⟩
      clear R hB hkn
      go_wp2
      go_ret2
      exact FIN.out
end Go.Proofs.Ytbblachhijpgeaa
