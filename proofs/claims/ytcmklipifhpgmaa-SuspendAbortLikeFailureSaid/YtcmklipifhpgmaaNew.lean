/- New, of a permutation. -/
import Derived.Test.YtcmklipifhpgmaaCpl
namespace Go.Proofs.Ytcmklipifhpgmaa
open Go.ChangeShapes Go.WideShapes Go.ChangeAt Go.RowKit Go.Deep Go.Joins

def good (n : Nat) (o : Nat → Int) : Prop := n ≤ 64 ∧ (∀ i, i < n → 0 ≤ o i ∧ o i < n) ∧ ∀ i j, i < n → j < n → o i = o j → i = j
/-- The numbers that have been seen among the first k. -/
def sn (o : Nat → Int) (k j : Nat) : Bool := (List.range k).any fun i => o i == (j : Int)
theorem sn_succ (o : Nat → Int) (k j : Nat) : sn o (k + 1) j = (sn o k j || (o k == (j : Int))) := by
  unfold sn
  rw [List.range_succ, List.any_append]
  simp
theorem sn_no {n : Nat} {o : Nat → Int} (h : good n o) {k : Nat} (hk : k < n) : sn o k (o k).toNat = false := by
  unfold sn
  rw [List.any_eq_false]
  intro i hi
  have hi := List.mem_range.1 hi
  have h0 := (h.2.1 k hk).1
  intro e
  have e : o i = ((o k).toNat : Int) := by simpa using e
  have := h.2.2 i k (by omega) hk (by omega)
  omega
structure Sn (w wr : World) (n k : Nat) (o : Nat → Int) : Prop where
  bel : Below w.heap.size w wr
  lY : w.heap.size < wr.heap.size
  row : ∀ j, j < n → wr.cell? ⟨w.heap.size, j, none⟩ = some (.bool (sn o k j))
  frz : ∀ j, wr.frozen? ⟨w.heap.size, j, none⟩ = false
theorem Sn.set {w wr : World} {n k : Nat} {o : Nat → Int} (h : Sn w wr n k o) {d : Nat} (hd : d < n) (hk : o k = (d : Int)) : Sn w (wr.setCell ⟨w.heap.size, d, none⟩ (.bool true)) n (k + 1) o := by
  have hc := Chg.set wr w.heap.size d (.bool true)
  refine ⟨Below.chg h.bel hc h.bel.size (fun b hb => by omega), Nat.lt_of_lt_of_le h.lY hc.size, fun j hj => ?_, fun j => (set_frz ..).trans (h.frz j)⟩
  rw [sn_succ]
  by_cases e : j = d
  · subst e
    rw [hk]
    simp only [beq_self_eq_true, Bool.or_true]
    exact set_same _ _ _ _ _ (h.row j hj)
  · have : (o k == (j : Int)) = false := by rw [hk]; simp; omega
    rw [this, Bool.or_false]
    exact (set_off _ _ _ _ _ e).trans (h.row j hj)
theorem sn_made (w : World) (n : Nat) (o : Nat → Int) : Sn w (w.alloc (.cells (madeCells #[.bool false] n) 4)) n 0 o := by
  refine ⟨bal (Below.refl _ _) _, by simp, fun j hj => ?_, fun j => ?_⟩
  · rw [new_c]
    simp [madeCells, sn, hj, Nat.mod_one]
  · unfold World.frozen?
    rw [heap_alloc_new]
    simp
/-- The operations of going to sleep, when k phases in reverse are planned. -/
def frw (n : Nat) (o : Nat → Int) (k : Nat) : List Op := planL 1 false n o ++ (List.range k).flatMap fun (i : Nat) => planL (2 + (i : Int)) true n o
theorem frw_succ (n : Nat) (o : Nat → Int) (k : Nat) : frw n o (k + 1) = frw n o k ++ planL (2 + (k : Int)) true n o := by
  unfold frw
  rw [List.range_succ, List.flatMap_append, List.append_assoc]
  simp
theorem frw_len (n : Nat) (o : Nat → Int) (k : Nat) : (frw n o k).length = (k + 1) * n := by
  induction k with
  | zero => simp [frw, planL]
  | succ k ih => rw [frw_succ, List.length_append, ih]; simp [planL, Nat.succ_mul]
/-- The sequence while New plans. -/
def rawS (M : Nat) (OA : Option Addr) (oc n : Nat) (o : Nat → Int) (p : List Op) : SQ := ⟨M + 1, M, OA, oc, n, o, 0, p, fun _ _ => false, 0, 0⟩
theorem new_sb {w2 : World} {A : Option Addr} {n c : Nat} {o : Nat → Int} (h : Fl w2 A 1 n (eV o)) (hA : A = none → n = 0 ∧ c = 0) (hl : ∀ a, A = some a → a.block < w2.heap.size) : Sb ((w2.alloc (.map #[] 0)).alloc (.cells #[.slice A n c, .int .i64 0, .slice none 0 0, .map (some w2.heap.size), .int .i64 0] 58)) (rawS w2.heap.size A c n o []) (.slice none 0 0) := by
  have hx : Below w2.heap.size w2 ((w2.alloc (.map #[] 0)).alloc (.cells #[.slice A n c, .int .i64 0, .slice none 0 0, .map (some w2.heap.size), .int .i64 0] 58)) := bal (bal (Below.refl _ _) _) _
  have e1 : (w2.alloc (.map #[] 0)).heap.size = w2.heap.size + 1 := by simp
  have cc := fun j => new_c (w2.alloc (.map #[] 0)) #[.slice A n c, .int .i64 0, .slice none 0 0, .map (some w2.heap.size), .int .i64 0] 58 j
  rw [e1] at cc
  refine ⟨cc 0, cc 1, cc 2, cc 3, cc 4, fun j => ?_, by show w2.heap.size + 1 < _; simp, h.below hx (Nat.le_refl _), hA, fun a e => ⟨by have := hl a e; show a.block ≠ w2.heap.size + 1; omega, Nat.lt_of_lt_of_le (hl a e) hx.size⟩, ?_, by show w2.heap.size ≠ w2.heap.size + 1; omega⟩
  · show World.frozen? _ ⟨w2.heap.size + 1, j, none⟩ = false
    rw [← e1]
    unfold World.frozen?
    rw [heap_alloc_new]
    simp
  · have hc : Below (w2.alloc (.map #[] 0)).heap.size (w2.alloc (.map #[] 0)) ((w2.alloc (.map #[] 0)).alloc (.cells #[.slice A n c, .int .i64 0, .slice none 0 0, .map (some w2.heap.size), .int .i64 0] 58)) := bal (Below.refl _ _) _
    exact (sd_made w2).chg (Chg.of_below hc (fun _ => False)) (fun x => x)
theorem Sb.pl {w3 : World} {M : Nat} {A : Option Addr} {c n : Nat} {o : Nat → Int} (h : Sb w3 (rawS M A c n o []) (.slice none 0 0)) (hw : M + 2 ≤ w3.heap.size) (hl : ∀ a, A = some a → a.block < M + 2) : Pl w3 (rawS M A c n o []) (M + 2) (.slice none 0 0) :=
  ⟨h, ⟨rfl, .inl ⟨rfl, rfl⟩⟩, by show M + 1 < M + 2; omega, by show M < M + 2; omega, hl, hw⟩
def newS (L M : Nat) (OA : Option Addr) (oc n : Nat) (o : Nat → Int) : SQ := ⟨L, M, OA, oc, n, o, stl 0 (frw n o 3).length, frw n o 3, fun _ _ => false, 0, 0⟩
def NwP (Z : Nat → Prop) (w : World) (n : Nat) (o : Nat → Int) (e : Ending) (w' : World) : Prop :=
  ∃ L M OA oc, e = .returned (.tuple #[.pointer (some ⟨L, 0, none⟩), .int .i64 0]) ∧ Sq Z w' (newS L M OA oc n o) ∧ Below w.heap.size w w' ∧ w.heap.size ≤ L ∧ w.heap.size ≤ M ∧ ∀ a, OA = some a → w.heap.size ≤ a.block
theorem prep {A : Option Addr} {n : Nat} {o : Nat → Int} {w w1 : World} {k : Nat} (h : Fl w A 1 n (eV o)) (hb : Below w.heap.size w w1) (hk : k < n) : ∃ b off, A = some ⟨b, off, none⟩ ∧ b < w1.heap.size ∧ w1.cell? ⟨b, off + k, none⟩ = some (.int .i64 (o k)) := by
  have := h.below hb (Nat.le_refl _)
  exact this.eat hk
set_option maxRecDepth 20000 in
set_option maxHeartbeats 4000000 in
theorem new_any {Z : Nat → Prop} (A : Option Addr) (n c : Nat) (o : Nat → Int) (w : World) (h : Fl w A 1 n (eV o)) (hA : A = none → n = 0 ∧ c = 0) (hg : good n o) (hZ : ∀ b, Z b → b < w.heap.size) : Calls Try.prog 16 #[.slice A n c] w (NwP Z w n o) := by
  have hn := hg.1
  have hmk := run_make_row' (P := Try.prog) 55 4 _ 1 Try.underlying55 info4 rfl .i64 .i64 n (by omega) (by omega)
  have HS := Lib.hid (sn_made w n o)
  have HF := Lib.hid h
  have HG := Lib.hid hg
  have HA := Lib.hid hA
  have hn2 : ¬ ((64 : Int) < (n : Int)) := by omega
  clear h hg hA
  go_enter Try.func16, Try.ntmps16
  go_upto_region 5 with fail
  generalize w.alloc (.cells (madeCells #[.bool false] n) 4) = w1 at *
  go_loopw [17] (fun vi wr => ∃ k : Nat, vi = .int .i64 k ∧ k ≤ n ∧ Sn w wr n k o) (fun vi _ => n - (intOf vi).toNat)
  case atStart => exact ⟨0, rfl, Nat.zero_le _, HS.out⟩
  case round =>
    clear HS
    obtain ⟨k, rfl, hk, hS⟩ := hrel
    by_cases hlt : k < n
    · obtain ⟨b, off, rfl, hbl, x0⟩ := prep HF.out hS.bel hlt
      obtain ⟨d, hd⟩ : ∃ d : Nat, o k = (d : Int) := ⟨(o k).toNat, by have := (HG.out.2.1 k hlt).1; omega⟩
      have hdn : d < n := by have := (HG.out.2.1 k hlt).2; omega
      have x1 := hS.row d hdn
      have hno : sn o k d = false := by have := sn_no HG.out hlt; rwa [hd, Int.toNat_natCast] at this
      rw [hno] at x1
      rw [hd] at x0
      have x2 := hS.frz d
      have lY := hS.lY
      have NS := Lib.hid (hS.set hdn hd)
      have hd0 : ¬ ((d : Int) < 0) := by omega
      have hd1 : ¬ ((n : Int) ≤ (d : Int)) := by omega
      clear hS hd hno
      go_wp2
      go_roundw
      case rel => exact ⟨k + 1, by go_num, by omega, NS.out⟩
      case measure => simp [intOf]; omega
    · obtain rfl : k = n := by omega
      have CL := clo_any A k c (eV o) wr (HF.out.below hS.bel (Nat.le_refl _)) HA.out (by omega) (eV_one o)
      have HB := Lib.hid hS.bel
      clear hS hlt hk hmk
      go_wp2_with fail
      refine CL.mono ?_
      clear CL
      rintro e w2 ⟨A2, c2, rfl, hF2, hA2, hN2, -, -, -, hb2⟩
      have HB2 := Lib.hid (bel2 HB.out hb2)
      have HQ := Lib.hid (And.intro hF2 (And.intro hA2 (And.intro hN2 (Nat.le_trans HB.out.size hb2.size))))
      have hsz : w.heap.size ≤ wr.heap.size := HB.out.size
      clear hF2 hA2 hN2 hb2 HB
      have hmm := @run_makeMap Try.prog
      go_upto_region 12 with fail
      clear hmm
      have NS := Lib.hid (new_sb (o := o) HQ.out.1 HQ.out.2.2.1 (fun a e => (HQ.out.2.1 a e).2))
      have HQ3 := Lib.hid HQ.out.2.1
      have HL := Lib.hid HQ.out.2.2.2
      clear HQ
      have e1 : Hid (Below w.heap.size w ((w2.alloc (.map #[] 0)).alloc (.cells #[.slice A2 k c2, .int .i64 0, .slice none 0 0, .map (some w2.heap.size), .int .i64 0] 58))) := by
        have := bal (bal HB2.out (.map #[] 0)) (.cells #[.slice A2 k c2, .int .i64 0, .slice none 0 0, .map (some w2.heap.size), .int .i64 0] 58)
        exact this
      have lsz : Hid (((w2.alloc (.map #[] 0)).alloc (.cells #[.slice A2 k c2, .int .i64 0, .slice none 0 0, .map (some w2.heap.size), .int .i64 0] 58)).heap.size = w2.heap.size + 2) := by show _ = _; simp
      generalize ((w2.alloc (.map #[] 0)).alloc (.cells #[.slice A2 k c2, .int .i64 0, .slice none 0 0, .map (some w2.heap.size), .int .i64 0] 58)) = w3 at *
      have P0 := NS.out.pl (by rw [lsz.out]; exact Nat.le_refl _) (fun a e => by have := (HQ3.out a e).2; omega)
      have PL := plan_any P0 1 false hn (by show (0 : Nat) ≤ 1000; omega)
      clear P0
      have PL : Calls Try.prog 31 #[.pointer (some ⟨w2.heap.size + 1, 0, none⟩), .int .i64 1, .bool false] w3 (PlP w3 (rawS w2.heap.size A2 c2 k o []) (w2.heap.size + 2) (planL 1 false k o)) := PL
      go_wp2_with fail
      refine PL.mono ?_
      clear PL
      rintro e w4 ⟨rfl, v4, hP4, hC4⟩
      have P4 : Hid (Pl w4 (rawS w2.heap.size A2 c2 k o (frw k o 0)) (w2.heap.size + 2) v4) := by
        have e : frw k o 0 = [] ++ planL 1 false k o := by simp [frw]
        rw [e]; exact hP4
      have C4 := Lib.hid hC4
      clear hP4 hC4
      go_upto_region 14 with fail
      go_loopw [8] (fun vi wr => ∃ (t : Nat) (v' : Value), vi = .int .i64 (2 + (t : Int)) ∧ t ≤ 3 ∧ Pl wr (rawS w2.heap.size A2 c2 k o (frw k o t)) (w2.heap.size + 2) v' ∧ Chg (fun b => b = w2.heap.size + 1 ∨ w2.heap.size + 2 ≤ b) w3 wr) (fun vi _ => 9 - (intOf vi).toNat)
      case atStart => exact ⟨0, v4, by simp, by omega, P4.out, C4.out⟩
      case round =>
        clear P4 C4
        obtain ⟨t, v', rfl, ht, hP, hC⟩ := hrel
        by_cases hlt : t < 3
        · have hq : (2 + (t : Int)) ≤ 4 := by omega
          have PL := plan_any hP (2 + (t : Int)) true hn (by show (frw k o t).length ≤ 1000; rw [frw_len]; rcases (by omega : t = 0 ∨ t = 1 ∨ t = 2) with h | h | h <;> subst h <;> omega)
          have HC3 := Lib.hid hC
          have FS := Lib.hid (frw_succ k o t)
          clear hP hC
          have PL : Calls Try.prog 31 #[.pointer (some ⟨w2.heap.size + 1, 0, none⟩), .int .i64 (2 + (t : Int)), .bool true] wr (PlP wr (rawS w2.heap.size A2 c2 k o (frw k o t)) (w2.heap.size + 2) (planL (2 + (t : Int)) true k o)) := PL
          go_wp2_with fail
          refine PL.mono ?_
          clear PL
          rintro e w5 ⟨rfl, v5, hP5, hC5⟩
          have P5 : Hid (Pl w5 (rawS w2.heap.size A2 c2 k o (frw k o (t + 1))) (w2.heap.size + 2) v5) := by
            rw [FS.out]; exact hP5
          have C5 := Lib.hid (HC3.out.trans hC5)
          clear hP5 hC5 FS
          go_wp2
          go_roundw
          case rel => exact ⟨t + 1, v5, by go_num, by omega, P5.out, C5.out⟩
          case measure => simp [intOf]; omega
        · obtain rfl : t = 3 := by omega
          have hlen : (frw k o 3).length ≤ 1000 := by rw [frw_len]; omega
          have hbel := Below.chg e1.out hC (by rw [lsz.out]; have := HL.out; omega) (fun b hb => by have := HL.out; omega)
          have hown := hP.own
          obtain ⟨A6, c6, rfl, hF6, hpc6, hcm6, hab6, -, -⟩ := fl_of_own hown (by show (frw k o 3).length ≤ _; omega)
          have ST := stl_any hP.b
          have ST : Calls Try.prog 32 #[.pointer (some ⟨w2.heap.size + 1, 0, none⟩)] wr (StP wr (rawS w2.heap.size A2 c2 k o (frw k o 3)) (.slice A6 (frw k o 3).length c6) (stl 0 (frw k o 3).length)) := ST
          have HX := Lib.hid (And.intro hF6 (And.intro hpc6 (And.intro hcm6 hab6)))
          have HBL := Lib.hid hbel
          clear hP hC hown hF6 hpc6 hcm6 hab6 hbel
          go_wp2_with fail
          refine ST.mono ?_
          clear ST
          rintro e w7 ⟨rfl, hS, hC⟩
          have FIN : Hid (NwP Z w k o (.returned (.tuple #[.pointer (some ⟨w2.heap.size + 1, 0, none⟩), .int .i64 0])) w7) := by
            have hl := HL.out
            have hb7 := Below.chg HBL.out hC HBL.out.size (fun b hb => by have hb : b = w2.heap.size + 1 := hb; omega)
            obtain ⟨hF6, hpc6, hcm6, hab6⟩ := HX.out
            refine ⟨w2.heap.size + 1, w2.heap.size, A2, c2, rfl, ⟨⟨A6, c6, hS.other rfl rfl rfl rfl rfl rfl rfl rfl rfl rfl, ?_, hpc6, hcm6, fun a e => ?_⟩, fun b hb => Nat.lt_of_lt_of_le (hZ b hb) hb7.size⟩, hb7, by omega, by omega, fun a e => ?_⟩
            · exact hF6.chg hC (fun a e _ => by have := (hab6 a e).1; show ¬ a.block = w2.heap.size + 1; omega)
            · have h1 := hab6 a e
              have h2 := hC.size
              exact ⟨⟨by show a.block ≠ w2.heap.size + 1; omega, by show a.block ≠ w2.heap.size; omega, fun hz => by have := hZ _ hz; omega⟩, by omega⟩
            · have := (HQ3.out a e).1; have := HBL.out.size; omega
          clear hS hC
          go_wp2
          go_ret2
          exact FIN.out
end Go.Proofs.Ytcmklipifhpgmaa
