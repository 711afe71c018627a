/- The law that tighter limits never lead to a deeper state: its walk. -/
import Derived.Test.YtfbgkdjjfjlhhaaLim
import Derived.Test.YtfbgkdjjfjlhhaaBrk
import Derived.Deep.RegionWith
namespace Go.Proofs.Ytfbgkdjjfjlhhaa
open Go.RowKit

theorem SlS.grown {w w' : World} {G n : Nat} {f : Nat → St} {b : Nat} (h : SlS w (some ⟨G, 0, none⟩) n f) (hg : w.grownBy w' (some b)) (hne : G ≠ b) : SlS w' (some ⟨G, 0, none⟩) n f := by
  refine ⟨h.len, ?_, h.wf⟩
  rcases h.row with h0 | ⟨b', off, hA, hlt, hc⟩
  · exact .inl h0
  · refine .inr ⟨b', off, hA, Nat.lt_of_lt_of_le hlt hg.size, fun i hi => ?_⟩
    have hb : b' = G := by injection hA with hA; injection hA with h1 _; exact h1.symm
    obtain ⟨c0, c1, c2⟩ := hc i hi
    have e : ∀ o, w'.cell? ⟨b', o, none⟩ = w.cell? ⟨b', o, none⟩ := fun o => World.cell?_of_block (hg.block b' hlt (fun x => by injection x with x; omega))
    rw [← e] at c0 c1 c2
    exact ⟨c0, c1, c2⟩
theorem bel_only {w a b : World} {g : Nat} (h : Below w.heap.size w a) (k : a.grownBy b (some g)) (hg : w.heap.size ≤ g) : Below w.heap.size w b :=
  h.grown k h.size (fun j hj => by injection hj with hj; omega)

theorem selTo_mono (f : Nat → St) (x x' l l' : Int) (hx : x' ≤ x) (hl : l' ≤ l) (n : Nat) : selTo f x' l' n ≤ selTo f x l n := by
  induction n with
  | zero => exact Nat.le_refl _
  | succ n ih =>
    by_cases h : (f n).l ≤ l' ∧ (f n).r ≤ x'
    · have h2 : (f n).l ≤ l ∧ (f n).r ≤ x := by omega
      simp only [selTo, if_pos h, if_pos h2]; exact Nat.le_refl _
    · by_cases h2 : (f n).l ≤ l ∧ (f n).r ≤ x
      · simp only [selTo, if_neg h, if_pos h2]; exact selTo_le f x' l' n
      · simp only [selTo, if_neg h, if_neg h2]; exact ih

abbrev U0 : Nat → Bool := fun _ => false
abbrev V0 : Nat → Int := fun _ => 0
theorem limV_3 (v : Int) : limV (updF U0 3 true) (updF V0 3 v) = v := by simp [limV, limTo, updF]
theorem limV_37 (v r : Int) : limV (updF (updF U0 3 true) 7 true) (updF (updF V0 3 v) 7 r) = if r < v then r else v := by
  by_cases h : r < v
  · simp [limV, limTo, updF, h]
  · simp [limV, limTo, updF, h]
theorem limV_373 (v r : Int) : limV (updF (updF (updF U0 3 true) 7 true) 7 false) (updF (updF (updF V0 3 v) 7 r) 7 0) = v := by simp [limV, limTo, updF]
theorem set_lit (b : Nat) (U : Nat → Bool) (V : Nat → Int) (k : Nat) (v : Int) (w : World) (h : w.rowIs b 66 64 (lcell U V)) (hk : k < 32) :
    Calls Try.prog 26 #[.pointer (some ⟨b, 0, none⟩), .int .i64 (k : Int), .int .u64 v] w fun e w' => e = .returned (.int .i64 0) ∧ w'.rowIs b 66 64 (lcell (updF U k true) (updF V k v)) ∧ w.grownBy w' (some b) :=
  (set_in b U V k v w h hk).mono fun e w' ⟨he, hr, hg⟩ => by
    have HC : inR (k : Int) = true := by simp [inR]; omega
    rw [HC] at he hr
    exact ⟨he, hr, hg⟩
theorem rem_lit (b : Nat) (U : Nat → Bool) (V : Nat → Int) (k : Nat) (w : World) (h : w.rowIs b 66 64 (lcell U V)) (hk : k < 32) (hu : U k = true) :
    Calls Try.prog 24 #[.pointer (some ⟨b, 0, none⟩), .int .i64 (k : Int)] w fun e w' => e = .returned (.int .i64 0) ∧ w'.rowIs b 66 64 (lcell (updF U k false) (updF V k 0)) ∧ w.grownBy w' (some b) :=
  (rem_in b U V k w h hk).mono fun e w' ⟨he, hr, hg⟩ => by
    have HC : inR (k : Int) = true := by simp [inR]; omega
    have HB : remB U (k : Int) = true := by rw [remB, HC, Int.toNat_natCast, hu]; rfl
    rw [HC, Int.toNat_natCast, hu] at he
    rw [HB] at hr
    exact ⟨he, hr, hg⟩
theorem row_below {w w' : World} {b t n B : Nat} {φ : Nat → Value} (h : w.rowIs b t n φ) (hb : Below B w w') (hB : w.heap.size ≤ B) : w'.rowIs b t n φ :=
  h.of_block (hb.block b (Nat.lt_of_lt_of_le h.lt hB))
theorem sel_yes {w : World} {A : Option Addr} {n : Nat} {f : Nat → St} (c : Nat) (x l : Int) (h : SlS w A n f) (hv : vld n f = true) :
    Calls Try.prog 16 #[.slice A n c, .int .u64 x, .int .u64 l] w fun e w' => e = .returned (.tuple #[.int .i64 (selTo f x l n : Nat), .int .i64 0]) ∧ Below w.heap.size w w' :=
  (sel_any A n c f x l w h).mono fun e w' ⟨he, hb⟩ => by rw [hv] at he; exact ⟨he, hb⟩

theorem set3 (b : Nat) (v : Int) (w : World) (h : w.rowIs b 66 64 (lcell U0 V0)) :
    Calls Try.prog 26 #[.pointer (some ⟨b, 0, none⟩), .int .i64 3, .int .u64 v] w fun e w' => e = .returned (.int .i64 0) ∧ w'.rowIs b 66 64 (lcell (updF U0 3 true) (updF V0 3 v)) ∧ w.grownBy w' (some b) := set_lit b U0 V0 3 v w h (by omega)
theorem set7 (b : Nat) (v r : Int) (w : World) (h : w.rowIs b 66 64 (lcell (updF U0 3 true) (updF V0 3 v))) :
    Calls Try.prog 26 #[.pointer (some ⟨b, 0, none⟩), .int .i64 7, .int .u64 r] w fun e w' => e = .returned (.int .i64 0) ∧ w'.rowIs b 66 64 (lcell (updF (updF U0 3 true) 7 true) (updF (updF V0 3 v) 7 r)) ∧ w.grownBy w' (some b) := set_lit b _ _ 7 r w h (by omega)
theorem rem7 (b : Nat) (v r : Int) (w : World) (h : w.rowIs b 66 64 (lcell (updF (updF U0 3 true) 7 true) (updF (updF V0 3 v) 7 r))) :
    Calls Try.prog 24 #[.pointer (some ⟨b, 0, none⟩), .int .i64 7] w fun e w' => e = .returned (.int .i64 0) ∧ w'.rowIs b 66 64 (lcell (updF (updF (updF U0 3 true) 7 true) 7 false) (updF (updF (updF V0 3 v) 7 r) 7 0)) ∧ w.grownBy w' (some b) := rem_lit b _ _ 7 w h (by omega) rfl
theorem limA (b : Nat) (v : Int) (w : World) (h : w.rowIs b 66 64 (lcell (updF U0 3 true) (updF V0 3 v))) :
    Calls Try.prog 28 #[.pointer (some ⟨b, 0, none⟩)] w fun e w' => e = .returned (.int .u64 v) ∧ Below w.heap.size w w' :=
  (lim_any b _ _ w h).mono fun e w' ⟨he, hb⟩ => ⟨by rw [he, limV_3], hb⟩
theorem limB (b : Nat) (v r : Int) (w : World) (h : w.rowIs b 66 64 (lcell (updF (updF U0 3 true) 7 true) (updF (updF V0 3 v) 7 r))) :
    Calls Try.prog 28 #[.pointer (some ⟨b, 0, none⟩)] w fun e w' => e = .returned (.int .u64 (if r < v then r else v)) ∧ Below w.heap.size w w' :=
  (lim_any b _ _ w h).mono fun e w' ⟨he, hb⟩ => ⟨by rw [he, limV_37], hb⟩
theorem limC (b : Nat) (v r : Int) (w : World) (h : w.rowIs b 66 64 (lcell (updF (updF (updF U0 3 true) 7 true) 7 false) (updF (updF (updF V0 3 v) 7 r) 7 0))) :
    Calls Try.prog 28 #[.pointer (some ⟨b, 0, none⟩)] w fun e w' => e = .returned (.int .u64 v) ∧ Below w.heap.size w w' :=
  (lim_any b _ _ w h).mono fun e w' ⟨he, hb⟩ => ⟨by rw [he, limV_373], hb⟩

set_option maxRecDepth 100000 in
set_option maxHeartbeats 2000000 in
theorem tig_walk (A : Option Addr) (m c : Nat) (g : Nat → St) (x0 y0 l0 r0 : Int) (w : World) (h : SlS w A m g) (hx : (Lit.int .u64 x0).wf = true) (hy : (Lit.int .u64 y0).wf = true) (hl : (Lit.int .u64 l0).wf = true) (hr : (Lit.int .u64 r0).wf = true) :
    Calls Try.prog 12 #[.slice A m c, .int .u64 x0, .int .u64 y0, .int .u64 l0, .int .u64 r0] w (LawPost w) := by
  have hm := h.len
  have hx := (u64_of_wf hx).1
  have hy := (u64_of_wf hy).1
  have hl := (u64_of_wf hl).1
  have hr := (u64_of_wf hr).1
  by_cases h20 : 20 < m
  · go_enter Try.func12, Try.ntmps12
    go_wp2_with fail
    refine (awake_any _).mono ?_
    rintro e w1 ⟨rfl, hb1⟩
    go_wp2
    go_ret
    exact ⟨rfl, hb1⟩
  · have ST := sta_any A m c g w h
    obtain ⟨hn1, hn7, -, -⟩ := stN_bd m
    have V := Lib.hid (stF_vld m g)
    go_enter Try.func12, Try.ntmps12
    go_wp2_with fail
    refine ST.mono ?_
    rintro e w1 ⟨G, rfl, hG, hS, B1⟩
    clear ST
    generalize stF m g = f at *
    generalize stN m = n at *
    have hGw := hS.lt hn1
    go_wp2_with fail
    refine (new_any w1).mono ?_
    rintro e w2 ⟨rfl, R2, hb2⟩
    have S2 := hS.below hb2 (Nat.le_refl _)
    have B2 := bel2 B1 hb2
    have hGb : G ≠ w1.heap.size := by omega
    have hwb : w.heap.size ≤ w1.heap.size := B1.size
    clear hS B1 hb2 hGw
    generalize w1.heap.size = b at *
    go_wp2_with fail
    refine (set3 b (l0 % 300) w2 R2).mono ?_
    rintro e w3 ⟨rfl, R3, hg3⟩
    have S3 := S2.grown hg3 hGb
    have B3 := bel_only B2 hg3 hwb
    clear S2 B2 R2 hg3
    go_wp2_with fail
    refine (limA b (l0 % 300) w3 R3).mono ?_
    rintro e w4 ⟨rfl, hb4⟩
    have S4 := S3.below hb4 (Nat.le_refl _)
    have R4 := row_below R3 hb4 (Nat.le_refl _)
    have B4 := bel2 B3 hb4
    clear S3 R3 B3 hb4
    go_wp2_with fail
    refine (sel_yes _ (x0 % 1500) (l0 % 300) S4 V.out).mono ?_
    rintro e w5 ⟨rfl, hb5⟩
    have S5 := S4.below hb5 (Nat.le_refl _)
    have R5 := row_below R4 hb5 (Nat.le_refl _)
    have B5 := bel2 B4 hb5
    clear S4 R4 B4 hb5
    go_wp2_with fail
    have z1 : 0 ≤ x0 % 1500 := by omega
    have z2 : x0 % 1500 < 1500 := by omega
    generalize x0 % 1500 = x at *
    have z3 : IntKind.u64.wrap (x + 1) = x + 1 := IntWalk.u64_in _ (by omega)
    have z4 : ((x + 1 : Int) == 0) = false := by simp; omega
    have z5 : ¬ (x + 1 : Int) = 0 := by omega
    have S5 : SlS w5.drew (some ⟨G, 0, none⟩) n f := S5.below (Below.refl _ _).drew (Nat.le_refl _)
    have R5 := R5.drew
    have B5 := B5.drew
    go_region_with (first | (go_at_call 28; refine (limA b (l0 % 300) _ R5).mono ?_; rintro e w6 ⟨rfl, hb6⟩) | (go_at_call 16; refine (sel_yes _ _ _ (S5.below hb6 (Nat.le_refl _)) V.out).mono ?_; rintro e w7 ⟨rfl, hb7⟩))
    have S7 := (S5.below hb6 (Nat.le_refl _)).below hb7 (Nat.le_refl _)
    have R7 := row_below (row_below R5 hb6 (Nat.le_refl _)) hb7 (Nat.le_refl _)
    have B7 := bel2 (bel2 B5 hb6) hb7
    clear S5 R5 B5 hb6 hb7 z3 z4 z5
    go_wp2_with fail
    refine (set7 b (l0 % 300) (r0 % 300) w7 R7).mono ?_
    rintro e w8 ⟨rfl, R8, hg8⟩
    have S8 := S7.grown hg8 hGb
    have B8 := bel_only B7 hg8 hwb
    clear S7 B7 R7 hg8
    go_wp2_with fail
    refine (limB b (l0 % 300) (r0 % 300) w8 R8).mono ?_
    rintro e w9 ⟨rfl, hb9⟩
    have S9 := S8.below hb9 (Nat.le_refl _)
    have R9 := row_below R8 hb9 (Nat.le_refl _)
    have B9 := bel2 B8 hb9
    clear S8 R8 B8 hb9
    have hq : (if r0 % 300 < l0 % 300 then r0 % 300 else l0 % 300) ≤ l0 % 300 := by split <;> omega
    generalize (if r0 % 300 < l0 % 300 then r0 % 300 else l0 % 300) = q at *
    go_wp2_with fail
    refine (sel_yes _ x q S9 V.out).mono ?_
    rintro e w10 ⟨rfl, hb10⟩
    have S10 := S9.below hb10 (Nat.le_refl _)
    have R10 := row_below R9 hb10 (Nat.le_refl _)
    have B10 := bel2 B9 hb10
    clear S9 R9 B9 hb10
    go_wp2_with fail
    refine (rem7 b (l0 % 300) (r0 % 300) w10 R10).mono ?_
    rintro e w11 ⟨rfl, R11, hg11⟩
    have S11 := S10.grown hg11 hGb
    have B11 := bel_only B10 hg11 hwb
    clear S10 B10 R10 hg11
    go_wp2_with fail
    refine (limC b (l0 % 300) (r0 % 300) w11 R11).mono ?_
    rintro e w12 ⟨rfl, hb12⟩
    have S12 := S11.below hb12 (Nat.le_refl _)
    have B12 := bel2 B11 hb12
    clear S11 R11 B11 hb12
    go_wp2_with fail
    refine (sel_yes _ x (l0 % 300) S12 V.out).mono ?_
    rintro e w13 ⟨rfl, hb13⟩
    have B13 := bel2 B12 hb13
    clear S12 B12 hb13
    have M1 := selTo_mono f x x (l0 % 300) q (Int.le_refl _) hq n
    have p0 : 0 ≤ y0 % (x + 1) := Int.emod_nonneg _ (by omega)
    have p1 : y0 % (x + 1) < x + 1 := Int.emod_lt_of_pos _ (by omega)
    have p2 : IntKind.u64.wrap (x - y0 % (x + 1)) ≤ x := by rw [IntWalk.u64_in _ (by omega)]; omega
    have M2 := selTo_mono f x (IntKind.u64.wrap (x - y0 % (x + 1))) (l0 % 300) (l0 % 300) p2 (Int.le_refl _) n
    generalize selTo f (IntKind.u64.wrap (x - y0 % (x + 1))) (l0 % 300) n = k2 at *
    generalize selTo f x (l0 % 300) n = k1 at *
    generalize selTo f x q n = k3 at *
    clear p0 p1 p2 hq
    go_wp2_with fail
    refine (awake_any _).mono ?_
    rintro e w14 ⟨rfl, hb14⟩
    go_wp2
    go_ret
    exact ⟨rfl, bel2 B13 hb14⟩
end Go.Proofs.Ytfbgkdjjfjlhhaa
