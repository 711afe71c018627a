/- ThermalTripsAgree. -/
import Derived.Test.YtopbfnnmgckikaaAwk
namespace Go.Proofs.Ytopbfnnmgckikaa
open Go.RowKit

def updS (f : Nat → St) (j : Nat) (X : St) (i : Nat) : St := if i = j then X else f i
theorem own_nil {w : World} {base t size n : Nat} {A : Option Addr} {c : Nat} {xs : List Value} (h : w.ownsRow base t size (.slice A n c) n xs) : A = none → n = 0 ∧ c = 0 := by
  rintro rfl
  rcases h.2 with ⟨e, h0⟩ | ⟨g, cap, cur, e, _⟩
  · injection e with _ _ e
    exact ⟨h0, e⟩
  · cases e
theorem sls_set {K : IntKind} {w : World} {G n j : Nat} {f : Nat → St} (X : St) (h : SlS K w (some ⟨G, 0, none⟩) n f) (hj : j < n) (hX : WfS K X) :
    SlS K (((w.setCell ⟨G, j * 3, none⟩ (.int K X.a)).setCell ⟨G, j * 3 + 1, none⟩ (.int K X.b)).setCell ⟨G, j * 3 + 2, none⟩ (.int K X.c)) (some ⟨G, 0, none⟩) n (updS f j X) := by
  rcases h.row with h0 | ⟨b, off, hA, hlt, hc⟩
  · omega
  · injection hA with hA
    injection hA with e1 e2
    subst e1 e2
    have ne : ∀ p q, p ≠ q → (⟨G, p, none⟩ : Addr) ≠ ⟨G, q, none⟩ := fun p q hpq e => by injection e with _ e; exact hpq e
    refine ⟨h.len, .inr ⟨G, 0, rfl, by simpa [World.setCell] using hlt, fun i hi => ?_⟩, fun i hi => ?_⟩
    · obtain ⟨c0, c1, c2⟩ := hc i hi
      obtain ⟨d0, d1, d2⟩ := hc j hj
      simp only [Nat.zero_add] at c0 c1 c2 d0 d1 d2 ⊢
      unfold updS
      by_cases e : i = j
      · subst e
        rw [if_pos rfl]
        refine ⟨?_, ?_, ?_⟩
        · rw [World.cell?_setCell_other _ _ _ _ (ne _ _ (by omega)), World.cell?_setCell_other _ _ _ _ (ne _ _ (by omega)), World.cell?_setCell_same _ _ _ d0]
        · have d1' : (w.setCell ⟨G, i * 3, none⟩ (.int K X.a)).cell? ⟨G, i * 3 + 1, none⟩ = some (.int K (f i).b) := by rw [World.cell?_setCell_other _ _ _ _ (ne _ _ (by omega)), d1]
          rw [World.cell?_setCell_other _ _ _ _ (ne _ _ (by omega)), World.cell?_setCell_same _ _ _ d1']
        · have d2' : ((w.setCell ⟨G, i * 3, none⟩ (.int K X.a)).setCell ⟨G, i * 3 + 1, none⟩ (.int K X.b)).cell? ⟨G, i * 3 + 2, none⟩ = some (.int K (f i).c) := by
            rw [World.cell?_setCell_other _ _ _ _ (ne _ _ (by omega)), World.cell?_setCell_other _ _ _ _ (ne _ _ (by omega)), d2]
          rw [World.cell?_setCell_same _ _ _ d2']
      · rw [if_neg e]
        refine ⟨?_, ?_, ?_⟩ <;> (rw [World.cell?_setCell_other _ _ _ _ (ne _ _ (by omega)), World.cell?_setCell_other _ _ _ _ (ne _ _ (by omega)), World.cell?_setCell_other _ _ _ _ (ne _ _ (by omega))]; assumption)
    · unfold updS
      split
      · exact hX
      · exact h.wf i hi
theorem tpF_wf (g : Nat → St) (i : Nat) : WfS .i64 (tpF g i) := by
  have q1 := (modOf_spec (g i).a 3 (by omega) (by omega)).2
  have q2 := (modOf_spec (g i).b 101 (by omega) (by omega)).2
  have q3 := (modOf_spec (g i).c 20 (by omega) (by omega)).2
  unfold tpF
  exact ⟨wf_i64_mk (x := 1 + (modOf (g i).a 3 : Int)) (by omega), wf_i64_mk (x := (modOf (g i).b 101 : Int) - 50) (by omega), wf_i64_mk (x := (modOf (g i).c 20 : Int)) (by omega)⟩
/-- Checks and zones of a list: what the law compares. -/
def NzV (ok : Bool) (v : Value) : Prop := ∃ p : Option Addr, v = .tuple #[.pointer p, .int .i64 (cod ok)] ∧ (p = none ↔ ok = false)
def NzQ (w : World) (ok : Bool) (e : Ending) (w' : World) : Prop := (∃ p : Option Addr, e = .returned (.tuple #[.pointer p, .int .i64 (cod ok)]) ∧ (p = none ↔ ok = false)) ∧ Below w.heap.size w w'
theorem nz_q (A : Option Addr) (n c : Nat) (f : Nat → St) (lv : Int) (w : World) (h : SlS .i64 w A n f) (hA : A = none → n = 0 ∧ c = 0) : Calls Try.prog 17 #[.slice A n c, .int .i64 lv] w (NzQ w (okZ n f lv)) :=
  (nz_any A n c f lv w h hA).mono fun e w' ⟨hb, hor⟩ => ⟨by
    rcases hor with ⟨h1, h2⟩ | ⟨h1, Z, O, TA, tc, h2, _⟩
    · exact ⟨none, by rw [h2, h1]; rfl, by simp [h1]⟩
    · exact ⟨_, by rw [h2, h1]; rfl, by simp [h1]⟩, hb⟩
theorem rz_q (A : Option Addr) (n c : Nat) (f : Nat → St) (lv : Int) (w : World) (h : SlS .i64 w A n f) : Calls Try.prog 18 #[.slice A n c, .int .i64 lv] w (NzQ w (okZ n f lv)) :=
  (rz_any A n c f lv w h).mono fun e w' ⟨hb, hor⟩ => ⟨by
    rcases hor with ⟨h1, h2⟩ | ⟨h1, Z, O, h2, _⟩
    · exact ⟨none, by rw [h2, h1]; rfl, by simp [h1]⟩
    · exact ⟨_, by rw [h2, h1]; rfl, by simp [h1]⟩, hb⟩
/-- What Trips leaves, as a slice of triples with a place of its own. -/
def TrQ (w : World) (m : Nat) (g : Nat → St) (e : Ending) (w' : World) : Prop :=
  ∃ A c, e = .returned (.slice A (tpN m) c) ∧ SlS .i64 w' A (tpN m) (tpF g) ∧ (A = none → tpN m = 0 ∧ c = 0) ∧ (∀ a, A = some a → a.off = 0 ∧ a.spot = none ∧ w.heap.size ≤ a.block ∧ a.block < w'.heap.size ∧ ∀ k, w'.frozen? ⟨a.block, k, none⟩ = false) ∧ Below w.heap.size w w'
theorem trips_q (A : Option Addr) (m c : Nat) (g : Nat → St) (w : World) (h : SlS .i64 w A m g) : Calls Try.prog 15 #[.slice A m c] w (TrQ w m g) :=
  (trips_any A m c g w h).mono fun e w' ⟨A', c', he, ho, hb⟩ => by
    obtain ⟨A2, c2, e2, hS, _, hg⟩ := sls_of_own ho (by unfold tpN; omega) (fun i _ => tpF_wf g i)
    injection e2 with e3 _ e4
    subst e3 e4
    refine ⟨A', c', he, hS, own_nil ho, fun a ha => ?_, hb⟩
    subst ha
    obtain ⟨e5, h1, h2, h3⟩ := hg a.block rfl
    injection e5 with e5
    exact ⟨by rw [e5], by rw [e5], h1, h2, h3⟩
set_option maxRecDepth 100000 in
set_option maxHeartbeats 8000000 in
theorem tag_any (A : Option Addr) (m c : Nat) (g : Nat → St) (lv kk : Int) (X : St) (w : World) (h : SlS .i64 w A m g ∧ m ≤ c ∧ c ≤ 9223372036854775807 ∧ (A = none → c = 0)) (_hlv : (Lit.int .i64 lv).wf = true) (_hkk : (Lit.int .i64 kk).wf = true) (hX : WfS .i64 X) :
    Calls Try.prog 4 #[.slice A m c, .int .i64 lv, .int .i64 kk, .agg #[.int .i64 X.a, .int .i64 X.b, .int .i64 X.c]] w (LawPost w) := by
  obtain ⟨h, hmc, hc63, hA0⟩ := h
  have hA : A = none → m = 0 ∧ c = 0 := fun e => by have := hA0 e; omega
  have hl := h.len
  obtain ⟨x0, x1, x2⟩ := X
  obtain ⟨wx0, wx1, wx2⟩ := hX
  have wx1' := wx1
  have wx2' := wx2
  have HA := Lib.hid hA
  have B0 : Below w.heap.size w (w.alloc (Obj.cells #[.int .i64 x0, .int .i64 x1, .int .i64 x2] 34)) := bal (Below.refl _ _) _
  have S0 := Lib.hid (h.below B0 (Nat.le_refl _))
  obtain ⟨e0, e1, e2⟩ := box3 .i64 34 w x0 x1 x2
  have hL0 : w.heap.size < (w.alloc (Obj.cells #[.int .i64 x0, .int .i64 x1, .int .i64 x2] 34)).heap.size := by simp
  have z0 : (w.alloc (Obj.cells #[.int .i64 x0, .int .i64 x1, .int .i64 x2] 34)).frozen? ⟨w.heap.size, 0, none⟩ = false := by simp [go_sem]
  have HB0 := Lib.hid B0
  have HBA : Hid (∀ a, A = some a → 1 ≤ m → a.block < w.heap.size) := fun a e hm => by subst e; exact sls_blk h hm
  clear h hA hA0 B0
  by_cases h20 : 20 < m
  · clear e0 e1 e2 z0
    go_enter Try.func4, Try.ntmps4
    go_wp2_with fail
    generalize w.alloc (Obj.cells #[.int .i64 x0, .int .i64 x1, .int .i64 x2] 34) = w1 at *
    refine (awake_any w1).mono ?_
    rintro e w2 ⟨rfl, hb⟩
    have B2 := Lib.hid (bel2 HB0.out hb)
    clear hb
    go_wp2
    go_ret
    exact ⟨rfl, B2.out⟩
  have PT := trips_q A m c g _ S0.out
  go_enter Try.func4, Try.ntmps4
  go_wp2_with fail
  generalize hLw : w.heap.size = L at *
  have HLW := Lib.hid hLw
  clear hLw
  generalize w.alloc (Obj.cells #[.int .i64 x0, .int .i64 x1, .int .i64 x2] 34) = w1 at *
  refine PT.mono ?_
  clear PT
  rintro e w2 ⟨A2, c2, rfl, hS2, hN2, hP2, hb⟩
  have hn6 : tpN m ≤ 6 := by unfold tpN; omega
  have HN2 : Hid (A2 = none → tpN m = 0 ∧ c2 = 0) := hN2
  have BW2 : Hid (Below w.heap.size w w2) := bel2 (by rw [HLW.out]; exact HB0.out) hb
  have h0 : tpN m ≤ 0 ∨ 0 < tpN m := by omega
  generalize hn2 : tpN m = n2 at *
  clear hn2
  generalize tpF g = f1 at *
  rcases h0 with h0 | h0
  case inl =>
    have SR := Lib.hid (S0.out.below hb (Nat.le_refl _))
    have SL := Lib.hid hS2
    have BW := BW2
    clear hS2 hN2 hP2 hb e0 e1 e2 z0 hL0 S0 HB0 BW2
    go_upto_region 7 with fail
    generalize w2 = W at *
    generalize f1 = f2 at *
    have hq := (modOf_spec lv 70 (by omega) (by omega)).2
    have P1 := nz_q A m c g lv W SR.out HA.out
    go_wp2_with fail
    refine P1.mono ?_
    clear P1
    rintro e w4 ⟨⟨p1, rfl, hp1⟩, hb⟩
    have SR4 := Lib.hid (SR.out.below hb (Nat.le_refl _))
    have SL4 := Lib.hid (SL.out.below hb (Nat.le_refl _))
    have B4 := Lib.hid (bel2 BW.out hb)
    have HP1 := Lib.hid hp1
    clear hb SR SL BW hp1
    have P2 := rz_q A m c g lv w4 SR4.out
    go_wp2_with fail
    refine P2.mono ?_
    clear P2
    rintro e w5 ⟨⟨p2, rfl, _⟩, hb⟩
    have SR5 := Lib.hid (SR4.out.below hb (Nat.le_refl _))
    have SL5 := Lib.hid (SL4.out.below hb (Nat.le_refl _))
    have B5 := Lib.hid (bel2 B4.out hb)
    clear hb SR4 SL4 B4
    go_wp2_with fail
    refine (mod_any lv 70 (by omega) (by omega) _).mono ?_
    rintro e w5' ⟨rfl, rfl⟩
    have P3 := nz_q A2 n2 c2 f2 ((modOf lv 70 : Nat) - 2) w5 SL5.out HN2.out
    go_wp2_with fail
    refine P3.mono ?_
    clear P3
    rintro e w6 ⟨⟨p3, rfl, hp3⟩, hb⟩
    have SR6 := Lib.hid (SR5.out.below hb (Nat.le_refl _))
    have SL6 := Lib.hid (SL5.out.below hb (Nat.le_refl _))
    have B6 := Lib.hid (bel2 B5.out hb)
    have HP3 := Lib.hid hp3
    clear hb SR5 SL5 B5 hp3
    go_wp2_with fail
    refine (mod_any lv 70 (by omega) (by omega) _).mono ?_
    rintro e w6' ⟨rfl, rfl⟩
    have P4 := rz_q A2 n2 c2 f2 ((modOf lv 70 : Nat) - 2) w6 SL6.out
    go_wp2_with fail
    refine P4.mono ?_
    clear P4
    rintro e w7 ⟨⟨p4, rfl, _⟩, hb⟩
    have SR7 := Lib.hid (SR6.out.below hb (Nat.le_refl _))
    have SL7 := Lib.hid (SL6.out.below hb (Nat.le_refl _))
    have B7 := Lib.hid (bel2 B6.out hb)
    clear hb SR6 SL6 B6
    have P5 := chk_any A m c g w7 SR7.out
    go_wp2_with fail
    refine P5.mono ?_
    clear P5
    rintro e w8 ⟨rfl, hb⟩
    have SR8 := Lib.hid (SR7.out.below hb (Nat.le_refl _))
    have SL8 := Lib.hid (SL7.out.below hb (Nat.le_refl _))
    have B8 := Lib.hid (bel2 B7.out hb)
    clear hb SR7 SL7 B7
    have P6 := chkR_any A m c g w8 SR8.out
    go_wp2_with fail
    refine P6.mono ?_
    clear P6
    rintro e w9 ⟨rfl, hb⟩
    have SL9 := Lib.hid (SL8.out.below hb (Nat.le_refl _))
    have B9 := Lib.hid (bel2 B8.out hb)
    clear hb SR8 SL8 B8
    have P7 := chk_any A2 n2 c2 f2 w9 SL9.out
    generalize vT m g = va at *
    go_wp2_with fail
    refine P7.mono ?_
    clear P7
    rintro e w10 ⟨rfl, hb⟩
    have SL10 := Lib.hid (SL9.out.below hb (Nat.le_refl _))
    have B10 := Lib.hid (bel2 B9.out hb)
    clear hb SL9 B9
    have P8 := chkR_any A2 n2 c2 f2 w10 SL10.out
    go_wp2_with fail
    refine P8.mono ?_
    clear P8
    rintro e w11 ⟨rfl, hb⟩
    have B11 := Lib.hid (bel2 B10.out hb)
    clear hb SL10 B10
    have PA := awake_any w11
    have HPA : Hid (p1 = none ↔ okZ m g lv = false) := HP1
    have HPB : Hid (p3 = none ↔ okZ n2 f2 ((modOf lv 70 : Nat) - 2) = false) := HP3
    generalize okZ m g lv = a1 at *
    generalize okZ n2 f2 ((modOf lv 70 : Nat) - 2) = a2 at *
    generalize vT n2 f2 = vb at *
    have h1 : (p1 = none ∧ a1 = false) ∨ (∃ q, p1 = some q ∧ a1 = true) := by
      cases p1 with
      | none => exact .inl ⟨rfl, HPA.out.1 rfl⟩
      | some q => exact .inr ⟨q, rfl, by cases a1 with
        | true => rfl
        | false => exact absurd (HPA.out.2 rfl) (by simp)⟩
    have h3 : (p3 = none ∧ a2 = false) ∨ (∃ q, p3 = some q ∧ a2 = true) := by
      cases p3 with
      | none => exact .inl ⟨rfl, HPB.out.1 rfl⟩
      | some q => exact .inr ⟨q, rfl, by cases a2 with
        | true => rfl
        | false => exact absurd (HPB.out.2 rfl) (by simp)⟩
    clear HP1 HP3 HPA HPB
    have k0 : cod true = 0 := rfl
    have k1 : cod false = 1 := rfl
    rcases h1 with ⟨rfl, rfl⟩ | ⟨q1, rfl, rfl⟩ <;> rcases h3 with ⟨rfl, rfl⟩ | ⟨q3, rfl, rfl⟩
    all_goals
      go_wp2_with fail
      refine PA.mono ?_
      rintro e w12 ⟨rfl, hb⟩
      have B12 := Lib.hid (bel2 B11.out hb)
      clear hb PA
      go_wp2
      go_ret
      exact ⟨rfl, B12.out⟩
  case inr =>
    obtain ⟨G, rfl⟩ : ∃ G, A2 = some ⟨G, 0, none⟩ := by
      cases A2 with
      | none => have := hN2 rfl; omega
      | some a => obtain ⟨a1, a2, _⟩ := hP2 a rfl; exact ⟨a.block, by rw [← a1, ← a2]⟩
    obtain ⟨_, _, hGB, hGs, hGf⟩ := hP2 _ rfl
    have hq5 := (modOf_spec x0 5 (by omega) (by omega)).2
    have hqk := (modOf_spec kk n2 (by omega) (by omega)).2
    have hGL : G ≠ L := by have := hGB; simp only at this; omega
    have hLG : L < G := by have := hGB; simp only at this; omega
    have c0 := (hb.cell (p := ⟨L, 0, none⟩) hL0).trans e0
    have c1 := (hb.cell (p := ⟨L, 1, none⟩) hL0).trans e1
    have c2' := (hb.cell (p := ⟨L, 2, none⟩) hL0).trans e2
    have zf := (hb.frozen (p := ⟨L, 0, none⟩) hL0).trans z0
    have hL2 := Nat.lt_of_lt_of_le hL0 hb.size
    have SR2 := Lib.hid (S0.out.below hb (Nat.le_refl _))
    have SL2 := Lib.hid hS2
    clear hS2 hN2 hP2 hb e0 e1 e2 z0 hL0 S0 HB0
    go_wp2_with fail
    refine (mod_any x0 5 (by omega) (by omega) _).mono ?_
    rintro e w2' ⟨rfl, rfl⟩
    go_upto_region 6 with fail
    have cL := Chg.set w2 L 0 (.int .i64 (modOf x0 5 : Nat))
    have SR3 : SlS .i64 (w2.setCell ⟨L, 0, none⟩ (.int .i64 (modOf x0 5 : Nat))) A m g := SR2.out.chg cL (fun a e hm ha => by have := HBA.out a e hm; omega)
    have SL3 : SlS .i64 (w2.setCell ⟨L, 0, none⟩ (.int .i64 (modOf x0 5 : Nat))) (some ⟨G, 0, none⟩) n2 f1 := SL2.out.chg cL (fun a e _ ha => by injection e with e; subst e; exact hGL ha)
    have B3 : Below w.heap.size w (w2.setCell ⟨L, 0, none⟩ (.int .i64 (modOf x0 5 : Nat))) := BW2.out.setCell (p := ⟨L, 0, none⟩) (by rw [HLW.out]; exact Nat.le_refl _) _
    have d0 := World.cell?_setCell_same w2 ⟨L, 0, none⟩ (.int .i64 (modOf x0 5 : Nat)) c0
    have d1 : (w2.setCell ⟨L, 0, none⟩ (.int .i64 (modOf x0 5 : Nat))).cell? ⟨L, 1, none⟩ = some (.int .i64 x1) := (World.cell?_setCell_other _ _ _ _ (by simp)).trans c1
    have d2 : (w2.setCell ⟨L, 0, none⟩ (.int .i64 (modOf x0 5 : Nat))).cell? ⟨L, 2, none⟩ = some (.int .i64 x2) := (World.cell?_setCell_other _ _ _ _ (by simp)).trans c2'
    have gf : ∀ k, (w2.setCell ⟨L, 0, none⟩ (.int .i64 (modOf x0 5 : Nat))).frozen? ⟨G, k, none⟩ = false := fun k => by rw [World.frozen?_setCell]; exact hGf k
    have hG3 : G < (w2.setCell ⟨L, 0, none⟩ (.int .i64 (modOf x0 5 : Nat))).heap.size := by simp; exact hGs
    have hL3 : L < (w2.setCell ⟨L, 0, none⟩ (.int .i64 (modOf x0 5 : Nat))).heap.size := by simp; exact hL2
    generalize w2.setCell ⟨L, 0, none⟩ (.int .i64 (modOf x0 5 : Nat)) = W2 at *
    clear c0 c1 c2' zf hL2 hGs hGf SR2 SL2 BW2 cL
    have M := Lib.hid (fun (w' : World) => mod_q kk n2 (by omega) (by omega) w')
    have wfX : Hid (WfS .i64 ⟨modOf x0 5, x1, x2⟩) := ⟨wf_i64_mk (x := (modOf x0 5 : Int)) (by omega), wx1', wx2'⟩
    generalize modOf kk n2 = j at *
    generalize modOf x0 5 = y0 at *
    have hS := SL3.row
    rcases hS with hS | ⟨b', o', e', _, hc⟩
    · omega
    injection e' with e'
    injection e' with e1 e2
    subst e1 e2
    obtain ⟨a0, a1, a2⟩ := hc j hqk
    simp only [Nat.zero_add] at a0 a1 a2
    have g0 := gf (j * 3)
    have g1 := gf (j * 3 + 1)
    have g2 := gf (j * 3 + 2)
    have SR := Lib.hid SR3
    have SL := Lib.hid (sls_set (j := j) ⟨(y0 : Int), x1, x2⟩ SL3 hqk wfX.out)
    have BW3 := Lib.hid B3
    clear gf hc SR3 SL3 B3
    have hjb : (j : Int) < n2 := by omega
    go_still_tail 7, (by kernel_rfl)
    still_call (M.out _)
    repeat still_step
    refine wpStill_nil ?_
    go_upto_region 7 with fail
    have C3 : Chg (fun k => k = G) W2 ((((W2.setCell ⟨G, j * 3, none⟩ (.int .i64 (y0 : Int))).setCell ⟨G, j * 3 + 1, none⟩ (.int .i64 x1)).setCell ⟨G, j * 3 + 2, none⟩ (.int .i64 x2)).drew) :=
      (((Chg.set W2 G (j * 3) (.int .i64 (y0 : Int))).trans (Chg.set _ G (j * 3 + 1) (.int .i64 x1))).trans (Chg.set _ G (j * 3 + 2) (.int .i64 x2))).drew
    have SR' := SR.out.chg C3 (fun a e hm ha => by have := HBA.out a e hm; omega)
    have SL' := SL.out.chg ((Chg.refl (fun _ => False) _).drew) (fun _ _ _ x => x)
    have hGw : w.heap.size ≤ G := by rw [HLW.out]; omega
    have BW' := Below.chg BW3.out C3 BW3.out.size (fun k e => by subst e; exact hGw)
    simp only at SL'
    generalize (((W2.setCell ⟨G, j * 3, none⟩ (.int .i64 (y0 : Int))).setCell ⟨G, j * 3 + 1, none⟩ (.int .i64 x1)).setCell ⟨G, j * 3 + 2, none⟩ (.int .i64 x2)).drew = W at *
    have SR0 := SR
    have SL0 := SL
    clear SR SL SR0 SL0 C3 a0 a1 a2 d0 d1 d2 g0 g1 g2 hG3 hL3 BW3 M wfX
    have SR := Lib.hid SR'
    have SL := Lib.hid SL'
    have BW := Lib.hid BW'
    clear SR' SL' BW'
    generalize updS f1 j ⟨(y0 : Int), x1, x2⟩ = f2 at *
    generalize hA2 : (some ⟨G, 0, none⟩ : Option Addr) = A2 at *
    clear hA2
    have hq := (modOf_spec lv 70 (by omega) (by omega)).2
    have P1 := nz_q A m c g lv W SR.out HA.out
    go_wp2_with fail
    refine P1.mono ?_
    clear P1
    rintro e w4 ⟨⟨p1, rfl, hp1⟩, hb⟩
    have SR4 := Lib.hid (SR.out.below hb (Nat.le_refl _))
    have SL4 := Lib.hid (SL.out.below hb (Nat.le_refl _))
    have B4 := Lib.hid (bel2 BW.out hb)
    have HP1 := Lib.hid hp1
    clear hb SR SL BW hp1
    have P2 := rz_q A m c g lv w4 SR4.out
    go_wp2_with fail
    refine P2.mono ?_
    clear P2
    rintro e w5 ⟨⟨p2, rfl, _⟩, hb⟩
    have SR5 := Lib.hid (SR4.out.below hb (Nat.le_refl _))
    have SL5 := Lib.hid (SL4.out.below hb (Nat.le_refl _))
    have B5 := Lib.hid (bel2 B4.out hb)
    clear hb SR4 SL4 B4
    go_wp2_with fail
    refine (mod_any lv 70 (by omega) (by omega) _).mono ?_
    rintro e w5' ⟨rfl, rfl⟩
    have P3 := nz_q A2 n2 c2 f2 ((modOf lv 70 : Nat) - 2) w5 SL5.out HN2.out
    go_wp2_with fail
    refine P3.mono ?_
    clear P3
    rintro e w6 ⟨⟨p3, rfl, hp3⟩, hb⟩
    have SR6 := Lib.hid (SR5.out.below hb (Nat.le_refl _))
    have SL6 := Lib.hid (SL5.out.below hb (Nat.le_refl _))
    have B6 := Lib.hid (bel2 B5.out hb)
    have HP3 := Lib.hid hp3
    clear hb SR5 SL5 B5 hp3
    go_wp2_with fail
    refine (mod_any lv 70 (by omega) (by omega) _).mono ?_
    rintro e w6' ⟨rfl, rfl⟩
    have P4 := rz_q A2 n2 c2 f2 ((modOf lv 70 : Nat) - 2) w6 SL6.out
    go_wp2_with fail
    refine P4.mono ?_
    clear P4
    rintro e w7 ⟨⟨p4, rfl, _⟩, hb⟩
    have SR7 := Lib.hid (SR6.out.below hb (Nat.le_refl _))
    have SL7 := Lib.hid (SL6.out.below hb (Nat.le_refl _))
    have B7 := Lib.hid (bel2 B6.out hb)
    clear hb SR6 SL6 B6
    have P5 := chk_any A m c g w7 SR7.out
    go_wp2_with fail
    refine P5.mono ?_
    clear P5
    rintro e w8 ⟨rfl, hb⟩
    have SR8 := Lib.hid (SR7.out.below hb (Nat.le_refl _))
    have SL8 := Lib.hid (SL7.out.below hb (Nat.le_refl _))
    have B8 := Lib.hid (bel2 B7.out hb)
    clear hb SR7 SL7 B7
    have P6 := chkR_any A m c g w8 SR8.out
    go_wp2_with fail
    refine P6.mono ?_
    clear P6
    rintro e w9 ⟨rfl, hb⟩
    have SL9 := Lib.hid (SL8.out.below hb (Nat.le_refl _))
    have B9 := Lib.hid (bel2 B8.out hb)
    clear hb SR8 SL8 B8
    have P7 := chk_any A2 n2 c2 f2 w9 SL9.out
    generalize vT m g = va at *
    go_wp2_with fail
    refine P7.mono ?_
    clear P7
    rintro e w10 ⟨rfl, hb⟩
    have SL10 := Lib.hid (SL9.out.below hb (Nat.le_refl _))
    have B10 := Lib.hid (bel2 B9.out hb)
    clear hb SL9 B9
    have P8 := chkR_any A2 n2 c2 f2 w10 SL10.out
    go_wp2_with fail
    refine P8.mono ?_
    clear P8
    rintro e w11 ⟨rfl, hb⟩
    have B11 := Lib.hid (bel2 B10.out hb)
    clear hb SL10 B10
    have PA := awake_any w11
    have HPA : Hid (p1 = none ↔ okZ m g lv = false) := HP1
    have HPB : Hid (p3 = none ↔ okZ n2 f2 ((modOf lv 70 : Nat) - 2) = false) := HP3
    generalize okZ m g lv = a1 at *
    generalize okZ n2 f2 ((modOf lv 70 : Nat) - 2) = a2 at *
    generalize vT n2 f2 = vb at *
    have h1 : (p1 = none ∧ a1 = false) ∨ (∃ q, p1 = some q ∧ a1 = true) := by
      cases p1 with
      | none => exact .inl ⟨rfl, HPA.out.1 rfl⟩
      | some q => exact .inr ⟨q, rfl, by cases a1 with
        | true => rfl
        | false => exact absurd (HPA.out.2 rfl) (by simp)⟩
    have h3 : (p3 = none ∧ a2 = false) ∨ (∃ q, p3 = some q ∧ a2 = true) := by
      cases p3 with
      | none => exact .inl ⟨rfl, HPB.out.1 rfl⟩
      | some q => exact .inr ⟨q, rfl, by cases a2 with
        | true => rfl
        | false => exact absurd (HPB.out.2 rfl) (by simp)⟩
    clear HP1 HP3 HPA HPB
    have k0 : cod true = 0 := rfl
    have k1 : cod false = 1 := rfl
    rcases h1 with ⟨rfl, rfl⟩ | ⟨q1, rfl, rfl⟩ <;> rcases h3 with ⟨rfl, rfl⟩ | ⟨q3, rfl, rfl⟩
    all_goals
      go_wp2_with fail
      refine PA.mono ?_
      rintro e w12 ⟨rfl, hb⟩
      have B12 := Lib.hid (bel2 B11.out hb)
      clear hb PA
      go_wp2
      go_ret
      exact ⟨rfl, B12.out⟩
end Go.Proofs.Ytopbfnnmgckikaa
