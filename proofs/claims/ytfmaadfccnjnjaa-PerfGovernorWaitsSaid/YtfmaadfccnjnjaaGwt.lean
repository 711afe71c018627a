/- The walk of PerfGovernorWaits. -/
import Derived.Test.YtfmaadfccnjnjaaGwm
import Derived.Deep.RegionHeld3
namespace Go.Proofs.Ytfmaadfccnjnjaa
open Go.RowKit
attribute [local go_sem ↓] Go.wp_at_zero Go.wp_at_succ

theorem keepB {L : Nat} {a b d : Int} {w1 W : World} (hs : L < w1.heap.size) (h0 : w1.cell? ⟨L, 0, none⟩ = some (.int .i64 a)) (h1 : w1.cell? ⟨L, 1, none⟩ = some (.int .i64 b)) (h2 : w1.cell? ⟨L, 2, none⟩ = some (.int .i64 d)) (hb : Below w1.heap.size w1 W) :
    W.cell? ⟨L, 0, none⟩ = some (.int .i64 a) ∧ W.cell? ⟨L, 1, none⟩ = some (.int .i64 b) ∧ W.cell? ⟨L, 2, none⟩ = some (.int .i64 d) ∧ Below w1.heap.size w1 W :=
  ⟨(hb.cell (by exact hs)).trans h0, (hb.cell (by exact hs)).trans h1, (hb.cell (by exact hs)).trans h2, hb⟩
/-- What the first region of a law leaves: a table, and parameters in a new block. -/
def Reg3 (w : World) (m : Nat) (g : Nat → St) (up dn sp : Int) (t q : Value) (wx : World) : Prop :=
  ∃ G c Q, t = .slice (some ⟨G, 0, none⟩) (tbN m) c ∧ q = .pointer (some ⟨Q, 0, none⟩) ∧ SlS wx (some ⟨G, 0, none⟩) (tbN m) (tbF m g) ∧ Q < wx.heap.size ∧
    wx.cell? ⟨Q, 0, none⟩ = some (.int .i64 (pup up : Nat)) ∧ wx.cell? ⟨Q, 1, none⟩ = some (.int .i64 (pdn up dn : Nat)) ∧ wx.cell? ⟨Q, 2, none⟩ = some (.int .i64 (psp sp : Nat)) ∧ Below w.heap.size w wx
theorem reg3_mk {w wx : World} {m : Nat} {g : Nat → St} {up dn sp : Int} {G c Q : Nat} (hS : SlS wx (some ⟨G, 0, none⟩) (tbN m) (tbF m g)) (hB : Below w.heap.size w wx) (hQ : w.heap.size ≤ Q) (hG : G ≠ Q) (hq : ∃ x y z, QB (.cells #[x, y, z] 44) Q wx) :
    Reg3 w m g up dn sp (.slice (some ⟨G, 0, none⟩) (tbN m) c) (.pointer (some ⟨Q, 0, none⟩)) (((wx.setCell ⟨Q, 0, none⟩ (.int .i64 (pup up : Nat))).setCell ⟨Q, 1, none⟩ (.int .i64 (pdn up dn : Nat))).setCell ⟨Q, 2, none⟩ (.int .i64 (psp sp : Nat))) := by
  obtain ⟨x, y, z, hq⟩ := hq
  have hs : Q < wx.heap.size := (Array.getElem?_eq_some_iff.1 hq).1
  have h1 := heap_setCell_same wx Q 0 _ _ (.int .i64 (pup up : Nat)) hq
  have h2 := heap_setCell_same _ Q 1 _ _ (.int .i64 (pdn up dn : Nat)) h1
  have h3 := heap_setCell_same _ Q 2 _ _ (.int .i64 (psp sp : Nat)) h2
  refine ⟨G, c, Q, rfl, rfl, ?_, by simpa using hs, ?_, ?_, ?_, ((hB.setCell (p := ⟨Q, 0, none⟩) hQ _).setCell (p := ⟨Q, 1, none⟩) hQ _).setCell (p := ⟨Q, 2, none⟩) hQ _⟩
  · exact ((hS.grown (g_store wx Q 0 _) hG).grown (g_store _ Q 1 _) hG).grown (g_store _ Q 2 _) hG
  all_goals (unfold World.cell?; simp only [h3]; rfl)
theorem reg3_mk1 {w wx : World} {m : Nat} {g : Nat → St} {up dn sp : Int} {G c : Nat} (hS : SlS wx (some ⟨G, 0, none⟩) (tbN m) (tbF m g)) (hB : Below w.heap.size w wx) :
    Reg3 w m g up dn sp (.slice (some ⟨G, 0, none⟩) (tbN m) c) (.pointer (some ⟨wx.heap.size, 0, none⟩)) (wx.alloc (.cells #[.int .i64 (pup up : Nat), .int .i64 (pdn up dn : Nat), .int .i64 (psp sp : Nat)] 44)) := by
  refine ⟨G, c, _, rfl, rfl, hS.below (bal (Below.refl _ _) _) (Nat.le_refl _), by simp, ?_, ?_, ?_, bal hB _⟩ <;> simp [go_sem]
set_option maxRecDepth 100000 in
set_option maxHeartbeats 8000000 in
theorem gwt_walk (A : Option Addr) (m c : Nat) (g : Nat → St) (X : GP) (load : Int) (w : World) (h : SlS w A m g) (_hp : True) (_hl : (Lit.int .i64 load).wf = true) :
    Calls Try.prog 9 #[.slice A m c, .agg #[.int .i64 X.up, .int .i64 X.dn, .int .i64 X.sp], .int .i64 load] w (LawPost w) := by
  obtain ⟨up, dn, sp⟩ := X
  simp only
  have hm := h.len
  have B1 := bal (Below.refl w.heap.size w) (Obj.cells #[.int .i64 up, .int .i64 dn, .int .i64 sp] 44)
  have x0 : (w.alloc (Obj.cells #[.int .i64 up, .int .i64 dn, .int .i64 sp] 44)).cell? ⟨w.heap.size, 0, none⟩ = some (.int .i64 up) := by simp [go_sem]
  have x1 : (w.alloc (Obj.cells #[.int .i64 up, .int .i64 dn, .int .i64 sp] 44)).cell? ⟨w.heap.size, 1, none⟩ = some (.int .i64 dn) := by simp [go_sem]
  have x2 : (w.alloc (Obj.cells #[.int .i64 up, .int .i64 dn, .int .i64 sp] 44)).cell? ⟨w.heap.size, 2, none⟩ = some (.int .i64 sp) := by simp [go_sem]
  have hsz : w.heap.size < (w.alloc (Obj.cells #[.int .i64 up, .int .i64 dn, .int .i64 sp] 44)).heap.size := by simp
  have S1 := h.below B1 (Nat.le_refl _)
  by_cases h20 : 20 < m
  · clear x0 x1 x2
    go_enter Try.func9, Try.ntmps9
    go_wp2_with fail
    generalize w.alloc (Obj.cells #[.int .i64 up, .int .i64 dn, .int .i64 sp] 44) = w1 at *
    refine (awake_any _).mono ?_
    rintro e w2 ⟨rfl, hb1⟩
    go_wp2
    go_ret
    exact ⟨rfl, bel2 B1 hb1⟩
  have hAll := Lib.hid (fun (W : World) (hW : Below (w.alloc (Obj.cells #[.int .i64 up, .int .i64 dn, .int .i64 sp] 44)).heap.size (w.alloc (Obj.cells #[.int .i64 up, .int .i64 dn, .int .i64 sp] 44)) W) => tab_any A m c g W (S1.below hW (Nat.le_refl _)))
  have PA := Lib.hid (fun W => par_any up dn sp W)
  clear h S1
  go_enter Try.func9, Try.ntmps9
  go_upto_region 3 with fail
  go_cut [7, 8] (fun t q wx => Reg3 w m g up dn sp t q wx)
  case first =>
    generalize w.alloc (Obj.cells #[.int .i64 up, .int .i64 dn, .int .i64 sp] 44) = w1 at *
    have BH := Lib.hid B1
    clear B1
    go_region_held3 (fun w' => w'.cell? ⟨w.heap.size, 0, none⟩ = some (.int .i64 up) ∧ w'.cell? ⟨w.heap.size, 1, none⟩ = some (.int .i64 dn) ∧ w'.cell? ⟨w.heap.size, 2, none⟩ = some (.int .i64 sp) ∧ Below w1.heap.size w1 w')
      (((try go_split_ands); first | exact keepB hsz x0 x1 x2 (Below.refl _ _).drew | exact keepB hsz x0 x1 x2 (bal (Below.refl _ _) _).drew | exact keepB hsz x0 x1 x2 (bel2 (Below.refl _ _).drew hbt) | (refine keepB hsz x0 x1 x2 (bel2 ?_ hbp); assumption) | (refine keepB hsz x0 x1 x2 (bel2 ?_ hbt); assumption) | (refine keepB hsz x0 x1 x2 (bal ?_ _); assumption) | exact keepB hsz x0 x1 x2 (bal (bel2 (bel2 (Below.refl _ _).drew hbt) hbp) _) | (refine keepB hsz x0 x1 x2 (Below.setCell (Below.setCell (Below.setCell ?_ ?_ _) ?_ _) ?_ _) <;> first | assumption | (show _ ≤ _; simp only; omega))))
      ((first | (go_at_call 13; go_split_ands; refine (hAll.out _ (by assumption)).mono ?_; rintro e w9 ⟨Gt, ct, rfl, hGt, hSt, hbt⟩; have zt := hbt.size; (try simp at zt); have zg := hSt.lt (tbN_bd m).1; have zh : _ ≤ Gt := hGt; (try simp at zh); (first | (have hqt := qb_newd hbt; obtain ⟨q0, q1, q2, z0, z1, z2⟩ := qb_facts hqt) | (have hqt := qb_new hbt; obtain ⟨q0, q1, q2, z0, z1, z2⟩ := qb_facts hqt) | (have hqt := qb_keep hqp hbt; obtain ⟨q0, q1, q2, z0, z1, z2⟩ := qb_facts hqt) | skip)) | (go_at_call 26; go_split_ands; refine (PA.out _).mono ?_; rintro e w8 ⟨rfl, hbp⟩; have zp := hbp.size; (try simp at zp); (first | (have hqp := qb_newd hbp; obtain ⟨q0, q1, q2, z0, z1, z2⟩ := qb_facts hqp) | (have hqp := qb_new hbp; obtain ⟨q0, q1, q2, z0, z1, z2⟩ := qb_facts hqp) | (have hqp := qb_keep hqt hbp; obtain ⟨q0, q1, q2, z0, z1, z2⟩ := qb_facts hqp) | skip))))
    all_goals (go_wp2; go_meet)
    · exact reg3_mk1 (hSt.below hbp (Nat.le_refl _)) (bel2 BH.out (bel2 (bel2 (Below.refl _ _).drew hbt) hbp))
    · refine reg3_mk ((hSt.below (bal (Below.refl _ _) _) (Nat.le_refl _)).below hbp (Nat.le_refl _)) (bel2 BH.out (bel2 (bal (bel2 (Below.refl _ _).drew hbt) _) hbp)) ?_ ?_ ⟨_, _, _, hqp⟩
      · have := BH.out.size; omega
      · omega
    · refine reg3_mk (hSt.below hbp (Nat.le_refl _)) (bel2 BH.out (bel2 (bel2 (bal (Below.refl _ _) _).drew hbt) hbp)) ?_ ?_ ⟨_, _, _, hqp⟩
      · have := BH.out.size; omega
      · omega
  case rest =>
    obtain ⟨G, ct, Q, rfl, rfl, S0, hQ, q0, q1, q2, BW⟩ := hcut
    clear B1 hsz x0 x1 x2 hAll PA
    have hwc := BW.size
    obtain ⟨hn1, hn8, -, -⟩ := tbN_bd m
    have HV := Lib.hid (tbF_vld m g)
    have FB := Lib.hid (fun i => tbF_bd m g i)
    have PK := p_ok (tbN m) up dn sp hn1
    generalize tbF m g = f at *
    generalize tbN m = n at *
    generalize pdn up dn = D at *
    generalize pup up = U at *
    generalize psp sp = P at *
    have hPK := PK
    obtain ⟨⟨k1, k2⟩, k3, ⟨k4, k5⟩, -, -⟩ := PK
    simp only at k1 k2 k3 k4 k5
    by_cases hD : D = 0
    · have hD' : ((D : Int) == 0) = true := by simp [hD]
      have HD := Lib.hid hD
      clear hD
      go_wp2_with fail
      refine (awake_any _).mono ?_
      rintro e w2 ⟨rfl, hb1⟩
      go_wp2
      go_ret
      exact ⟨rfl, bel2 BW hb1⟩
    have hD' : ((D : Int) == 0) = false := by simp; omega
    by_cases hU : U = 100
    · have hU' : ((U : Int) == 100) = true := by simp [hU]
      have HD := Lib.hid hU
      clear hU
      go_wp2_with fail
      refine (awake_any _).mono ?_
      rintro e w2 ⟨rfl, hb1⟩
      go_wp2
      go_ret
      exact ⟨rfl, bel2 BW hb1⟩
    have hU' : ((U : Int) == 100) = false := by simp; omega
    have hxD := (modOf_spec load D (by omega) (by omega)).2
    go_wp2_with fail
    refine (mod_any load D (by omega) (by omega) _).mono ?_
    rintro e w' ⟨rfl, rfl⟩
    generalize modOf load D = x at *
    clear hD' hU'
    go_wp2_with fail
    refine (new_good G n ct f ⟨U, D, P, 0, n - 1, 0, 0⟩ wc S0 HV.out hPK).mono ?_
    rintro e w2 ⟨L, T, k, rfl, hL, hT, hTL, ST, R, b2⟩
    clear hPK
    have hGw := S0.lt hn1
    have hQL : Q ≠ L := by omega
    have hGL : G ≠ L := by omega
    rw [← b2.cell (by exact hQ)] at q0 q1 q2
    have S0 := S0.below b2 (Nat.le_refl _)
    have hQ : Q < w2.heap.size := by have := b2.size; omega
    have BW := bel2 BW b2
    clear b2
    obtain ⟨p, rfl⟩ : ∃ p, n = p + 1 := ⟨n - 1, by omega⟩
    simp only [Nat.add_sub_cancel] at R
    have hv : ∀ i, i < p + 1 → (f i).l ≤ 1099511627776 := fun i hi => by have := FB.out i; omega
    have SM := smp_good L T (p + 1) k ⟨U, D, P, 0, p, 0, 0⟩ f 100 w2 R ST ⟨⟨k1, k2⟩, k3, ⟨k4, k5⟩, by simp only; omega, by simp only; omega, by simp only; omega, by simp only; omega⟩ (by omega) hTL hv
    rw [smp_high (show 100 > U by omega)] at SM
    simp only at SM
    have hwL : w.heap.size ≤ L := by omega
    have ST := Lib.hid ST
    have S0 := Lib.hid S0
    have BW := Lib.hid BW
    have HQ := Lib.hid (And.intro q0 (And.intro q1 q2))
    have hv := Lib.hid hv
    clear R q0 q1 q2
    go_wp2_with fail
    refine SM.mono ?_
    rintro e w3 ⟨rfl, R3, g3⟩
    clear SM
    have R3 := Lib.hid R3
    have G3 := Lib.hid g3
    clear g3
    have Q2 : w3.cell? ⟨Q, 2, none⟩ = some (.int .i64 (P : Nat)) := (cut_mem G3.out hQ hQL 2).trans HQ.out.2.2
    go_wp2_with fail
    go_loopw [14] (fun i wr => ∃ j : Nat, j + 1 ≤ P ∧ i = .int .i64 ((j : Int) + 1) ∧ wr.rowIs L 65 8 (gcell T (p + 1) k ⟨U, D, P, 0, p, p, j⟩) ∧ w2.grownBy wr (some L)) (fun i _ => P - (intOf i).toNat)
    case atStart => exact ⟨0, k4, rfl, R3.out, G3.out⟩
    case round =>
      clear Q2
      obtain ⟨j, hj, rfl, R, GR⟩ := hrel
      have Q2 : wr.cell? ⟨Q, 2, none⟩ = some (.int .i64 (P : Nat)) := (cut_mem GR hQ hQL 2).trans HQ.out.2.2
      have STr := ST.out.grown GR hTL
      by_cases hlt : j + 1 < P
      · have SM := smp_good L T (p + 1) k ⟨U, D, P, 0, p, p, j⟩ f x wr R STr ⟨⟨k1, k2⟩, k3, ⟨k4, k5⟩, by simp only; omega, by simp only; omega, by simp only; omega, by simp only; omega⟩ (by omega) hTL hv.out
        rw [smp_wait (by simp only; omega) (by simp only; omega) (by simp only; omega)] at SM
        simp only at SM
        have GR := Lib.hid GR
        have i1 : (j : Int) + 1 < P := by omega
        clear R STr
        go_wp2_with fail
        refine SM.mono ?_
        rintro e w4 ⟨rfl, R4, g4⟩
        clear SM
        have R4 := Lib.hid R4
        have G4 := Lib.hid (g_then GR.out g4)
        clear g4
        go_wp2
        go_roundw
        case rel => exact ⟨j + 1, by omega, by go_num, R4.out, G4.out⟩
        case measure => simp [intOf]; omega
      · have hP : P = j + 1 := by omega
        have SM := smp_good L T (p + 1) k ⟨U, D, P, 0, p, p, j⟩ f x wr R STr ⟨⟨k1, k2⟩, k3, ⟨k4, k5⟩, by simp only; omega, by simp only; omega, by simp only; omega, by simp only; omega⟩ (by omega) hTL hv.out
        rw [smp_low (by simp only; omega) (by simp only; omega) (by simp only; omega)] at SM
        simp only at SM
        have u0 := ((S0.out.wf p (by omega)).1).1
        have v0 := hv.out p (by omega)
        obtain ⟨z1, z2, z3, z4⟩ := suf_spec f U (x * (f p).l) 0 p (by omega) (mul_le (by omega) u0)
        obtain ⟨m1, m2⟩ := mul_bd (show x ≤ 100 by omega) u0 v0
        generalize suf f U (x * (f p).l) 0 p = N at *
        have Z4 := Lib.hid z4
        have GR := Lib.hid GR
        have i1 : ¬ (j : Int) + 1 < P := by omega
        clear R STr z4
        go_wp2_with fail
        refine SM.mono ?_
        rintro e w4 ⟨rfl, -, g4⟩
        clear SM Q2
        have G4 := g_then GR.out g4
        have Q0 : w4.cell? ⟨Q, 0, none⟩ = some (.int .i64 (U : Nat)) := (cut_mem G4 hQ hQL 0).trans HQ.out.1
        have S4 := S0.out.grown G4 hGL
        have B4 := Lib.hid (bel_only BW.out G4 hwL)
        obtain ⟨d0, -, -⟩ := S4.cells (show p < p + 1 by omega)
        obtain ⟨e0, -, -⟩ := S4.cells (show N < p + 1 by omega)
        have un := ((S0.out.wf N (by omega)).1).1
        have vn := hv.out N (by omega)
        obtain ⟨m3, m4⟩ := mul_bd k2 un vn
        clear g4 G4 G3 GR R3
        have Z4 := Lib.hid (fun j h => Z4.out j (by omega) h)
        have NZ : Hid (N = 0 ∨ ∃ N', N = N' + 1) := by
          cases N with
          | zero => exact .inl rfl
          | succ N' => exact .inr ⟨N', rfl⟩
        generalize hW : (x : Int) * (f p).l = W at *
        generalize hF : (f p).l = F at *
        generalize hV : (U : Int) * (f N).l = V at *
        generalize hE : (f N).l = E at *
        have i2 : (p : Int) < (p : Int) + 1 := by omega
        have i3 : (N : Int) < (p : Int) + 1 := by omega
        have i4 : (N : Int) ≤ p := by omega
        have z0 : (0 : Int) ≤ N := by omega
        have n4 : ¬ p < N := by omega
        go_upto_region 20 with fail
        have y1 : IntKind.u64.wrap (x : Int) = (x : Int) := IntWalk.u64_in _ (by omega)
        have y2 : IntKind.u64.wrap (U : Int) = (U : Int) := IntWalk.u64_in _ (by omega)
        have y3 : IntKind.u64.wrap W = W := IntWalk.u64_in _ (by omega)
        have y4 : IntKind.u64.wrap V = V := IntWalk.u64_in _ (by omega)
        go_quiet (fail)
        have Y := Lib.hid (And.intro y1 (And.intro y2 y3))
        clear y1 y2 y3 y4
        go_upto_region 22 with fail
        generalize hW4 : w4.drewN nq = w5 at *
        have B5 := Lib.hid (hW4 ▸ below_drewN B4.out nq)
        have d0 : w5.cell? ⟨G, p * 3, none⟩ = some (.int .u64 F) := by rw [← hW4]; exact d0
        have q0 : w5.cell? ⟨Q, 0, none⟩ = some (.int .i64 (U : Nat)) := by rw [← hW4]; exact Q0
        have S5 : SlS w5 (some ⟨G, 0, none⟩) (p + 1) f := by rw [← hW4]; exact S4.below (below_drewN (Below.refl _ _) nq) (Nat.le_refl _)
        clear hW4 Q0 e0 S4 B4
        rcases NZ.out with h0 | ⟨N', hN⟩
        · have h0c : (N : Int) = 0 := by omega
          have H0 := Lib.hid h0
          have AW := Lib.hid (fun (W : World) => awake_any W)
          have B5k := Lib.hid B5.out.drew
          clear S5 h0 hW hF hV hE d0 q0 B5
          refine wp_region_noPanic ?_
          refine wp_region_held_drew (S := fun w' => Below w5.drew.heap.size w5.drew w') (by kernel_rfl) (Below.refl _ _) (fun hHeld => ?_)
          refine wpAnyH_take (i := 0) (v := ?v0) (by simp only [List.getElem?_toArray, List.getElem?_cons_zero]; rfl) (by kernel_rfl) (by kernel_rfl) (by kernel_rfl) (fun _ _ _ h => h) (Or.inl ⟨by rfl, ?y0⟩) hHeld ?_
          case y0 => (intro w hSw; go_simp <;> with_reducible rfl)
          simp only [Act.put, List.setIfInBounds_toArray, List.set_cons_zero, List.set_cons_succ]
          refine wpAnyH_take (i := 1) (v := ?v1) (by simp only [List.getElem?_toArray, List.getElem?_cons_succ, List.getElem?_cons_zero]; rfl) (by kernel_rfl) (by kernel_rfl) (by kernel_rfl) (fun _ _ _ h => h) (Or.inl ⟨by rfl, ?y1⟩) hHeld ?_
          case y1 => (intro w hSw; go_simp <;> with_reducible rfl)
          simp only [Act.put, List.setIfInBounds_toArray, List.set_cons_zero, List.set_cons_succ]
          refine wpAnyH_take (i := 2) (v := ?v2) (by simp only [List.getElem?_toArray, List.getElem?_cons_succ, List.getElem?_cons_zero]; rfl) (by kernel_rfl) (by kernel_rfl) (by kernel_rfl) (fun _ _ _ h => h) (Or.inl ⟨by rfl, ?y2⟩) hHeld ?_
          case y2 => (intro w hSw; go_simp <;> with_reducible rfl)
          simp only [Act.put, List.setIfInBounds_toArray, List.set_cons_zero, List.set_cons_succ]
          refine wpAnyH_take (i := 3) (by simp only [List.getElem?_toArray, List.getElem?_cons_succ, List.getElem?_cons_zero]; rfl) (by kernel_rfl) (by kernel_rfl) (by kernel_rfl) (fun _ _ _ h => h) (Or.inr ⟨by rfl, rfl⟩) hHeld ?_
          simp only [Act.put, List.setIfInBounds_toArray, List.set_cons_zero, List.set_cons_succ]
          refine wpAnyH_take (i := 4) (by simp only [List.getElem?_toArray, List.getElem?_cons_succ, List.getElem?_cons_zero]; rfl) (by kernel_rfl) (by kernel_rfl) (by kernel_rfl) (fun _ _ _ h => h) (Or.inr ⟨by rfl, rfl⟩) hHeld ?_
          simp only [Act.put, List.setIfInBounds_toArray, List.set_cons_zero, List.set_cons_succ]
          refine wpAnyH_take (i := 5) (by simp only [List.getElem?_toArray, List.getElem?_cons_succ, List.getElem?_cons_zero]; rfl) (by kernel_rfl) (by kernel_rfl) (by kernel_rfl) (fun _ _ _ h => h) (Or.inr ⟨by rfl, rfl⟩) hHeld ?_
          simp only [Act.put, List.setIfInBounds_toArray, List.set_cons_zero, List.set_cons_succ]
          refine wpAnyH_take (i := 6) (by simp only [List.getElem?_toArray, List.getElem?_cons_succ, List.getElem?_cons_zero]; rfl) (by kernel_rfl) (by kernel_rfl) (by kernel_rfl) (fun _ _ _ h => h) (Or.inr ⟨by rfl, rfl⟩) hHeld ?_
          simp only [Act.put, List.setIfInBounds_toArray, List.set_cons_zero, List.set_cons_succ]
          refine wpAnyH_take (i := 7) (by simp only [List.getElem?_toArray, List.getElem?_cons_succ, List.getElem?_cons_zero]; rfl) (by kernel_rfl) (by kernel_rfl) (by kernel_rfl) (fun _ _ _ h => h) (Or.inr ⟨by rfl, rfl⟩) hHeld ?_
          simp only [Act.put, List.setIfInBounds_toArray, List.set_cons_zero, List.set_cons_succ]
          refine wpAnyH_take (i := 8) (by simp only [List.getElem?_toArray, List.getElem?_cons_succ, List.getElem?_cons_zero]; rfl) (by kernel_rfl) (by kernel_rfl) (by kernel_rfl) (fun _ _ _ h => h) (Or.inr ⟨by rfl, rfl⟩) hHeld ?_
          simp only [Act.put, List.setIfInBounds_toArray, List.set_cons_zero, List.set_cons_succ]
          refine wpAnyH_take (i := 9) (by simp only [List.getElem?_toArray, List.getElem?_cons_succ, List.getElem?_cons_zero]; rfl) (by kernel_rfl) (by kernel_rfl) (by kernel_rfl) (fun _ _ _ h => h) (Or.inr ⟨by rfl, rfl⟩) hHeld ?_
          simp only [Act.put, List.setIfInBounds_toArray, List.set_cons_zero, List.set_cons_succ]
          refine wpAnyH_take (i := 10) (by simp only [List.getElem?_toArray, List.getElem?_cons_succ, List.getElem?_cons_zero]; rfl) (by kernel_rfl) (by kernel_rfl) (by kernel_rfl) (fun _ _ _ h => h) (Or.inr ⟨by rfl, rfl⟩) hHeld ?_
          simp only [Act.put, List.setIfInBounds_toArray, List.set_cons_zero, List.set_cons_succ]
          refine wpAnyH_take (i := 11) (by simp only [List.getElem?_toArray, List.getElem?_cons_succ, List.getElem?_cons_zero]; rfl) (by kernel_rfl) (by kernel_rfl) (by kernel_rfl) (fun _ _ _ h => h) (Or.inr ⟨by rfl, rfl⟩) hHeld ?_
          simp only [Act.put, List.setIfInBounds_toArray, List.set_cons_zero, List.set_cons_succ]
          refine wpAnyH_take (i := 12) (by simp only [List.getElem?_toArray, List.getElem?_cons_succ, List.getElem?_cons_zero]; rfl) (by kernel_rfl) (by kernel_rfl) (by kernel_rfl) (fun _ _ _ h => h) (Or.inr ⟨by rfl, rfl⟩) hHeld ?_
          simp only [Act.put, List.setIfInBounds_toArray, List.set_cons_zero, List.set_cons_succ]
          refine wpAnyH_take (i := 13) (by simp only [List.getElem?_toArray, List.getElem?_cons_succ, List.getElem?_cons_zero]; rfl) (by kernel_rfl) (by kernel_rfl) (by kernel_rfl) (fun _ _ _ h => h) (Or.inr ⟨by rfl, rfl⟩) hHeld ?_
          simp only [Act.put, List.setIfInBounds_toArray, List.set_cons_zero, List.set_cons_succ]
          refine wpAnyH_take (i := 14) (by simp only [List.getElem?_toArray, List.getElem?_cons_succ, List.getElem?_cons_zero]; rfl) (by kernel_rfl) (by kernel_rfl) (by kernel_rfl) (fun _ _ _ h => h) (Or.inr ⟨by rfl, rfl⟩) hHeld ?_
          simp only [Act.put, List.setIfInBounds_toArray, List.set_cons_zero, List.set_cons_succ]
          refine wpAnyH_take (i := 15) (by simp only [List.getElem?_toArray, List.getElem?_cons_succ, List.getElem?_cons_zero]; rfl) (by kernel_rfl) (by kernel_rfl) (by kernel_rfl) (fun _ _ _ h => h) (Or.inr ⟨by rfl, rfl⟩) hHeld ?_
          simp only [Act.put, List.setIfInBounds_toArray, List.set_cons_zero, List.set_cons_succ]
          refine wpAnyH_take (i := 16) (by simp only [List.getElem?_toArray, List.getElem?_cons_succ, List.getElem?_cons_zero]; rfl) (by kernel_rfl) (by kernel_rfl) (by kernel_rfl) (fun _ _ _ h => h) (Or.inr ⟨by rfl, rfl⟩) hHeld ?_
          simp only [Act.put, List.setIfInBounds_toArray, List.set_cons_zero, List.set_cons_succ]
          refine wpAnyH_take (i := 17) (by simp only [List.getElem?_toArray, List.getElem?_cons_succ, List.getElem?_cons_zero]; rfl) (by kernel_rfl) (by kernel_rfl) (by kernel_rfl) (fun _ _ _ h => h) (Or.inr ⟨by rfl, rfl⟩) hHeld ?_
          simp only [Act.put, List.setIfInBounds_toArray, List.set_cons_zero, List.set_cons_succ]
          refine wpAnyH_take (i := 18) (by simp only [List.getElem?_toArray, List.getElem?_cons_succ, List.getElem?_cons_zero]; rfl) (by kernel_rfl) (by kernel_rfl) (by kernel_rfl) (fun _ _ _ h => h) (Or.inr ⟨by rfl, rfl⟩) hHeld ?_
          simp only [Act.put, List.setIfInBounds_toArray, List.set_cons_zero, List.set_cons_succ]
          refine wpAnyH_take (i := 19) (by simp only [List.getElem?_toArray, List.getElem?_cons_succ, List.getElem?_cons_zero]; rfl) (by kernel_rfl) (by kernel_rfl) (by kernel_rfl) (fun _ _ _ h => h) (Or.inr ⟨by rfl, rfl⟩) hHeld ?_
          simp only [Act.put, List.setIfInBounds_toArray, List.set_cons_zero, List.set_cons_succ]
          refine wpAnyH_take (i := 20) (by simp only [List.getElem?_toArray, List.getElem?_cons_succ, List.getElem?_cons_zero]; rfl) (by kernel_rfl) (by kernel_rfl) (by kernel_rfl) (fun _ _ _ h => h) (Or.inr ⟨by rfl, rfl⟩) hHeld ?_
          simp only [Act.put, List.setIfInBounds_toArray, List.set_cons_zero, List.set_cons_succ]
          refine wpAnyH_take (i := 21) (by simp only [List.getElem?_toArray, List.getElem?_cons_succ, List.getElem?_cons_zero]; rfl) (by kernel_rfl) (by kernel_rfl) (by kernel_rfl) (fun _ _ _ h => h) (Or.inr ⟨by rfl, rfl⟩) hHeld ?_
          simp only [Act.put, List.setIfInBounds_toArray, List.set_cons_zero, List.set_cons_succ]
          refine wpAnyH_take (i := 22) (v := ?v22) (by simp only [List.getElem?_toArray, List.getElem?_cons_succ, List.getElem?_cons_zero]; rfl) (by kernel_rfl) (by kernel_rfl) (by kernel_rfl) (fun _ _ _ h => h) (Or.inl ⟨by rfl, ?y22⟩) hHeld ?_
          case y22 => (intro w hSw; go_simp <;> with_reducible rfl)
          simp only [Act.put, List.setIfInBounds_toArray, List.set_cons_zero, List.set_cons_succ]
          refine wpAnyH_take (i := 23) (v := ?v23) (by simp only [List.getElem?_toArray, List.getElem?_cons_succ, List.getElem?_cons_zero]; rfl) (by kernel_rfl) (by kernel_rfl) (by kernel_rfl) (fun _ _ _ h => h) (Or.inl ⟨by rfl, ?y23⟩) hHeld ?_
          case y23 => (intro w hSw; go_simp <;> with_reducible rfl)
          simp only [Act.put, List.setIfInBounds_toArray, List.set_cons_zero, List.set_cons_succ]
          refine wpAnyH_ready (rs := [24]) (by kernel_rfl) (by simp) ?_
          refine AllReadyH.cons (by simp only [List.getElem?_toArray, List.getElem?_cons_succ, List.getElem?_cons_zero]; rfl) (fun K hK => ?_) ?_
          · go_simp
            go_at_call 12
            refine (AW.out _).mono ?_
            rintro e w9 ⟨rfl, hb9⟩
            go_wp2_with fail
            refine hK.out _ _ ?_ (fun hHeld => ?_)
            · exact hb9
            · clear hK K
              refine wpAnyH_take (i := 25) (v := ?v25) (by simp only [List.getElem?_toArray, List.getElem?_cons_succ, List.getElem?_cons_zero]; rfl) (by kernel_rfl) (by kernel_rfl) (by kernel_rfl) (fun _ _ _ h => h) (Or.inl ⟨by rfl, ?y25⟩) hHeld ?_
              case y25 => (intro w hSw; go_simp <;> with_reducible rfl)
              simp only [Act.put, List.setIfInBounds_toArray, List.set_cons_zero, List.set_cons_succ]
              refine wpAnyH_take (i := 26) (v := ?v26) (by simp only [List.getElem?_toArray, List.getElem?_cons_succ, List.getElem?_cons_zero]; rfl) (by kernel_rfl) (by kernel_rfl) (by kernel_rfl) (fun _ _ _ h => h) (Or.inl ⟨by rfl, ?y26⟩) hHeld ?_
              case y26 => (intro w hSw; go_simp <;> with_reducible rfl)
              simp only [Act.put, List.setIfInBounds_toArray, List.set_cons_zero, List.set_cons_succ]
              refine wpAnyH_done (by kernel_rfl) ?_ _
              refine NoPanic.normal ?_
              go_wp2
              go_ret
              exact ⟨rfl, bel2 B5k.out hb9⟩
          · exact AllReadyH.nil
        · obtain ⟨e0, -, -⟩ := S5.cells (show N' < p + 1 by omega)
          have un' := ((S0.out.wf N' (by omega)).1).1
          have vn' := hv.out N' (by omega)
          obtain ⟨m5, m6⟩ := mul_bd k2 un' vn'
          have z5 := Z4.out N' (by omega)
          have h0c : ¬ (N : Int) = 0 := by omega
          have h0a : ((N : Int) == 0) = false := by simp; omega
          have i6 : (N' : Int) < (p : Int) + 1 := by omega
          have i7 : (0 : Int) ≤ N' := by omega
          have I5 : Hid (IntKind.i64.wrap ((N : Int) - 1) = (N' : Int)) := by show _ = _; rw [IntWalk.i64_in _ (by omega)]; omega
          have Y4 : Hid (IntKind.u64.wrap ((U : Int) * (f N').l) = (U : Int) * (f N').l) := IntWalk.u64_in _ (by omega)
          have HN := Lib.hid hN
          have AW := Lib.hid (fun (W : World) => awake_any W)
          have B5k := Lib.hid B5.out.drew
          have Hlt : Hid (G < w5.heap.size ∧ Q < w5.heap.size) := ⟨S5.lt (by omega), by
            rcases Nat.lt_or_ge Q w5.heap.size with h | h
            · exact h
            · unfold World.cell? at q0; rw [Array.getElem?_eq_none h] at q0; cases q0⟩
          generalize hV' : (U : Int) * (f N').l = V' at *
          generalize hE' : (f N').l = E' at *
          clear S5 hV hE B5 hN
          have KP : Hid (∀ w' : World, Below w5.drew.heap.size w5.drew w' → w'.cell? ⟨G, p * 3, none⟩ = some (.int .u64 F) ∧ w'.cell? ⟨G, N' * 3, none⟩ = some (.int .u64 E') ∧ w'.cell? ⟨Q, 0, none⟩ = some (.int .i64 (U : Nat))) := fun w' hb =>
            ⟨(hb.cell (show G < w5.heap.size from Hlt.out.1)).trans d0, (hb.cell (show G < w5.heap.size from Hlt.out.1)).trans e0, (hb.cell (show Q < w5.heap.size from Hlt.out.2)).trans q0⟩
          obtain ⟨y1, y2, y3⟩ := Y.out
          have y4 := Y4.out
          have i5 := I5.out
          go_region_held3 (fun w' => w'.cell? ⟨G, p * 3, none⟩ = some (.int .u64 F) ∧ w'.cell? ⟨G, N' * 3, none⟩ = some (.int .u64 E') ∧ w'.cell? ⟨Q, 0, none⟩ = some (.int .i64 (U : Nat)))
            (first | exact KP.out _ (Below.refl _ _) | exact KP.out _ hb9)
            ((go_at_call 12; refine (AW.out _).mono ?_; rintro e w9 ⟨rfl, hb9⟩))
          clear y1 y2 y3 y4 i5
          go_wp2
          go_ret
          exact ⟨rfl, bel2 B5k.out hb9⟩
end Go.Proofs.Ytfmaadfccnjnjaa
