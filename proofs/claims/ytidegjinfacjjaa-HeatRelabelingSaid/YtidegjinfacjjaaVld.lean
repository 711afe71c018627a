/- valid, of a valid model. -/
import Derived.Test.YtidegjinfacjjaaMap
import Derived.Test.YtidegjinfacjjaaTmp
namespace Go.Proofs.Ytidegjinfacjjaa
open Go.ChangeShapes Go.WideShapes Go.ChangeAt Go.RowKit Go.Deep Go.Joins Go.Maps

def ldK (D : Nat → Dm) (K : Nat → Lk) : Nat → Nat → Int
  | 0, i => (D i).a
  | k + 1, i => ldK D K k i + (if (K k).a = i then (K k).c else 0) + (if (K k).b = i then (K k).c else 0)
def prL (K : Nat → Lk) (l : Nat) : Int × Int := (if (K l).a ≤ (K l).b then (K l).a else (K l).b, if (K l).a ≤ (K l).b then (K l).b else (K l).a)
structure Va (n : Nat) (D : Nat → Dm) (m : Nat) (K : Nat → Lk) (s : Int) : Prop where
  n1 : 1 ≤ n
  n2 : n ≤ 16
  m1 : m ≤ 1000
  s : -16777216 ≤ s ∧ s ≤ 16777216
  d : ∀ i, i < n → 1 ≤ (D i).a ∧ (D i).a ≤ 16777216 ∧ (D i).c ≤ 16777216
  l : ∀ l, l < m → ∃ p q : Nat, (K l).a = p ∧ (K l).b = q ∧ p < n ∧ q < n ∧ p ≠ q ∧ 1 ≤ (K l).c ∧ (K l).c ≤ 16777216
  pr : ∀ l l2, l < l2 → l2 < m → prL K l ≠ prL K l2
  ld : ∀ i, i < n → ldK D K m i ≤ (D i).c
theorem Va.b {n : Nat} {D : Nat → Dm} {m : Nat} {K : Nat → Lk} {s : Int} (v : Va n D m K s) (k i : Nat) (hk : k ≤ m) (hi : i < n) : 1 ≤ ldK D K k i ∧ ldK D K k i ≤ 16777216 * (2 * (k : Int) + 1) := by
  induction k with
  | zero => have := v.d i hi; show 1 ≤ (D i).a ∧ (D i).a ≤ _; omega
  | succ k ih =>
    have := ih (by omega)
    obtain ⟨p, q, e1, e2, _, _, _, h1, h2⟩ := v.l k (by omega)
    unfold ldK
    split <;> split <;> omega
/-- The load's row: n numbers in block Y. -/
structure Lr (w wr : World) (Y n : Nat) (T : Nat → Int) : Prop where
  bel : Below w.heap.size w wr
  lY : Y < wr.heap.size
  Y0 : w.heap.size ≤ Y
  at_ : ∀ j, j < n → wr.cell? ⟨Y, j, none⟩ = some (.int .i64 (T j))
  frz : ∀ j, wr.frozen? ⟨Y, j, none⟩ = false
theorem Lr.below {w wr wx : World} {Y n : Nat} {T : Nat → Int} (h : Lr w wr Y n T) (hb : Below wr.heap.size wr wx) : Lr w wx Y n T :=
  ⟨bel2 h.bel hb, Nat.lt_of_lt_of_le h.lY hb.size, h.Y0, fun j hj => (hb.cell (by exact h.lY)).trans (h.at_ j hj), fun j => (hb.frozen (by exact h.lY)).trans (h.frz j)⟩
theorem Lr.chg {S : Nat → Prop} {w wr wx : World} {Y n : Nat} {T : Nat → Int} (h : Lr w wr Y n T) (hc : Chg S wr wx) (hY : ¬ S Y) (hS : ∀ b, S b → w.heap.size ≤ b) : Lr w wx Y n T := by
  have e := hc.block Y h.lY hY
  exact ⟨Below.chg h.bel hc h.bel.size hS, Nat.lt_of_lt_of_le h.lY hc.size, h.Y0, fun j hj => (blk_cell e _).trans (h.at_ j hj), fun j => (blk_frz e j).trans (h.frz j)⟩
theorem Lr.set {w wr : World} {Y n : Nat} {T : Nat → Int} (h : Lr w wr Y n T) (k : Nat) (hk : k < n) (x : Int) : Lr w (wr.setCell ⟨Y, k, none⟩ (.int .i64 x)) Y n (fun j => if j = k then x else T j) := by
  have hc := Chg.set wr Y k (.int .i64 x)
  refine ⟨Below.chg h.bel hc h.bel.size (fun b hb => by have := h.Y0; omega), Nat.lt_of_lt_of_le h.lY hc.size, h.Y0, fun j hj => ?_, fun j => (set_frz ..).trans (h.frz j)⟩
  show _ = some (Value.int .i64 (if j = k then x else T j))
  by_cases e : j = k
  · subst e; rw [if_pos rfl]; exact set_same _ _ _ _ _ (h.at_ j hk)
  · rw [if_neg e]; exact (set_off _ _ _ _ _ e).trans (h.at_ j hj)
theorem Lr.congr {w wr : World} {Y n : Nat} {T U : Nat → Int} (h : Lr w wr Y n T) (e : ∀ j, j < n → U j = T j) : Lr w wr Y n U := ⟨h.bel, h.lY, h.Y0, fun j hj => by rw [e j hj]; exact h.at_ j hj, h.frz⟩
theorem tg_lr {w wr : World} {Y n : Nat} {T : Nat → Int} (h : Tg w wr Y n n T) : Lr w wr Y n T := ⟨h.bel, h.lY, h.Y0, h.done, h.frz⟩
theorem wfN (p : Nat) (h : p < 1000) : (Lit.int .i64 (p : Int)).wf = true := WalkArith.wf_i64 (by omega)
theorem ld_two {D : Nat → Dm} {K : Nat → Lk} {k p q : Nat} (hp : (K k).a = p) (hq : (K k).b = q) (hpq : p ≠ q) (j : Nat) :
    ldK D K (k + 1) j = (if j = q then ldK D K k q + (K k).c else if j = p then ldK D K k p + (K k).c else ldK D K k j) := by
  show ldK D K k j + (if (K k).a = (j : Int) then (K k).c else 0) + (if (K k).b = (j : Int) then (K k).c else 0) = _
  rw [hp, hq]
  by_cases a : j = q
  · subst a
    rw [if_pos rfl, if_neg (by omega), if_pos rfl]
    omega
  · rw [if_neg a]
    by_cases b : j = p
    · subst b
      rw [if_pos rfl, if_pos rfl, if_neg (by omega)]
      omega
    · rw [if_neg b, if_neg (by omega), if_neg (by omega)]
      omega
set_option maxRecDepth 20000 in
set_option maxHeartbeats 16000000 in
theorem vld_any {n m : Nat} {D : Nat → Dm} {K : Nat → Lk} {s : Int} (v : Va n D m K s) (A : Option Addr) (ca : Nat) (B : Option Addr) (cb : Nat) (w : World) (hA : Fl w A 2 n (dV D)) (hB : Fl w B 3 m (lV K)) : Calls Try.prog 29 #[.slice A n ca, .slice B m cb, .int .i64 s] w (QuP w (.bool true)) := by
  have V := Lib.hid v
  have HA := Lib.hid hA
  have HB := Lib.hid hB
  have n1 := v.n1
  have n2 := v.n2
  have m1 := v.m1
  obtain ⟨s1, s2⟩ := v.s
  obtain ⟨b, off, rfl, -⟩ := hA.addr n1
  have hmk := run_make_row' (P := Try.prog) 24 2 _ 8 Try.underlying24 info2 rfl .i64 .i64 n (by omega) (by omega)
  have hmm := @run_makeMap Try.prog
  have TG := Lib.hid (tg_made w n 2 (fun i => (D i).a))
  clear v hA hB
  go_enter Try.func29, Try.ntmps29
  go_wp2_with fail
  clear hmk
  generalize w.alloc (.cells (madeCells #[.int .i64 0] n) 2) = w0 at *
  generalize hY : w.heap.size = Y at *
  have HY := Lib.hid hY
  clear hY
  go_loopw [37] (fun vi wr => ∃ i : Nat, vi = .int .i64 i ∧ i ≤ n ∧ Tg w wr Y n i (fun i => (D i).a)) (fun vi _ => n - (intOf vi).toNat)
  case atStart => exact ⟨0, rfl, Nat.zero_le _, TG.out⟩
  case round =>
    clear TG
    obtain ⟨i, rfl, hi, hG⟩ := hrel
    have G := Lib.hid hG
    by_cases hlt : i < n
    · obtain ⟨hb, d0, d1⟩ := (HA.out.below hG.bel (Nat.le_refl _)).dat' rfl hlt
      obtain ⟨a1, a2, a3⟩ := V.out.d i hlt
      have NX : Hid (∀ wx, Below wr.heap.size wr wx → Tg w (wx.setCell ⟨Y, i, none⟩ (.int .i64 (D i).a)) Y n (i + 1) (fun i => (D i).a)) := fun wx hx => (hG.below hx).set hlt
      have hx : Below wr.heap.size wr (wr.alloc (.cells #[.int .i64 (D i).c, .int .i64 (D i).a] 31)) := bal (Below.refl _ wr) _
      have N2 := Lib.hid (NX.out _ hx)
      obtain ⟨vy, y0⟩ := (hG.below hx).all i hlt
      have fy := (hG.below hx).frz i
      have lY := (hG.below hx).lY
      have z0 : (wr.alloc (.cells #[.int .i64 (D i).c, .int .i64 (D i).a] 31)).cell? ⟨wr.heap.size, 0, none⟩ = some (.int .i64 (D i).c) := by simp [go_sem]
      have z1 : (wr.alloc (.cells #[.int .i64 (D i).c, .int .i64 (D i).a] 31)).cell? ⟨wr.heap.size, 1, none⟩ = some (.int .i64 (D i).a) := by simp [go_sem]
      clear hG NX G
      generalize (D i).c = dc at *
      generalize (D i).a = da at *
      go_upto_region 7 with fail
      generalize wr.alloc (.cells #[.int .i64 dc, .int .i64 da] 31) = w1 at *
      clear d0 d1 hb
      generalize wr.heap.size = Q at *
      go_wp2
      go_roundw
      case rel => exact ⟨i + 1, by go_num, by omega, N2.out⟩
      case measure => simp [intOf]; omega
    · obtain rfl : i = n := by omega
      have hq : ¬ (i : Int) < (i : Int) := by omega
      have L0 := Lib.hid ((tg_lr hG).below (bal (Below.refl _ wr) (.map #[] 0)))
      have PM0 := Lib.hid (pm_made wr)
      have hY1 : Y < wr.heap.size := hG.lY
      have hw1 : w.heap.size ≤ wr.heap.size := hG.bel.size
      clear hG G
      go_wp2_with fail
      generalize wr.alloc (.map #[] 0) = w2 at *
      generalize wr.heap.size = Mb at *
      clear hmm
      clear wr
      go_loopw [64] (fun vi wr => ∃ (k : Nat) (S : List (Int × Int)), vi = .int .i64 k ∧ k ≤ m ∧ Lr w wr Y i (ldK D K k) ∧ Pm wr Mb S ∧ S.length ≤ k ∧ ∀ x ∈ S, ∃ l, l < k ∧ x = prL K l) (fun vi _ => m - (intOf vi).toNat)
      case atStart => exact ⟨0, [], rfl, Nat.zero_le _, L0.out, PM0.out, Nat.le_refl _, fun x hx => by cases hx⟩
      case round =>
        clear L0 PM0
        obtain ⟨k, S, rfl, hk, hL, hP, hSl, hS⟩ := hrel
        have L := Lib.hid hL
        have PM := Lib.hid hP
        have HS := Lib.hid hS
        by_cases hlt : k < m
        · obtain ⟨lb, lo, rfl, -⟩ := HB.out.addr (show 0 < m by omega)
          obtain ⟨p, q, ep, eq, hp, hq2, hpq, c1, c2⟩ := V.out.l k hlt
          obtain ⟨hb, l0', l1', l2⟩ := (HB.out.below hL.bel (Nat.le_refl _)).lat' rfl hlt
          have l0 : wr.cell? ⟨lb, lo + k * 3, none⟩ = some (.int .i64 (p : Nat)) := by rw [← ep]; exact l0'
          have l1 : wr.cell? ⟨lb, lo + k * 3 + 1, none⟩ = some (.int .i64 (q : Nat)) := by rw [← eq]; exact l1'
          clear l0' l1'
          have NO : ∀ x ∈ S, x ≠ prL K k := fun x hx e => by
            obtain ⟨l, hl, rfl⟩ := HS.out x hx
            exact V.out.pr l k hl hlt e
          have EP : prL K k = (if p ≤ q then ((p : Int), (q : Int)) else ((q : Int), (p : Int))) := by
            unfold prL
            rw [ep, eq]
            by_cases e : p ≤ q
            · rw [if_pos (by omega), if_pos (by omega), if_pos e]
            · rw [if_neg (by omega), if_neg (by omega), if_neg e]
          have HS2 : Hid (∀ x ∈ prL K k :: S, ∃ l, l < k + 1 ∧ x = prL K l) := fun x hx => by
            rcases List.mem_cons.1 hx with rfl | hx
            · exact ⟨k, by omega, rfl⟩
            · obtain ⟨l, hl, e⟩ := HS.out x hx
              exact ⟨l, by omega, e⟩
          obtain ⟨x, y, hxy, hxb, hyb, hmin⟩ : ∃ x y : Nat, prL K k = ((x : Int), (y : Int)) ∧ x < 16 ∧ y < 16 ∧ ((p ≤ q ∧ x = p ∧ y = q) ∨ (q < p ∧ x = q ∧ y = p)) := by
            rw [EP]
            by_cases e : p ≤ q
            · exact ⟨p, q, by rw [if_pos e], by omega, by omega, .inl ⟨e, rfl, rfl⟩⟩
            · exact ⟨q, p, by rw [if_neg e], by omega, by omega, .inr ⟨by omega, rfl, rfl⟩⟩
          rw [hxy] at NO HS2
          have bp := V.out.b k p (by omega) hp
          have bq := V.out.b k q (by omega) hq2
          obtain ⟨xp, hxp⟩ : ∃ xp, xp = ldK D K k p := ⟨_, rfl⟩
          obtain ⟨xq, hxq⟩ : ∃ xq, xq = ldK D K k q := ⟨_, rfl⟩
          obtain ⟨yp, hyp⟩ : ∃ yp, yp = xp + (K k).c := ⟨_, rfl⟩
          obtain ⟨yq, hyq⟩ : ∃ yq, yq = xq + (K k).c := ⟨_, rfl⟩
          obtain ⟨W1, W1w⟩ := both (x := xp + (K k).c) (y := yp) (by omega) hyp.symm
          obtain ⟨W2, W2w⟩ := both (x := xq + (K k).c) (y := yq) (by omega) hyq.symm
          have NX : Hid (∀ W, Lr w W Y i (fun j => if j = q then yq else if j = p then yp else ldK D K k j) → Lr w W Y i (ldK D K (k + 1))) := fun W h => h.congr (fun j _ => by rw [ld_two ep eq hpq, hyp, hyq, hxp, hxq])
          have hx1 : Below wr.heap.size wr (wr.alloc (.cells #[.int .i64 (p : Nat), .int .i64 (q : Nat), .int .i64 (K k).c] 34)) := bal (Below.refl _ wr) _
          obtain ⟨z0, z1, z2⟩ := bx3 wr (.int .i64 (p : Nat)) (.int .i64 (q : Nat)) (.int .i64 (K k).c) 34
          have hpe : ((p : Int) == (q : Int)) = false := beq_eq_false_iff_ne.2 (by omega)
          have lQ : wr.heap.size < (wr.alloc (.cells #[.int .i64 (p : Nat), .int .i64 (q : Nat), .int .i64 (K k).c] 34)).heap.size := by simp
          have L2 := Lib.hid (hL.below hx1)
          have P2 := Lib.hid (hP.chg (Chg.of_below hx1 (fun _ => False)) (fun x => x))
          have hMb : Mb < wr.heap.size := hP.lt
          have hYq : Y < wr.heap.size := hL.lY
          have hways : ((p : Int) < (q : Int) ∧ x = p ∧ y = q) ∨ ((q : Int) < (p : Int) ∧ x = q ∧ y = p) := by
            rcases hmin with h | h
            · exact .inl ⟨by omega, h.2⟩
            · exact .inr ⟨by omega, h.2⟩
          have NO := Lib.hid NO
          have HXP := Lib.hid hxp
          have HXQ := Lib.hid hxq
          clear hL hP hS EP hxy ep eq hxp hxq hyp hyq bp bq hx1 L PM HS hmin
          generalize (K k).c = lc at *
          go_upto_region 15 with fail
          generalize wr.alloc (.cells #[.int .i64 (p : Nat), .int .i64 (q : Nat), .int .i64 lc] 34) = w3 at *
          clear l0 l1 l2 hb
          generalize hQ : wr.heap.size = Q at *
          clear hQ
          clear wr
          have hx2 : Below w3.heap.size w3 (w3.alloc (.cells #[.int .i64 (x : Nat), .int .i64 (y : Nat)] 76)) := bal (Below.refl _ w3) _
          obtain ⟨v0, v1⟩ := bx2 w3 (.int .i64 (x : Nat)) (.int .i64 (y : Nat)) 76
          have L3 := Lib.hid (L2.out.below hx2)
          have P3 := Lib.hid (P2.out.chg (Chg.of_below hx2 (fun _ => False)) (fun x => x))
          have zz0 := (hx2.cell (p := ⟨Q, 0, none⟩) lQ).trans z0
          have zz1 := (hx2.cell (p := ⟨Q, 1, none⟩) lQ).trans z1
          have zz2 := (hx2.cell (p := ⟨Q, 2, none⟩) lQ).trans z2
          have lQ3 := Nat.lt_of_lt_of_le lQ hx2.size
          rcases hways with ⟨hw, rfl, rfl⟩ | ⟨hw, rfl, rfl⟩
          · go_upto_region 18 with fail
            clear z0 z1 z2 L2 P2 hx2
            generalize w3.alloc (.cells #[.int .i64 (x : Nat), .int .i64 (y : Nat)] 76) = w4 at *
            generalize hQ2 : w3.heap.size = Q2 at *
            clear hQ2
            clear w3
            have LK := P3.out.miss x y (wfN x (by omega)) (wfN y (by omega)) NO.out
            obtain ⟨w5, hput, P5', CH'⟩ := P3.out.put x y (wfN x (by omega)) (wfN y (by omega)) (by omega)
            unfold pv at LK hput
            have P5 := Lib.hid P5'
            have CH := Lib.hid CH'
            have QM : Q ≠ Mb := by omega
            have k0 := (blk_cell (CH'.block Q lQ3 QM) 0).trans zz0
            have k1 := (blk_cell (CH'.block Q lQ3 QM) 1).trans zz1
            have k2 := (blk_cell (CH'.block Q lQ3 QM) 2).trans zz2
            have L5 := Lib.hid (L3.out.chg CH' (by omega) (fun b e => by omega))
            have lQ5 := Nat.lt_of_lt_of_le lQ3 CH'.size
            have yp0 := L5.out.at_ x hp
            have yq0 := L5.out.at_ y hq2
            rw [← HXP.out] at yp0
            rw [← HXQ.out] at yq0
            have fp := L5.out.frz x
            have fq := L5.out.frz y
            have lY := L5.out.lY
            clear P5' CH' L3 P3 HXP HXQ
            go_upto_region 21 with fail
            clear LK hput zz0 zz1 zz2 v0 v1 lQ3
            clear CH
            clear w4
            go_still_tail 9, (by kernel_rfl)
            have L6 := Lib.hid ((L5.out.set x hp yp).below (Below.refl _ _).drew)
            have hS6 : Chg (fun b => b = Y) w5 (w5.setCell ⟨Y, x, none⟩ (.int .i64 yp)).drew := (Chg.set w5 Y x (.int .i64 yp)).drew
            have P6 := Lib.hid (P5.out.chg hS6 (by omega))
            have QY : Q ≠ Y := by omega
            have j1 : (w5.setCell ⟨Y, x, none⟩ (.int .i64 yp)).drew.cell? ⟨Q, 1, none⟩ = _ := (blk_cell (hS6.block Q lQ5 QY) 1).trans k1
            have j2 : (w5.setCell ⟨Y, x, none⟩ (.int .i64 yp)).drew.cell? ⟨Q, 2, none⟩ = _ := (blk_cell (hS6.block Q lQ5 QY) 2).trans k2
            have yq1 : (w5.setCell ⟨Y, x, none⟩ (.int .i64 yp)).drew.cell? ⟨Y, y, none⟩ = _ := (set_off _ _ _ _ _ (by omega)).trans yq0
            have fq1 : (w5.setCell ⟨Y, x, none⟩ (.int .i64 yp)).drew.frozen? ⟨Y, y, none⟩ = false := L6.out.frz y
            have lY1 : Y < (w5.setCell ⟨Y, x, none⟩ (.int .i64 yp)).drew.heap.size := L6.out.lY
            have lQ6 : Q < (w5.setCell ⟨Y, x, none⟩ (.int .i64 yp)).drew.heap.size := Nat.lt_of_lt_of_le lQ5 hS6.size
            clear L5 P5 W1 W1w hS6
            go_upto_region 22 with fail
            generalize (w5.setCell ⟨Y, x, none⟩ (.int .i64 yp)).drew = w6 at *
            clear k0 k1 k2 yp0 yq0 fp fq lY lQ5
            clear w5
            go_still_tail 9, (by kernel_rfl)
            have L7 := Lib.hid (NX.out _ ((L6.out.set y hq2 yq).below (Below.refl _ _).drew))
            have P7 := Lib.hid (P6.out.chg ((Chg.set w6 Y y (.int .i64 yq)).drew) (by show ¬ Mb = Y; omega))
            clear L6 P6 NX
            go_wp2
            go_roundw
            case rel => exact ⟨k + 1, ((x : Int), (y : Int)) :: S, by go_num, by omega, L7.out, P7.out, by show S.length + 1 ≤ k + 1; omega, HS2.out⟩
            case measure => simp [intOf]; omega
          · go_upto_region 18 with fail
            clear z0 z1 z2 L2 P2 hx2
            generalize w3.alloc (.cells #[.int .i64 (x : Nat), .int .i64 (y : Nat)] 76) = w4 at *
            generalize hQ2 : w3.heap.size = Q2 at *
            clear hQ2
            clear w3
            have LK := P3.out.miss x y (wfN x (by omega)) (wfN y (by omega)) NO.out
            obtain ⟨w5, hput, P5', CH'⟩ := P3.out.put x y (wfN x (by omega)) (wfN y (by omega)) (by omega)
            unfold pv at LK hput
            have P5 := Lib.hid P5'
            have CH := Lib.hid CH'
            have QM : Q ≠ Mb := by omega
            have k0 := (blk_cell (CH'.block Q lQ3 QM) 0).trans zz0
            have k1 := (blk_cell (CH'.block Q lQ3 QM) 1).trans zz1
            have k2 := (blk_cell (CH'.block Q lQ3 QM) 2).trans zz2
            have L5 := Lib.hid (L3.out.chg CH' (by omega) (fun b e => by omega))
            have lQ5 := Nat.lt_of_lt_of_le lQ3 CH'.size
            have yp0 := L5.out.at_ y hp
            have yq0 := L5.out.at_ x hq2
            rw [← HXP.out] at yp0
            rw [← HXQ.out] at yq0
            have fp := L5.out.frz y
            have fq := L5.out.frz x
            have lY := L5.out.lY
            clear P5' CH' L3 P3 HXP HXQ
            go_upto_region 21 with fail
            clear LK hput zz0 zz1 zz2 v0 v1 lQ3
            clear CH
            clear w4
            go_still_tail 9, (by kernel_rfl)
            have L6 := Lib.hid ((L5.out.set y hp yp).below (Below.refl _ _).drew)
            have hS6 : Chg (fun b => b = Y) w5 (w5.setCell ⟨Y, y, none⟩ (.int .i64 yp)).drew := (Chg.set w5 Y y (.int .i64 yp)).drew
            have P6 := Lib.hid (P5.out.chg hS6 (by omega))
            have QY : Q ≠ Y := by omega
            have j1 : (w5.setCell ⟨Y, y, none⟩ (.int .i64 yp)).drew.cell? ⟨Q, 1, none⟩ = _ := (blk_cell (hS6.block Q lQ5 QY) 1).trans k1
            have j2 : (w5.setCell ⟨Y, y, none⟩ (.int .i64 yp)).drew.cell? ⟨Q, 2, none⟩ = _ := (blk_cell (hS6.block Q lQ5 QY) 2).trans k2
            have yq1 : (w5.setCell ⟨Y, y, none⟩ (.int .i64 yp)).drew.cell? ⟨Y, x, none⟩ = _ := (set_off _ _ _ _ _ (by omega)).trans yq0
            have fq1 : (w5.setCell ⟨Y, y, none⟩ (.int .i64 yp)).drew.frozen? ⟨Y, x, none⟩ = false := L6.out.frz x
            have lY1 : Y < (w5.setCell ⟨Y, y, none⟩ (.int .i64 yp)).drew.heap.size := L6.out.lY
            have lQ6 : Q < (w5.setCell ⟨Y, y, none⟩ (.int .i64 yp)).drew.heap.size := Nat.lt_of_lt_of_le lQ5 hS6.size
            clear L5 P5 W1 W1w hS6
            go_upto_region 22 with fail
            generalize (w5.setCell ⟨Y, y, none⟩ (.int .i64 yp)).drew = w6 at *
            clear k0 k1 k2 yp0 yq0 fp fq lY lQ5
            clear w5
            go_still_tail 9, (by kernel_rfl)
            have L7 := Lib.hid (NX.out _ ((L6.out.set x hq2 yq).below (Below.refl _ _).drew))
            have P7 := Lib.hid (P6.out.chg ((Chg.set w6 Y x (.int .i64 yq)).drew) (by show ¬ Mb = Y; omega))
            clear L6 P6 NX
            go_wp2
            go_roundw
            case rel => exact ⟨k + 1, ((x : Int), (y : Int)) :: S, by go_num, by omega, L7.out, P7.out, by show S.length + 1 ≤ k + 1; omega, HS2.out⟩
            case measure => simp [intOf]; omega
        · obtain rfl : k = m := by omega
          have hq3 : ¬ (k : Int) < (k : Int) := by omega
          clear hL hP hS PM HS
          go_wp2_with fail
          generalize wr = w5 at *
          go_loopw [144] (fun vi wr => ∃ j : Nat, vi = .int .i64 j ∧ j ≤ i ∧ Below w5.heap.size w5 wr) (fun vi _ => i - (intOf vi).toNat)
          case atStart => exact ⟨0, rfl, Nat.zero_le _, Below.refl _ _⟩
          case round =>
            obtain ⟨j, rfl, hj, hB⟩ := hrel
            have LB := Lib.hid hB
            have L1 := L.out.below hB
            by_cases hlt3 : j < i
            · obtain ⟨hb, d0, d1⟩ := (HA.out.below L1.bel (Nat.le_refl _)).dat' rfl hlt3
              have hx : Below wr.heap.size wr (wr.alloc (.cells #[.int .i64 (D j).c, .int .i64 (D j).a] 31)) := bal (Below.refl _ wr) _
              obtain ⟨z0, -⟩ := bx2 wr (.int .i64 (D j).c) (.int .i64 (D j).a) 31
              have y0 := (L1.below hx).at_ j hlt3
              have lY := (L1.below hx).lY
              have NB := Lib.hid (bel2 hB hx)
              have hno : ¬ (D j).c < ldK D K k j := by have := V.out.ld j hlt3; omega
              clear L1 hB
              generalize ldK D K k j = ll at *
              generalize (D j).c = dc at *
              generalize (D j).a = da at *
              go_upto_region 27 with fail
              generalize wr.alloc (.cells #[.int .i64 dc, .int .i64 da] 31) = w6 at *
              clear d0 d1 hb hx LB
              generalize hQ : wr.heap.size = Q at *
              clear hQ
              clear wr
              go_quiet (fail)
              have NB2 := Lib.hid (bel_drewN NB.out nq)
              clear NB
              go_wp2
              go_roundw
              case rel => exact ⟨j + 1, by go_num, by omega, NB2.out⟩
              case measure => simp [intOf]; omega
            · obtain rfl : j = i := by omega
              have hq4 : ¬ (j : Int) < (j : Int) := by omega
              have F := Lib.hid L1.bel
              clear hB LB L1
              go_wp2
              go_ret
              exact ⟨rfl, F.out⟩
end Go.Proofs.Ytidegjinfacjjaa
