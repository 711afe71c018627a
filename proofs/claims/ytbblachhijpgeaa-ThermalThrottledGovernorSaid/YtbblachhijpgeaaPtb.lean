/- Table. -/
import Derived.Test.YtbblachhijpgeaaPck
namespace Go.Proofs.Ytbblachhijpgeaa
open Go.RowKit


def tb (g : Nat → St) : Nat → St
  | 0 => ⟨1 + (g 0).a % 100, (g 0).b % 100, (g 0).c % 100⟩
  | i + 1 => ⟨(tb g i).a + 1 + (g (i + 1)).a % 100, (tb g i).b + (g (i + 1)).b % 4, (tb g i).c + (g (i + 1)).c % 30⟩
/-- How many points. -/
def tbN (m : Nat) : Nat := max 1 (min m 8)
/-- The points that are made. -/
def tbF (m : Nat) (g : Nat → St) : Nat → St := if m = 0 then fun _ => ⟨1, 5, 0⟩ else tb g
theorem tbN_bd (m : Nat) : 1 ≤ tbN m ∧ tbN m ≤ 8 ∧ (1 ≤ m → tbN m ≤ m) ∧ (m = 0 → tbN m = 1) := by unfold tbN; omega
theorem tb_bd (g : Nat → St) (i : Nat) : 1 ≤ (tb g i).a ∧ (tb g i).a ≤ 100 * (i + 1) ∧ 0 ≤ (tb g i).b ∧ (tb g i).b ≤ 100 * (i + 1) ∧ 0 ≤ (tb g i).c ∧ (tb g i).c ≤ 100 * (i + 1) := by
  induction i with
  | zero => simp only [tb]; omega
  | succ i ih => simp only [tb]; omega
theorem tbF_bd (m : Nat) (g : Nat → St) (i : Nat) : 1 ≤ (tbF m g i).a ∧ (tbF m g i).a ≤ 100 * (i + 1) ∧ 0 ≤ (tbF m g i).b ∧ (tbF m g i).b ≤ 100 * (i + 1) ∧ 0 ≤ (tbF m g i).c ∧ (tbF m g i).c ≤ 100 * (i + 1) := by
  unfold tbF
  split
  · simp only; omega
  · exact tb_bd g i
theorem tbF_okTo (m : Nat) (g : Nat → St) (k : Nat) (hk : k ≤ tbN m) : okTo (tbF m g) k = true := by
  have hn := tbN_bd m
  induction k with
  | zero => rfl
  | succ k ih =>
    rw [okTo, ih (by omega), Bool.true_and, okAt_iff]
    have a := tbF_bd m g k
    cases k with
    | zero => simp only [prevS]; simp; omega
    | succ j =>
      have hm : m ≠ 0 := by omega
      have e : ∀ i, tbF m g i = tb g i := fun i => by unfold tbF; rw [if_neg hm]
      have b := tb_bd g j
      simp only [prevS, e, Nat.add_sub_cancel] at *
      simp [tb] at *
      omega
theorem tbF_vld (m : Nat) (g : Nat → St) : vld (tbN m) (tbF m g) = true := by
  have hn := tbN_bd m
  have := tbF_okTo m g (tbN m) (Nat.le_refl _)
  simp [vld, this]; omega
theorem tbF_wf (m : Nat) (g : Nat → St) (i : Nat) (hi : i < tbN m) : U64 (tbF m g i).a ∧ U64 (tbF m g i).b ∧ U64 (tbF m g i).c := by
  have hn := tbN_bd m
  have b := tbF_bd m g i
  unfold U64; omega
def TabPost (w : World) (m : Nat) (g : Nat → St) (e : Ending) (w' : World) : Prop :=
  ∃ G c, e = .returned (.slice (some ⟨G, 0, none⟩) (tbN m) c) ∧ w.heap.size ≤ G ∧ SlS .u64 w' (some ⟨G, 0, none⟩) (tbN m) (tbF m g) ∧ Below w.heap.size w w'
theorem tab_fin {w w' : World} {m n : Nat} {g : Nat → St} {G c : Nat} (hn : tbN m = n) (h : w'.ownsRow w.heap.size 73 3 (.slice (some ⟨G, 0, none⟩) n c) n (newsL .u64 (tbF m g) n)) (hB : Below w.heap.size w w') :
    TabPost w m g (.returned (.slice (some ⟨G, 0, none⟩) n c)) w' := by
  have hb := tbN_bd m
  subst hn
  obtain ⟨A', c', e, S, _, hg⟩ := sls_of_own h (by omega) (fun i hi => by
    have := tbF_wf m g i hi
    exact ⟨wf_u64_mk this.1, wf_u64_mk this.2.1, wf_u64_mk this.2.2⟩)
  injection e with e1 _ e3
  subst e1 e3
  exact ⟨G, c, rfl, (hg G rfl).2.1, S, hB⟩
theorem own_set {w : World} {base L n t size : Nat} {v : Value} {xs : List Value} (h : w.ownsRow base t size v n xs) (hL : v.ownBlock ≠ some L) (j : Nat) (u : Value) : (w.setCell ⟨L, j, none⟩ u).ownsRow base t size v n xs :=
  h.kept (row := some L) ⟨rfl, rfl, rfl, by simp, fun k _ hk => heap_setCell_other w ⟨L, j, none⟩ k u (fun e => hk (by simp [e]))⟩ (.inr hL)
theorem prow_p {w : World} {L : Nat} {x y z t : Int} (h : w.rowIs L 73 3 (pcell ⟨x, y, z⟩)) : (w.setCell ⟨L, 2, none⟩ (.int .u64 t)).rowIs L 73 3 (pcell ⟨x, y, t⟩) := by
  refine (h.set 2 _).congr fun j hj => ?_
  match j, hj with
  | 0, _ => rfl
  | 1, _ => rfl
  | 2, _ => rfl
theorem own_drew {w : World} {base n t size : Nat} {v : Value} {xs : List Value} (h : w.ownsRow base t size v n xs) : w.drew.ownsRow base t size v n xs := h
theorem tab_zero (A : Option Addr) (c : Nat) (g : Nat → St) (w : World) : Calls Try.prog 19 #[.slice A 0 c] w (TabPost w 0 g) := by
  have O0 := tab_fin (g := g) (show tbN 0 = 1 from rfl) (World.ownsRow_lit (base := w.heap.size) (e := 73) (size := 3) w #[.int .u64 1, .int .u64 5, .int .u64 0] 1 (Nat.le_refl _) (by decide) rfl) ((Below.refl _ _).alloc (Nat.le_refl _) _)
  have O0 := Lib.hid O0
  go_enter Try.func19, Try.ntmps19
  go_wp2_with fail
  generalize w.alloc (Obj.cells #[.int .u64 1, .int .u64 5, .int .u64 0] 73) = w1 at *
  go_loopw [4, 3] (fun i s wr => i = .int .i64 1 ∧ s = .slice (some ⟨w.heap.size, 0, none⟩) 1 1 ∧ wr = w1) (fun _ _ _ => 0)
  case atStart => exact ⟨rfl, rfl, rfl⟩
  case round =>
    obtain ⟨rfl, rfl, rfl⟩ := hrel
    go_wp2
    go_ret
    exact O0.out
set_option maxRecDepth 100000 in
set_option maxHeartbeats 4000000 in
theorem tab_pos (b off m c : Nat) (g : Nat → St) (w : World) (h : SlS .u64 w (some ⟨b, off, none⟩) m g) (hm : 1 ≤ m) (hb : b < w.heap.size) (hc : Sts .u64 w b off m g) :
    Calls Try.prog 19 #[.slice (some ⟨b, off, none⟩) m c] w (TabPost w m g) := by
  have hl := h.len
  have WF : Hid (∀ i, i < m → U64 (g i).a ∧ U64 (g i).b ∧ U64 (g i).c) := fun i hi => wf3 (h.wf i hi)
  have HC := Lib.hid hc
  obtain ⟨c0, c1, c2⟩ := hc 0 (by omega)
  obtain ⟨⟨u0, u1⟩, ⟨u2, u3⟩, u4, u5⟩ := wf3 (h.wf 0 (by omega))
  clear hc h
  have NN : Hid (tbN m = max 1 (min m 8)) := rfl
  have T0 : Hid (tb g 0 = ⟨1 + (g 0).a % 100, (g 0).b % 100, (g 0).c % 100⟩) := rfl
  have FE : Hid (tbF m g = tb g) := by show _ = _; unfold tbF; rw [if_neg (by omega)]
  generalize g 0 = s0 at *
  obtain ⟨x0, y0, z0⟩ := s0
  simp only [Nat.zero_mul, Nat.add_zero] at c0 c1 c2 u0 u1 u2 u3 u4 u5
  have OW0 := World.ownsRow_lit (base := w.heap.size) (e := 73) (size := 3) w #[.int .u64 1, .int .u64 5, .int .u64 0] 1 (Nat.le_refl _) (by decide) rfl
  have OW1 := (OW0.stored 0 (.int .u64 (1 + x0 % 100))).1
  have OW2 := (OW1.stored 1 (.int .u64 (y0 % 100))).1
  have OW3 := (OW2.stored 2 (.int .u64 (z0 % 100))).1
  have OW4 := own_drew OW3
  have B0 : Below w.heap.size w (w.alloc (Obj.cells #[.int .u64 1, .int .u64 5, .int .u64 0] 73)) := (Below.refl _ _).alloc (Nat.le_refl _) _
  have B3 := (((B0.setCell (p := ⟨w.heap.size, 0, none⟩) (Nat.le_refl _) (.int .u64 (1 + x0 % 100))).setCell (p := ⟨w.heap.size, 1, none⟩) (Nat.le_refl _) (.int .u64 (y0 % 100))).setCell (p := ⟨w.heap.size, 2, none⟩) (Nat.le_refl _) (.int .u64 (z0 % 100))).drew
  obtain ⟨i0, hi, hzz⟩ := Option.map_eq_some_iff.1 info30
  simp only [Prod.mk.injEq] at hzz
  obtain ⟨hz, hs, hbb⟩ := hzz
  have HI := Lib.hid (And.intro hi (And.intro hz (And.intro hs hbb)))
  clear hi hz hs hbb
  rw [← B0.cell hb] at c0 c1 c2
  have k0 : (w.alloc (Obj.cells #[.int .u64 1, .int .u64 5, .int .u64 0] 73)).cell? ⟨w.heap.size, 0, none⟩ = some (.int .u64 1) := by simp [go_sem]
  have k1 : (w.alloc (Obj.cells #[.int .u64 1, .int .u64 5, .int .u64 0] 73)).cell? ⟨w.heap.size, 1, none⟩ = some (.int .u64 5) := by simp [go_sem]
  have k2 : (w.alloc (Obj.cells #[.int .u64 1, .int .u64 5, .int .u64 0] 73)).cell? ⟨w.heap.size, 2, none⟩ = some (.int .u64 0) := by simp [go_sem]
  have f0 : ∀ k, (w.alloc (Obj.cells #[.int .u64 1, .int .u64 5, .int .u64 0] 73)).frozen? ⟨w.heap.size, k, none⟩ = false := fun k => OW0.frozenAt k
  have g0 := f0 0
  have g1 := f0 1
  have g2 := f0 2
  have hbw : w.heap.size < (w.alloc (Obj.cells #[.int .u64 1, .int .u64 5, .int .u64 0] 73)).heap.size := by simp
  have HW4 := Lib.hid OW4
  have HB3 := Lib.hid B3
  clear f0 OW0 OW1 OW2 OW3 OW4 B3
  go_enter Try.func19, Try.ntmps19
  go_wp2_with fail
  generalize hG : w.heap.size = G at *
  generalize w.alloc (Obj.cells #[.int .u64 1, .int .u64 5, .int .u64 0] 73) = w1 at *
  go_still_tail 19, (by kernel_rfl)
  go_wp2_with fail
  have OW := HW4.out
  have BW := HB3.out
  clear HW4 HB3
  generalize (((w1.setCell ⟨G, 0, none⟩ (.int .u64 (1 + x0 % 100))).setCell ⟨G, 1, none⟩ (.int .u64 (y0 % 100))).setCell ⟨G, 2, none⟩ (.int .u64 (z0 % 100))).drew = w2 at *
  clear c0 c1 c2 k0 k1 k2 g0 g1 g2 hbw B0
  have OW : w2.ownsRow G 73 3 (.slice (some ⟨G, 0, none⟩) 1 1) 1 (newsL .u64 (tb g) 1) := by
    have e : newsL .u64 (tb g) 1 = [.int .u64 (1 + x0 % 100), .int .u64 (y0 % 100), .int .u64 (z0 % 100)] := by
      rw [newsL_succ, T0.out]; rfl
    rw [e]; exact OW
  generalize hn : tbN m = n at *
  have Hn := Lib.hid hn; clear hn
  have hn1 : 1 ≤ n := by have := NN.out; omega
  go_loopw [4, 3] (fun i s wr => ∃ (j Gk ck : Nat), j + 1 ≤ n ∧ i = .int .i64 ((j : Int) + 1) ∧ s = .slice (some ⟨Gk, 0, none⟩) (j + 1) ck ∧ wr.ownsRow G 73 3 (.slice (some ⟨Gk, 0, none⟩) (j + 1) ck) (j + 1) (newsL .u64 (tb g) (j + 1)) ∧ Below G w wr) (fun i _ _ => 9 - (intOf i).toNat)
  case atStart => exact ⟨0, G, 1, hn1, rfl, rfl, OW, BW⟩
  case round =>
    clear OW BW
    obtain ⟨j, Gk, ck, hj, rfl, rfl, OW, BW⟩ := hrel
    by_cases hlt : j + 1 < n
    · have i1 : (j : Int) + 1 < m := by have := NN.out; omega
      have i2 : (j : Int) + 1 < 8 := by have := NN.out; omega
      have i4 : (0 : Int) ≤ (j : Int) + 1 := by omega
      have i5 : ((j : Int) + 1).toNat = j + 1 := by omega
      have i3 : IntKind.i64.wrap (j : Int) = (j : Int) := IntWalk.i64_in _ (by omega)
      have HD := Lib.hid (HC.out (j + 1) (by omega))
      obtain ⟨⟨u0, u1⟩, ⟨u2, u3⟩, u4, u5⟩ := WF.out (j + 1) (by omega)
      obtain ⟨v0, v1, v2, v3, v4, v5⟩ := tb_bd g j
      have TS : Hid (tb g (j + 1) = ⟨(tb g j).a + 1 + (g (j + 1)).a % 100, (tb g j).b + (g (j + 1)).b % 4, (tb g j).c + (g (j + 1)).c % 30⟩) := rfl
      have hoG := OW.lt Gk rfl
      have e0 := OW.cellAt (j * 3) (by omega)
      have e1 := OW.cellAt (j * 3 + 1) (by omega)
      have e2 := OW.cellAt (j * 3 + 2) (by omega)
      rw [(newsL_get .u64 (tb g) (j + 1) (j * 3) _).2 ⟨by omega, rfl⟩, cellOf_0] at e0
      rw [(newsL_get .u64 (tb g) (j + 1) (j * 3 + 1) _).2 ⟨by omega, rfl⟩, cellOf_1] at e1
      rw [(newsL_get .u64 (tb g) (j + 1) (j * 3 + 2) _).2 ⟨by omega, rfl⟩, cellOf_2] at e2
      generalize g (j + 1) = sj at *
      generalize hT : tb g j = tj at *
      clear hT
      obtain ⟨q0, q1, q2⟩ := sj
      obtain ⟨x, y, z⟩ := tj
      simp only at HD u0 u1 u2 u3 u4 u5 v0 v1 v2 v3 v4 v5 e0 e1 e2 TS
      have hs := BW.size
      have R1 := prow_box wr x y z
      have O1 := OW.alloc (Obj.cells #[.int .u64 x, .int .u64 y, .int .u64 z] 73)
      have B1 := BW.alloc (by have := BW.size; omega) (Obj.cells #[.int .u64 x, .int .u64 y, .int .u64 z] 73)
      have hGL : Gk ≠ wr.heap.size := by omega
      have hbw : b < G := hb
      have hwL : G ≤ wr.heap.size := by omega
      go_wp2_with fail
      clear e0 e1 e2 BW OW hs
      obtain ⟨L, hLe⟩ : ∃ L, L = wr.heap.size := ⟨_, rfl⟩
      rw [← hLe] at R1 hGL hwL ⊢
      have hoG1 := hoG.1
      generalize wr.alloc (Obj.cells #[.int .u64 x, .int .u64 y, .int .u64 z] 73) = W1 at *
      clear hoG hLe
      obtain ⟨d0, d1, d2⟩ := HD.out
      rw [← B1.cell hbw] at d0 d1 d2
      have r0 := R1.cell (show 0 < 3 by omega)
      have f0 := R1.frozen 0
      simp only [pcell] at r0
      have R2 := (prow_f (t := (x + 1 + q0 % 100)) R1).drew
      have O2 := own_drew (own_set O1 (L := L) (by simpa [Value.ownBlock] using hGL) 0 (.int .u64 (x + 1 + q0 % 100)))
      have B2 := (B1.setCell (p := ⟨L, 0, none⟩) hwL (.int .u64 (x + 1 + q0 % 100))).drew
      have R2 := Lib.hid R2
      have B2 := Lib.hid B2
      have O2 := Lib.hid O2
      go_still_tail 11, (by kernel_rfl)
      go_wp2_with fail
      have R2 := R2.out
      have B2 := B2.out
      have O2 := O2.out
      clear R1 B1 O1 d0 d1 d2 r0 f0
      generalize (W1.setCell ⟨L, 0, none⟩ (.int .u64 (x + 1 + q0 % 100))).drew = W2 at *
      obtain ⟨d0, d1, d2⟩ := HD.out
      rw [← B2.cell hbw] at d0 d1 d2
      have r0 := R2.cell (show 1 < 3 by omega)
      have f0 := R2.frozen 1
      simp only [pcell] at r0
      have R3 := (prow_v (t := (y + q1 % 4)) R2).drew
      have O3 := own_drew (own_set O2 (L := L) (by simpa [Value.ownBlock] using hGL) 1 (.int .u64 (y + q1 % 4)))
      have B3 := (B2.setCell (p := ⟨L, 1, none⟩) hwL (.int .u64 (y + q1 % 4))).drew
      have R3 := Lib.hid R3
      have B3 := Lib.hid B3
      have O3 := Lib.hid O3
      go_still_tail 10, (by kernel_rfl)
      go_wp2_with fail
      have R3 := R3.out
      have B3 := B3.out
      have O3 := O3.out
      clear R2 B2 O2 d0 d1 d2 r0 f0
      generalize (W2.setCell ⟨L, 1, none⟩ (.int .u64 (y + q1 % 4))).drew = W3 at *
      obtain ⟨d0, d1, d2⟩ := HD.out
      rw [← B3.cell hbw] at d0 d1 d2
      have r0 := R3.cell (show 2 < 3 by omega)
      have f0 := R3.frozen 2
      simp only [pcell] at r0
      have R4 := (prow_p (t := (z + q2 % 30)) R3).drew
      have O4 := own_drew (own_set O3 (L := L) (by simpa [Value.ownBlock] using hGL) 2 (.int .u64 (z + q2 % 30)))
      have B4 := (B3.setCell (p := ⟨L, 2, none⟩) hwL (.int .u64 (z + q2 % 30))).drew
      have R4 := Lib.hid R4
      have B4 := Lib.hid B4
      have O4 := Lib.hid O4
      go_still_tail 10, (by kernel_rfl)
      go_upto_region 11 with fail
      have R4 := R4.out
      have B4 := B4.out
      have O4 := O4.out
      clear R3 B3 O3 d0 d1 d2 r0 f0
      generalize (W3.setCell ⟨L, 2, none⟩ (.int .u64 (z + q2 % 30))).drew = W4 at *
      have r0 := R4.cell (show 0 < 3 by omega)
      have r1 := R4.cell (show 1 < 3 by omega)
      have r2 := R4.cell (show 2 < 3 by omega)
      simp only [pcell] at r0 r1 r2
      generalize x + 1 + q0 % 100 = x' at *
      generalize y + q1 % 4 = y' at *
      generalize z + q2 % 30 = z' at *
      have hs := B4.size
      have O5 := O4.alloc (Obj.cells #[.int .u64 x', .int .u64 y', .int .u64 z'] 73)
      have B5 := B4.alloc (by omega) (Obj.cells #[.int .u64 x', .int .u64 y', .int .u64 z'] 73)
      have N5 := news3 .u64 73 W4 x' y' z'
      have o5 := one3 .u64 x' y' z'
      have h5 : G ≤ (W4.alloc (Obj.cells #[.int .u64 x', .int .u64 y', .int .u64 z'] 73)).heap.size := by simp; omega
      obtain ⟨hi, hz, hs0, hbb⟩ := HI.out
      have TSN : Hid (newsL .u64 (tb g) (j + 1 + 1) = newsL .u64 (tb g) (j + 1) ++ [.int .u64 x', .int .u64 y', .int .u64 z']) := by
        show _ = _
        rw [newsL_succ _ _ (j + 1), TS.out]
      clear R4 TS u0 u1 u2 u3 u4 u5 v0 v1 v2 v3 v4 v5
      go_wp2_with (at_builtin; refine wpList_append_own _ rfl (.tmp 76) (.tmp 78) 60 rfl G 73 i0 _ 3 24 Try.underlying60 hi hz hs0 hbb rfl (by decide) _ (j + 1) _ rfl O5 ⟨W4.heap.size, 0, none⟩ 1 1 [.int .u64 x', .int .u64 y', .int .u64 z'] rfl rfl N5 o5 ?c3 ?c4 ?c5 ?_)
      case c3 => unfold maxLen; omega
      case c4 => omega
      case c5 => exact h5
      intro v' w6 hown hgr _
      obtain ⟨g', cap', rfl⟩ := own_form hown (by omega)
      rw [← TSN.out] at hown
      have B6 := Lib.hid (B5.grown hgr h5 (fun k hk => by simp [Value.ownBlock] at hk; omega))
      have O6 := Lib.hid hown
      clear hown hgr O5 B5 O4 B4 N5 o5 h5 r0 r1 r2 hi hz hs0 hbb TSN
      go_wp2
      go_roundw
      case rel => exact ⟨j + 1, g', cap', by omega, by go_num, rfl, O6.out, B6.out⟩
      case measure => simp [intOf]; omega
    · have hjn : j + 1 = n := by omega
      have FIN := Lib.hid (tab_fin (G := Gk) (c := ck) (w := w) (w' := wr) Hn.out (by rw [FE.out, ← hjn, hG]; exact OW) (by rw [hG]; exact BW))
      have NE : Hid (n = max 1 (min m 8)) := NN
      clear OW BW
      by_cases i1 : (j : Int) + 1 < m
      · have i2 : ¬ (j : Int) + 1 < 8 := by have := NN.out; omega
        go_wp2
        go_ret
        exact FIN.out
      · go_wp2
        go_ret
        exact FIN.out
theorem tab_any (A : Option Addr) (m c : Nat) (g : Nat → St) (w : World) (h : SlS .u64 w A m g) : Calls Try.prog 19 #[.slice A m c] w (TabPost w m g) := by
  rcases Nat.eq_zero_or_pos m with h0 | h0
  · subst h0; exact tab_zero A c g w
  · rcases h.row with h1 | ⟨b, off, rfl, hb, hc⟩
    · omega
    · exact tab_pos b off m c g w h h0 hb hc
end Go.Proofs.Ytbblachhijpgeaa
