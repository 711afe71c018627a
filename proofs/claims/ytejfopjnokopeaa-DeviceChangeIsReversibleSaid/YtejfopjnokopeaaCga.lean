/- DeviceChangeAgrees: the walk. -/
import Derived.Test.YtejfopjnokopeaaRcb
import Derived.Test.YtejfopjnokopeaaTag
namespace Go.Proofs.Ytejfopjnokopeaa
open Go.ChangeShapes Go.WideShapes Go.ChangeAt Go.RowKit Go.Deep Go.Joins

theorem rl_of_pdw {w : World} {D : PD} (h : PdW w D) : ∃ l, Rl w D l := by
  have g : ∀ k, k < 4 → ∃ l : List Int, l.length = D.n k ∧ Il w (D.A k) l := fun k hk => by
    obtain ⟨-, -, Z, hz⟩ := h.rails k hk
    exact ns_il hz
  obtain ⟨l0, e0, i0⟩ := g 0 (by omega)
  obtain ⟨l1, e1, i1⟩ := g 1 (by omega)
  obtain ⟨l2, e2, i2⟩ := g 2 (by omega)
  obtain ⟨l3, e3, i3⟩ := g 3 (by omega)
  refine ⟨fun k => if k = 0 then l0 else if k = 1 then l1 else if k = 2 then l2 else l3, fun k hk => ?_, fun k hk => ?_⟩
  · rcases (show k = 0 ∨ k = 1 ∨ k = 2 ∨ k = 3 by omega) with rfl | rfl | rfl | rfl
    · exact e0.symm
    · exact e1.symm
    · exact e2.symm
    · exact e3.symm
  · rcases (show k = 0 ∨ k = 1 ∨ k = 2 ∨ k = 3 by omega) with rfl | rfl | rfl | rfl <;> assumption
set_option maxRecDepth 20000 in
theorem arr39_0 (D E : PD) (W : World) : (Instr.index 39 (.agg #[.int .i64 D.p, .slice (D.A 0) (D.n 0) (D.c 0), .slice (D.A 1) (D.n 1) (D.c 1), .slice (D.A 2) (D.n 2) (D.c 2), .slice (D.A 3) (D.n 3) (D.c 3), .int .i64 (D.e 0), .int .i64 (D.e 1), .int .i64 (D.e 2), .int .i64 (D.e 3), .int .i64 (D.e 4), .int .i64 (D.e 5), .int .i64 D.wd, .int .i64 D.ws, .int .i64 E.p, .slice (E.A 0) (E.n 0) (E.c 0), .slice (E.A 1) (E.n 1) (E.c 1), .slice (E.A 2) (E.n 2) (E.c 2), .slice (E.A 3) (E.n 3) (E.c 3), .int .i64 (E.e 0), .int .i64 (E.e 1), .int .i64 (E.e 2), .int .i64 (E.e 3), .int .i64 (E.e 4), .int .i64 (E.e 5), .int .i64 E.wd, .int .i64 E.ws]) (.int .i64 0)).run Try.prog W = .ok (.agg #[.int .i64 D.p, .slice (D.A 0) (D.n 0) (D.c 0), .slice (D.A 1) (D.n 1) (D.c 1), .slice (D.A 2) (D.n 2) (D.c 2), .slice (D.A 3) (D.n 3) (D.c 3), .int .i64 (D.e 0), .int .i64 (D.e 1), .int .i64 (D.e 2), .int .i64 (D.e 3), .int .i64 (D.e 4), .int .i64 (D.e 5), .int .i64 D.wd, .int .i64 D.ws]) W := by kernel_rfl
set_option maxRecDepth 20000 in
theorem arr39_1 (D E : PD) (W : World) : (Instr.index 39 (.agg #[.int .i64 D.p, .slice (D.A 0) (D.n 0) (D.c 0), .slice (D.A 1) (D.n 1) (D.c 1), .slice (D.A 2) (D.n 2) (D.c 2), .slice (D.A 3) (D.n 3) (D.c 3), .int .i64 (D.e 0), .int .i64 (D.e 1), .int .i64 (D.e 2), .int .i64 (D.e 3), .int .i64 (D.e 4), .int .i64 (D.e 5), .int .i64 D.wd, .int .i64 D.ws, .int .i64 E.p, .slice (E.A 0) (E.n 0) (E.c 0), .slice (E.A 1) (E.n 1) (E.c 1), .slice (E.A 2) (E.n 2) (E.c 2), .slice (E.A 3) (E.n 3) (E.c 3), .int .i64 (E.e 0), .int .i64 (E.e 1), .int .i64 (E.e 2), .int .i64 (E.e 3), .int .i64 (E.e 4), .int .i64 (E.e 5), .int .i64 E.wd, .int .i64 E.ws]) (.int .i64 1)).run Try.prog W = .ok (.agg #[.int .i64 E.p, .slice (E.A 0) (E.n 0) (E.c 0), .slice (E.A 1) (E.n 1) (E.c 1), .slice (E.A 2) (E.n 2) (E.c 2), .slice (E.A 3) (E.n 3) (E.c 3), .int .i64 (E.e 0), .int .i64 (E.e 1), .int .i64 (E.e 2), .int .i64 (E.e 3), .int .i64 (E.e 4), .int .i64 (E.e 5), .int .i64 E.wd, .int .i64 E.ws]) W := by kernel_rfl
theorem arr41_0 (f t : Int) (qf qt : Nat) (W : World) : (Instr.index 41 (.agg #[.int .i64 f, .int .i64 t, .int .i64 qf, .int .i64 qt]) (.int .i64 0)).run Try.prog W = .ok (.agg #[.int .i64 f, .int .i64 t]) W := by kernel_rfl
theorem arr41_1 (f t : Int) (qf qt : Nat) (W : World) : (Instr.index 41 (.agg #[.int .i64 f, .int .i64 t, .int .i64 qf, .int .i64 qt]) (.int .i64 1)).run Try.prog W = .ok (.agg #[.int .i64 qf, .int .i64 qt]) W := by kernel_rfl
def LgP (w : World) (D : PD) (e : Ending) (w' : World) : Prop := ∃ b, e = .returned (.bool b) ∧ (b = false → ∀ k, k < 4 → D.n k ≤ 20) ∧ w = w'
set_option maxRecDepth 20000 in
set_option maxHeartbeats 8000000 in
theorem large_one (B cp : Nat) (D : PD) (w : World) (hc : C13 w B D) : Calls Try.prog 13 #[.slice (some ⟨B, 0, none⟩) 1 cp] w (LgP w D) := by
  have HC := Lib.hid hc
  have hl := hc.1
  clear hc
  go_enter Try.func13, Try.ntmps13
  go_wp2_with fail
  go_loopw [3] (fun vi wr => (vi = .int .i64 0 ∧ w = wr) ∨ (vi = .int .i64 1 ∧ w = wr ∧ ∀ k, k < 4 → D.n k ≤ 20)) (fun i _ => 1 - (intOf i).toNat)
  case atStart => exact .inl ⟨rfl, rfl⟩
  case round =>
    rcases hrel with ⟨rfl, rfl⟩ | ⟨rfl, rfl, hall⟩
    · go_wp2_with fail
      go_loopw [4] (fun vk wr => ∃ k : Nat, vk = .int .i64 k ∧ k ≤ 4 ∧ w = wr ∧ ∀ j, j < k → D.n j ≤ 20) (fun i _ => 4 - (intOf i).toNat)
      case atStart => exact ⟨0, rfl, by omega, rfl, fun j hj => by omega⟩
      case round =>
        obtain ⟨k, rfl, hk, rfl, hall⟩ := hrel
        by_cases hlt : k < 4
        · have cA := c13_A HC.out hlt
          have hk4 : (k : Int) < 4 := by omega
          have HA := Lib.hid hall
          clear hall
          by_cases hn : D.n k ≤ 20
          · have q : ¬ (20 : Int) < (D.n k : Int) := by omega
            have NX : Hid (∀ j, j < k + 1 → D.n j ≤ 20) := fun j hj => by
              rcases Nat.lt_or_ge j k with h | h
              · exact HA.out j h
              · obtain rfl : j = k := by omega
                exact hn
            generalize D.n k = nk at *
            clear HA hn
            go_wp2_with fail
            go_roundw
            case rel => exact ⟨k + 1, by go_num, by omega, trivial, NX.out⟩
            case measure => simp [intOf]; omega
          · have q : (20 : Int) < (D.n k : Int) := by omega
            clear HA
            generalize D.n k = nk at *
            go_wp2
            go_ret
            exact ⟨true, rfl, (fun h => by cases h), rfl⟩
        · have hk4 : ¬ (k : Int) < 4 := by omega
          have HA : Hid (∀ j, j < 4 → D.n j ≤ 20) := fun j hj => hall j (by omega)
          clear hall
          go_wp2_with fail
          go_roundw
          case rel => exact .inr ⟨rfl, trivial, HA.out⟩
          case measure => simp [intOf]
    · have HA := Lib.hid hall
      clear hall
      have q : ¬ (1 : Int) < 1 := by omega
      have q2 : decide ((1 : Int) < 1) = false := by decide
      go_wp2
      go_ret
      exact ⟨false, rfl, fun _ => HA.out, rfl⟩
set_option maxRecDepth 20000 in
set_option maxHeartbeats 16000000 in
theorem cga_any (D : PD) (f t : Int) (w : World) (hd : PdW w D) (_h1 : (Lit.int .i64 f).wf = true) (_h2 : (Lit.int .i64 t).wf = true) : Calls Try.prog 6 #[.agg D.cells, .int .i64 f, .int .i64 t] w (LawPost w) := by
  obtain ⟨l, hrl⟩ := rl_of_pdw hd
  have b1 : Below w.heap.size w (w.alloc (.cells D.cells 33)) := bal (Below.refl _ _) _
  have C1 := Lib.hid (c13_new w D)
  have b2 : Below (w.alloc (.cells D.cells 33)).heap.size (w.alloc (.cells D.cells 33)) ((w.alloc (.cells D.cells 33)).alloc (.cells D.cells 33)) := bal (Below.refl _ _) _
  have C2 := Lib.hid (c13_new (w.alloc (.cells D.cells 33)) D)
  have hsz : (w.alloc (.cells D.cells 33)).heap.size = w.heap.size + 1 := by simp
  rw [hsz] at C2
  have PL := large_one (w.heap.size + 1) 1 D _ C2.out
  have C1b := Lib.hid (C1.out.below b2)
  have D2 := Lib.hid ((hd.below b1).below b2)
  have R2 := Lib.hid ((hrl.below b1).below b2)
  have B2 := Lib.hid (bel2 b1 b2)
  obtain ⟨hl1, x0, x1, x2, x3, x4, x5, x6, x7, x8, x9, x10, x11, x12⟩ := C1.out
  clear b1 b2 hd C1 C2 hsz hrl
  have AW := Lib.hid (fun W => awake_any W)
  unfold PD.cells at PL C1b B2 D2 R2 x0 x1 x2 x3 x4 x5 x6 x7 x8 x9 x10 x11 x12 ⊢
  go_enter Try.func6, Try.ntmps6
  go_wp2_with fail
  refine PL.mono ?_
  clear PL x0 x1 x2 x3 x4 x5 x6 x7 x8 x9 x10 x11 x12
  generalize hL : w.heap.size = L at C1b hl1 ⊢
  generalize (w.alloc (.cells #[.int .i64 D.p, .slice (D.A 0) (D.n 0) (D.c 0), .slice (D.A 1) (D.n 1) (D.c 1), .slice (D.A 2) (D.n 2) (D.c 2), .slice (D.A 3) (D.n 3) (D.c 3), .int .i64 (D.e 0), .int .i64 (D.e 1), .int .i64 (D.e 2), .int .i64 (D.e 3), .int .i64 (D.e 4), .int .i64 (D.e 5), .int .i64 D.wd, .int .i64 D.ws] 33)).alloc (.cells #[.int .i64 D.p, .slice (D.A 0) (D.n 0) (D.c 0), .slice (D.A 1) (D.n 1) (D.c 1), .slice (D.A 2) (D.n 2) (D.c 2), .slice (D.A 3) (D.n 3) (D.c 3), .int .i64 (D.e 0), .int .i64 (D.e 1), .int .i64 (D.e 2), .int .i64 (D.e 3), .int .i64 (D.e 4), .int .i64 (D.e 5), .int .i64 D.wd, .int .i64 D.ws] 33) = w2 at *
  rintro e w3 ⟨b, rfl, hb20, rfl⟩
  cases b with
  | true =>
    clear hb20
    go_wp2_with (go_at_call 14; refine (AW.out _).mono ?_; rintro e w9 ⟨rfl, hb9⟩)
    go_ret
    exact ⟨rfl, bel2 B2.out hb9⟩
  | false =>
    have N20 := hb20 rfl
    have LND : Hid (∀ k, k < 4 → (l k).length ≤ 1000) := fun k hk => by have := N20 k hk; have := R2.out.ln k hk; omega
    clear hb20 N20
    have b3 : Below w2.heap.size w2 (w2.alloc (.cells D.cells 33)) := bal (Below.refl _ _) _
    have P := some_one w2.heap.size 1 5 D _ (c13_new w2 D) (D2.out.below b3) (by decide) (by decide)
    have C3 := Lib.hid (C1b.out.below b3)
    have R3 := Lib.hid (R2.out.below b3)
    have B3 := Lib.hid (bel2 B2.out b3)
    obtain ⟨hl2, x0, x1, x2, x3, x4, x5, x6, x7, x8, x9, x10, x11, x12⟩ := C1b.out
    unfold PD.cells at P C3 R3 B3
    clear C1b R2 B2 D2 b3
    go_wp2_with fail
    refine P.mono ?_
    clear P x0 x1 x2 x3 x4 x5 x6 x7 x8 x9 x10 x11 x12
    generalize w2.alloc (.cells #[.int .i64 D.p, .slice (D.A 0) (D.n 0) (D.c 0), .slice (D.A 1) (D.n 1) (D.c 1), .slice (D.A 2) (D.n 2) (D.c 2), .slice (D.A 3) (D.n 3) (D.c 3), .int .i64 (D.e 0), .int .i64 (D.e 1), .int .i64 (D.e 2), .int .i64 (D.e 3), .int .i64 (D.e 4), .int .i64 (D.e 5), .int .i64 D.wd, .int .i64 D.ws] 33) = w3 at *
    rintro e w4 ⟨Z, cc, E, m, rfl, CE, -, RE, lE, hb4⟩
    have C1 := C3.out.below hb4
    have R4 := Lib.hid (R3.out.below hb4)
    have RE := Lib.hid RE
    have LNE : Hid (∀ k, k < 4 → (m k).length ≤ 1000) := fun k hk => by have := lE k hk; omega
    have B4 := Lib.hid (bel2 B3.out hb4)
    clear R3 B3 C3 hb4 lE
    obtain ⟨hl4, x0, x1, x2, x3, x4, x5, x6, x7, x8, x9, x10, x11, x12⟩ := C1
    obtain ⟨hl5, y0, y1, y2, y3, y4, y5, y6, y7, y8, y9, y10, y11, y12⟩ := CE
    go_upto_region 4 with fail
    go_quiet (fail)
    clear x0 x1 x2 x3 x4 x5 x6 x7 x8 x9 x10 x11 x12 y0 y1 y2 y3 y4 y5 y6 y7 y8 y9 y10 y11 y12 hl4 hl5
    have R4 : Hid (Rl (w4.drewN nq) D l) := R4.out.below (below_drewN (Below.refl _ _) _)
    have RE : Hid (Rl (w4.drewN nq) E m) := RE.out.below (below_drewN (Below.refl _ _) _)
    have B4 := Lib.hid (below_drewN B4.out nq)
    generalize w4.drewN nq = w5 at *
    go_wp2_with fail
    go_loopw [30] (fun vi wr => ∃ i : Nat, vi = .int .i64 i ∧ i ≤ 2 ∧ Rl wr D l ∧ Rl wr E m ∧ Below w.heap.size w wr) (fun i _ => 2 - (intOf i).toNat)
    case atStart => exact ⟨0, rfl, by omega, R4.out, RE.out, B4.out⟩
    case round =>
      clear R4 RE B4
      obtain ⟨i, rfl, hi, hRD, hRE, hB⟩ := hrel
      rcases (show i = 0 ∨ i = 1 ∨ i = 2 by omega) with rfl | rfl | rfl
      · have AR := arr39_0 D E wr
        have b4 : Below wr.heap.size wr (wr.alloc (.cells D.cells 33)) := bal (Below.refl _ _) _
        have C4 := Lib.hid (c13_new wr D)
        have RD4 := Lib.hid (hRD.below b4)
        have RE4 := Lib.hid (hRE.below b4)
        have B4 := Lib.hid (bel2 hB b4)
        have MF := mod_any f 5 (by decide) (by decide)
        have MT := mod_any t 5 (by decide) (by decide)
        unfold PD.cells at AR C4 RD4 RE4 B4
        clear b4 hRD hRE hB
        go_upto_region 7 with fail
        generalize wr.alloc (.cells #[.int .i64 D.p, .slice (D.A 0) (D.n 0) (D.c 0), .slice (D.A 1) (D.n 1) (D.c 1), .slice (D.A 2) (D.n 2) (D.c 2), .slice (D.A 3) (D.n 3) (D.c 3), .int .i64 (D.e 0), .int .i64 (D.e 1), .int .i64 (D.e 2), .int .i64 (D.e 3), .int .i64 (D.e 4), .int .i64 (D.e 5), .int .i64 D.wd, .int .i64 D.ws] 33) = w4 at *
        generalize wr.heap.size = L9 at *
        generalize hqf : modOf f 5 = qf at *
        generalize hqt : modOf t 5 = qt at *
        clear hqf hqt AR
        go_wp2_with fail
        refine (MF _).mono ?_
        rintro e w5 ⟨rfl, rfl⟩
        go_wp2_with fail
        refine (MT _).mono ?_
        rintro e w5 ⟨rfl, rfl⟩
        go_wp2_with fail
        clear MF MT
        go_loopw [42] (fun vj wr => ∃ j : Nat, vj = .int .i64 j ∧ j ≤ 2 ∧ C13 wr L9 D ∧ Rl wr D l ∧ Rl wr E m ∧ Below w.heap.size w wr) (fun i _ => 2 - (intOf i).toNat)
        case atStart => exact ⟨0, rfl, by omega, C4.out, RD4.out, RE4.out, B4.out⟩
        case round =>
          clear C4 RD4 RE4 B4
          obtain ⟨j, rfl, hj, hC, hRD, hRE, hB⟩ := hrel
          have HC := Lib.hid hC
          have HRD := Lib.hid hRD
          have HRE := Lib.hid hRE
          have HB := Lib.hid hB
          clear hC hRD hRE hB
          rcases (show j = 0 ∨ j = 1 ∨ j = 2 by omega) with rfl | rfl | rfl
          · have AR := arr41_0 f t qf qt wr
            have P1 := Lib.hid (fun W (h : Rl W D l) => chg_any D l f t W h LND.out)
            have P2 := Lib.hid (fun W (h : Rl W D l) => rchg_any D l f t W h LND.out)
            generalize chgR l f t = r at *
            obtain ⟨la, lr, er⟩ := r
            have b5 : Below wr.heap.size wr (wr.alloc (.cells #[.int .i64 f, .int .i64 t] 40)) := bal (Below.refl _ _) _
            have C5 := Lib.hid (HC.out.below b5)
            have RD5 := Lib.hid (HRD.out.below b5)
            have RE5 := Lib.hid (HRE.out.below b5)
            have B5 := Lib.hid (bel2 HB.out b5)
            have z0 : (wr.alloc (.cells #[.int .i64 f, .int .i64 t] 40)).cell? ⟨wr.heap.size, 0, none⟩ = some (.int .i64 f) := (new_c wr _ 40 0).trans rfl
            have z1 : (wr.alloc (.cells #[.int .i64 f, .int .i64 t] 40)).cell? ⟨wr.heap.size, 1, none⟩ = some (.int .i64 t) := (new_c wr _ 40 1).trans rfl
            have hzl : wr.heap.size < (wr.alloc (.cells #[.int .i64 f, .int .i64 t] 40)).heap.size := by simp
            clear HC HRD HRE HB b5
            go_upto_region 10 with fail
            generalize wr.alloc (.cells #[.int .i64 f, .int .i64 t] 40) = w5 at *
            generalize wr.heap.size = Q at *
            obtain ⟨hl5, x0, x1, x2, x3, x4, x5, x6, x7, x8, x9, x10, x11, x12⟩ := C5.out
            go_wp2_with fail
            refine (P1.out _ RD5.out).mono ?_
            clear P1 x0 x1 x2 x3 x4 x5 x6 x7 x8 x9 x10 x11 x12
            rintro e w6 ⟨A1, c1, A2, c2, rfl, I1, I2, hb6⟩
            have z0 := (hb6.cell (p := ⟨Q, 0, none⟩) (by exact hzl)).trans z0
            have z1 := (hb6.cell (p := ⟨Q, 1, none⟩) (by exact hzl)).trans z1
            have C6 := Lib.hid (C5.out.below hb6)
            have RD6 := Lib.hid (RD5.out.below hb6)
            have RE6 := Lib.hid (RE5.out.below hb6)
            have B6 := Lib.hid (bel2 B5.out hb6)
            have I1 := Lib.hid I1
            have I2 := Lib.hid I2
            have hQ6 : Q < w6.heap.size := by have := hb6.size; omega
            clear hb6 C5 RD5 RE5 B5 hzl hl5
            obtain ⟨hl6, x0, x1, x2, x3, x4, x5, x6, x7, x8, x9, x10, x11, x12⟩ := C6.out
            go_wp2_with fail
            refine (P2.out _ RD6.out).mono ?_
            clear P2 x0 x1 x2 x3 x4 x5 x6 x7 x8 x9 x10 x11 x12 z0 z1
            rintro e w7 ⟨A3, c3, A4, c4, rfl, I3, I4, hb7⟩
            have C7 := Lib.hid (C6.out.below hb7)
            have RD7 := Lib.hid (RD6.out.below hb7)
            have RE7 := Lib.hid (RE6.out.below hb7)
            have B7 := Lib.hid (bel2 B6.out hb7)
            have I1 := Lib.hid (I1.out.below hb7)
            have I2 := Lib.hid (I2.out.below hb7)
            have I4 := Lib.hid I4
            have Q1 := eql_any A1 A3 c1 c3 la la w7 I1.out I3
            rw [decide_eq_true rfl] at Q1
            clear hb7 C6 RD6 RE6 B6 I3 hl6 I1 hQ6
            go_wp2_with fail
            refine Q1.mono ?_
            clear Q1
            rintro e w8 ⟨rfl, hb8⟩
            have C8 := Lib.hid (C7.out.below hb8)
            have RD8 := Lib.hid (RD7.out.below hb8)
            have RE8 := Lib.hid (RE7.out.below hb8)
            have B8 := Lib.hid (bel2 B7.out hb8)
            have Q2 := eql_any A2 A4 c2 c4 lr lr w8 (I2.out.below hb8) (I4.out.below hb8)
            rw [decide_eq_true rfl] at Q2
            clear hb8 C7 RD7 RE7 B7 I2 I4
            go_wp2_with fail
            refine Q2.mono ?_
            clear Q2
            rintro e w9 ⟨rfl, hb9⟩
            have C9 := Lib.hid (C8.out.below hb9)
            have RD9 := Lib.hid (RD8.out.below hb9)
            have RE9 := Lib.hid (RE8.out.below hb9)
            have B9 := Lib.hid (bel2 B8.out hb9)
            clear hb9 C8 RD8 RE8 B8
            go_wp2_with fail
            go_roundw
            case rel => exact ⟨0 + 1, by go_num, by omega, C9.out, RD9.out, RE9.out, B9.out⟩
            case measure => simp [intOf]
          · have AR := arr41_1 f t qf qt wr
            have P1 := Lib.hid (fun W (h : Rl W D l) => chg_any D l (qf : Int) (qt : Int) W h LND.out)
            have P2 := Lib.hid (fun W (h : Rl W D l) => rchg_any D l (qf : Int) (qt : Int) W h LND.out)
            generalize chgR l (qf : Int) (qt : Int) = r at *
            obtain ⟨la, lr, er⟩ := r
            have b5 : Below wr.heap.size wr (wr.alloc (.cells #[.int .i64 (qf : Int), .int .i64 (qt : Int)] 40)) := bal (Below.refl _ _) _
            have C5 := Lib.hid (HC.out.below b5)
            have RD5 := Lib.hid (HRD.out.below b5)
            have RE5 := Lib.hid (HRE.out.below b5)
            have B5 := Lib.hid (bel2 HB.out b5)
            have z0 : (wr.alloc (.cells #[.int .i64 (qf : Int), .int .i64 (qt : Int)] 40)).cell? ⟨wr.heap.size, 0, none⟩ = some (.int .i64 (qf : Int)) := (new_c wr _ 40 0).trans rfl
            have z1 : (wr.alloc (.cells #[.int .i64 (qf : Int), .int .i64 (qt : Int)] 40)).cell? ⟨wr.heap.size, 1, none⟩ = some (.int .i64 (qt : Int)) := (new_c wr _ 40 1).trans rfl
            have hzl : wr.heap.size < (wr.alloc (.cells #[.int .i64 (qf : Int), .int .i64 (qt : Int)] 40)).heap.size := by simp
            clear HC HRD HRE HB b5
            go_upto_region 10 with fail
            generalize wr.alloc (.cells #[.int .i64 (qf : Int), .int .i64 (qt : Int)] 40) = w5 at *
            generalize wr.heap.size = Q at *
            obtain ⟨hl5, x0, x1, x2, x3, x4, x5, x6, x7, x8, x9, x10, x11, x12⟩ := C5.out
            go_wp2_with fail
            refine (P1.out _ RD5.out).mono ?_
            clear P1 x0 x1 x2 x3 x4 x5 x6 x7 x8 x9 x10 x11 x12
            rintro e w6 ⟨A1, c1, A2, c2, rfl, I1, I2, hb6⟩
            have z0 := (hb6.cell (p := ⟨Q, 0, none⟩) (by exact hzl)).trans z0
            have z1 := (hb6.cell (p := ⟨Q, 1, none⟩) (by exact hzl)).trans z1
            have C6 := Lib.hid (C5.out.below hb6)
            have RD6 := Lib.hid (RD5.out.below hb6)
            have RE6 := Lib.hid (RE5.out.below hb6)
            have B6 := Lib.hid (bel2 B5.out hb6)
            have I1 := Lib.hid I1
            have I2 := Lib.hid I2
            have hQ6 : Q < w6.heap.size := by have := hb6.size; omega
            clear hb6 C5 RD5 RE5 B5 hzl hl5
            obtain ⟨hl6, x0, x1, x2, x3, x4, x5, x6, x7, x8, x9, x10, x11, x12⟩ := C6.out
            go_wp2_with fail
            refine (P2.out _ RD6.out).mono ?_
            clear P2 x0 x1 x2 x3 x4 x5 x6 x7 x8 x9 x10 x11 x12 z0 z1
            rintro e w7 ⟨A3, c3, A4, c4, rfl, I3, I4, hb7⟩
            have C7 := Lib.hid (C6.out.below hb7)
            have RD7 := Lib.hid (RD6.out.below hb7)
            have RE7 := Lib.hid (RE6.out.below hb7)
            have B7 := Lib.hid (bel2 B6.out hb7)
            have I1 := Lib.hid (I1.out.below hb7)
            have I2 := Lib.hid (I2.out.below hb7)
            have I4 := Lib.hid I4
            have Q1 := eql_any A1 A3 c1 c3 la la w7 I1.out I3
            rw [decide_eq_true rfl] at Q1
            clear hb7 C6 RD6 RE6 B6 I3 hl6 I1 hQ6
            go_wp2_with fail
            refine Q1.mono ?_
            clear Q1
            rintro e w8 ⟨rfl, hb8⟩
            have C8 := Lib.hid (C7.out.below hb8)
            have RD8 := Lib.hid (RD7.out.below hb8)
            have RE8 := Lib.hid (RE7.out.below hb8)
            have B8 := Lib.hid (bel2 B7.out hb8)
            have Q2 := eql_any A2 A4 c2 c4 lr lr w8 (I2.out.below hb8) (I4.out.below hb8)
            rw [decide_eq_true rfl] at Q2
            clear hb8 C7 RD7 RE7 B7 I2 I4
            go_wp2_with fail
            refine Q2.mono ?_
            clear Q2
            rintro e w9 ⟨rfl, hb9⟩
            have C9 := Lib.hid (C8.out.below hb9)
            have RD9 := Lib.hid (RD8.out.below hb9)
            have RE9 := Lib.hid (RE8.out.below hb9)
            have B9 := Lib.hid (bel2 B8.out hb9)
            clear hb9 C8 RD8 RE8 B8
            go_wp2_with fail
            go_roundw
            case rel => exact ⟨1 + 1, by go_num, by omega, C9.out, RD9.out, RE9.out, B9.out⟩
            case measure => simp [intOf]
          · clear HC
            go_wp2_with fail
            go_roundw
            case rel => exact ⟨0 + 1, by go_num, by omega, HRD.out, HRE.out, HB.out⟩
            case measure => simp [intOf]
      · have AR := arr39_1 D E wr
        have b4 : Below wr.heap.size wr (wr.alloc (.cells E.cells 33)) := bal (Below.refl _ _) _
        have C4 := Lib.hid (c13_new wr E)
        have RD4 := Lib.hid (hRD.below b4)
        have RE4 := Lib.hid (hRE.below b4)
        have B4 := Lib.hid (bel2 hB b4)
        have MF := mod_any f 5 (by decide) (by decide)
        have MT := mod_any t 5 (by decide) (by decide)
        unfold PD.cells at AR C4 RD4 RE4 B4
        clear b4 hRD hRE hB
        go_upto_region 7 with fail
        generalize wr.alloc (.cells #[.int .i64 E.p, .slice (E.A 0) (E.n 0) (E.c 0), .slice (E.A 1) (E.n 1) (E.c 1), .slice (E.A 2) (E.n 2) (E.c 2), .slice (E.A 3) (E.n 3) (E.c 3), .int .i64 (E.e 0), .int .i64 (E.e 1), .int .i64 (E.e 2), .int .i64 (E.e 3), .int .i64 (E.e 4), .int .i64 (E.e 5), .int .i64 E.wd, .int .i64 E.ws] 33) = w4 at *
        generalize wr.heap.size = L9 at *
        generalize hqf : modOf f 5 = qf at *
        generalize hqt : modOf t 5 = qt at *
        clear hqf hqt AR
        go_wp2_with fail
        refine (MF _).mono ?_
        rintro e w5 ⟨rfl, rfl⟩
        go_wp2_with fail
        refine (MT _).mono ?_
        rintro e w5 ⟨rfl, rfl⟩
        go_wp2_with fail
        clear MF MT
        go_loopw [42] (fun vj wr => ∃ j : Nat, vj = .int .i64 j ∧ j ≤ 2 ∧ C13 wr L9 E ∧ Rl wr D l ∧ Rl wr E m ∧ Below w.heap.size w wr) (fun i _ => 2 - (intOf i).toNat)
        case atStart => exact ⟨0, rfl, by omega, C4.out, RD4.out, RE4.out, B4.out⟩
        case round =>
          clear C4 RD4 RE4 B4
          obtain ⟨j, rfl, hj, hC, hRD, hRE, hB⟩ := hrel
          have HC := Lib.hid hC
          have HRD := Lib.hid hRD
          have HRE := Lib.hid hRE
          have HB := Lib.hid hB
          clear hC hRD hRE hB
          rcases (show j = 0 ∨ j = 1 ∨ j = 2 by omega) with rfl | rfl | rfl
          · have AR := arr41_0 f t qf qt wr
            have P1 := Lib.hid (fun W (h : Rl W E m) => chg_any E m f t W h LNE.out)
            have P2 := Lib.hid (fun W (h : Rl W E m) => rchg_any E m f t W h LNE.out)
            generalize chgR m f t = r at *
            obtain ⟨la, lr, er⟩ := r
            have b5 : Below wr.heap.size wr (wr.alloc (.cells #[.int .i64 f, .int .i64 t] 40)) := bal (Below.refl _ _) _
            have C5 := Lib.hid (HC.out.below b5)
            have RD5 := Lib.hid (HRD.out.below b5)
            have RE5 := Lib.hid (HRE.out.below b5)
            have B5 := Lib.hid (bel2 HB.out b5)
            have z0 : (wr.alloc (.cells #[.int .i64 f, .int .i64 t] 40)).cell? ⟨wr.heap.size, 0, none⟩ = some (.int .i64 f) := (new_c wr _ 40 0).trans rfl
            have z1 : (wr.alloc (.cells #[.int .i64 f, .int .i64 t] 40)).cell? ⟨wr.heap.size, 1, none⟩ = some (.int .i64 t) := (new_c wr _ 40 1).trans rfl
            have hzl : wr.heap.size < (wr.alloc (.cells #[.int .i64 f, .int .i64 t] 40)).heap.size := by simp
            clear HC HRD HRE HB b5
            go_upto_region 10 with fail
            generalize wr.alloc (.cells #[.int .i64 f, .int .i64 t] 40) = w5 at *
            generalize wr.heap.size = Q at *
            obtain ⟨hl5, x0, x1, x2, x3, x4, x5, x6, x7, x8, x9, x10, x11, x12⟩ := C5.out
            go_wp2_with fail
            refine (P1.out _ RE5.out).mono ?_
            clear P1 x0 x1 x2 x3 x4 x5 x6 x7 x8 x9 x10 x11 x12
            rintro e w6 ⟨A1, c1, A2, c2, rfl, I1, I2, hb6⟩
            have z0 := (hb6.cell (p := ⟨Q, 0, none⟩) (by exact hzl)).trans z0
            have z1 := (hb6.cell (p := ⟨Q, 1, none⟩) (by exact hzl)).trans z1
            have C6 := Lib.hid (C5.out.below hb6)
            have RD6 := Lib.hid (RD5.out.below hb6)
            have RE6 := Lib.hid (RE5.out.below hb6)
            have B6 := Lib.hid (bel2 B5.out hb6)
            have I1 := Lib.hid I1
            have I2 := Lib.hid I2
            have hQ6 : Q < w6.heap.size := by have := hb6.size; omega
            clear hb6 C5 RD5 RE5 B5 hzl hl5
            obtain ⟨hl6, x0, x1, x2, x3, x4, x5, x6, x7, x8, x9, x10, x11, x12⟩ := C6.out
            go_wp2_with fail
            refine (P2.out _ RE6.out).mono ?_
            clear P2 x0 x1 x2 x3 x4 x5 x6 x7 x8 x9 x10 x11 x12 z0 z1
            rintro e w7 ⟨A3, c3, A4, c4, rfl, I3, I4, hb7⟩
            have C7 := Lib.hid (C6.out.below hb7)
            have RD7 := Lib.hid (RD6.out.below hb7)
            have RE7 := Lib.hid (RE6.out.below hb7)
            have B7 := Lib.hid (bel2 B6.out hb7)
            have I1 := Lib.hid (I1.out.below hb7)
            have I2 := Lib.hid (I2.out.below hb7)
            have I4 := Lib.hid I4
            have Q1 := eql_any A1 A3 c1 c3 la la w7 I1.out I3
            rw [decide_eq_true rfl] at Q1
            clear hb7 C6 RD6 RE6 B6 I3 hl6 I1 hQ6
            go_wp2_with fail
            refine Q1.mono ?_
            clear Q1
            rintro e w8 ⟨rfl, hb8⟩
            have C8 := Lib.hid (C7.out.below hb8)
            have RD8 := Lib.hid (RD7.out.below hb8)
            have RE8 := Lib.hid (RE7.out.below hb8)
            have B8 := Lib.hid (bel2 B7.out hb8)
            have Q2 := eql_any A2 A4 c2 c4 lr lr w8 (I2.out.below hb8) (I4.out.below hb8)
            rw [decide_eq_true rfl] at Q2
            clear hb8 C7 RD7 RE7 B7 I2 I4
            go_wp2_with fail
            refine Q2.mono ?_
            clear Q2
            rintro e w9 ⟨rfl, hb9⟩
            have C9 := Lib.hid (C8.out.below hb9)
            have RD9 := Lib.hid (RD8.out.below hb9)
            have RE9 := Lib.hid (RE8.out.below hb9)
            have B9 := Lib.hid (bel2 B8.out hb9)
            clear hb9 C8 RD8 RE8 B8
            go_wp2_with fail
            go_roundw
            case rel => exact ⟨0 + 1, by go_num, by omega, C9.out, RD9.out, RE9.out, B9.out⟩
            case measure => simp [intOf]
          · have AR := arr41_1 f t qf qt wr
            have P1 := Lib.hid (fun W (h : Rl W E m) => chg_any E m (qf : Int) (qt : Int) W h LNE.out)
            have P2 := Lib.hid (fun W (h : Rl W E m) => rchg_any E m (qf : Int) (qt : Int) W h LNE.out)
            generalize chgR m (qf : Int) (qt : Int) = r at *
            obtain ⟨la, lr, er⟩ := r
            have b5 : Below wr.heap.size wr (wr.alloc (.cells #[.int .i64 (qf : Int), .int .i64 (qt : Int)] 40)) := bal (Below.refl _ _) _
            have C5 := Lib.hid (HC.out.below b5)
            have RD5 := Lib.hid (HRD.out.below b5)
            have RE5 := Lib.hid (HRE.out.below b5)
            have B5 := Lib.hid (bel2 HB.out b5)
            have z0 : (wr.alloc (.cells #[.int .i64 (qf : Int), .int .i64 (qt : Int)] 40)).cell? ⟨wr.heap.size, 0, none⟩ = some (.int .i64 (qf : Int)) := (new_c wr _ 40 0).trans rfl
            have z1 : (wr.alloc (.cells #[.int .i64 (qf : Int), .int .i64 (qt : Int)] 40)).cell? ⟨wr.heap.size, 1, none⟩ = some (.int .i64 (qt : Int)) := (new_c wr _ 40 1).trans rfl
            have hzl : wr.heap.size < (wr.alloc (.cells #[.int .i64 (qf : Int), .int .i64 (qt : Int)] 40)).heap.size := by simp
            clear HC HRD HRE HB b5
            go_upto_region 10 with fail
            generalize wr.alloc (.cells #[.int .i64 (qf : Int), .int .i64 (qt : Int)] 40) = w5 at *
            generalize wr.heap.size = Q at *
            obtain ⟨hl5, x0, x1, x2, x3, x4, x5, x6, x7, x8, x9, x10, x11, x12⟩ := C5.out
            go_wp2_with fail
            refine (P1.out _ RE5.out).mono ?_
            clear P1 x0 x1 x2 x3 x4 x5 x6 x7 x8 x9 x10 x11 x12
            rintro e w6 ⟨A1, c1, A2, c2, rfl, I1, I2, hb6⟩
            have z0 := (hb6.cell (p := ⟨Q, 0, none⟩) (by exact hzl)).trans z0
            have z1 := (hb6.cell (p := ⟨Q, 1, none⟩) (by exact hzl)).trans z1
            have C6 := Lib.hid (C5.out.below hb6)
            have RD6 := Lib.hid (RD5.out.below hb6)
            have RE6 := Lib.hid (RE5.out.below hb6)
            have B6 := Lib.hid (bel2 B5.out hb6)
            have I1 := Lib.hid I1
            have I2 := Lib.hid I2
            have hQ6 : Q < w6.heap.size := by have := hb6.size; omega
            clear hb6 C5 RD5 RE5 B5 hzl hl5
            obtain ⟨hl6, x0, x1, x2, x3, x4, x5, x6, x7, x8, x9, x10, x11, x12⟩ := C6.out
            go_wp2_with fail
            refine (P2.out _ RE6.out).mono ?_
            clear P2 x0 x1 x2 x3 x4 x5 x6 x7 x8 x9 x10 x11 x12 z0 z1
            rintro e w7 ⟨A3, c3, A4, c4, rfl, I3, I4, hb7⟩
            have C7 := Lib.hid (C6.out.below hb7)
            have RD7 := Lib.hid (RD6.out.below hb7)
            have RE7 := Lib.hid (RE6.out.below hb7)
            have B7 := Lib.hid (bel2 B6.out hb7)
            have I1 := Lib.hid (I1.out.below hb7)
            have I2 := Lib.hid (I2.out.below hb7)
            have I4 := Lib.hid I4
            have Q1 := eql_any A1 A3 c1 c3 la la w7 I1.out I3
            rw [decide_eq_true rfl] at Q1
            clear hb7 C6 RD6 RE6 B6 I3 hl6 I1 hQ6
            go_wp2_with fail
            refine Q1.mono ?_
            clear Q1
            rintro e w8 ⟨rfl, hb8⟩
            have C8 := Lib.hid (C7.out.below hb8)
            have RD8 := Lib.hid (RD7.out.below hb8)
            have RE8 := Lib.hid (RE7.out.below hb8)
            have B8 := Lib.hid (bel2 B7.out hb8)
            have Q2 := eql_any A2 A4 c2 c4 lr lr w8 (I2.out.below hb8) (I4.out.below hb8)
            rw [decide_eq_true rfl] at Q2
            clear hb8 C7 RD7 RE7 B7 I2 I4
            go_wp2_with fail
            refine Q2.mono ?_
            clear Q2
            rintro e w9 ⟨rfl, hb9⟩
            have C9 := Lib.hid (C8.out.below hb9)
            have RD9 := Lib.hid (RD8.out.below hb9)
            have RE9 := Lib.hid (RE8.out.below hb9)
            have B9 := Lib.hid (bel2 B8.out hb9)
            clear hb9 C8 RD8 RE8 B8
            go_wp2_with fail
            go_roundw
            case rel => exact ⟨1 + 1, by go_num, by omega, C9.out, RD9.out, RE9.out, B9.out⟩
            case measure => simp [intOf]
          · clear HC
            go_wp2_with fail
            go_roundw
            case rel => exact ⟨1 + 1, by go_num, by omega, HRD.out, HRE.out, HB.out⟩
            case measure => simp [intOf]
      · have HB := Lib.hid hB
        clear hRD hRE hB
        have q : ¬ (2 : Int) < 2 := by omega
        have q2 : decide ((2 : Int) < 2) = false := by decide
        go_wp2_with (go_at_call 14; refine (AW.out _).mono ?_; rintro e w9 ⟨rfl, hb9⟩)
        go_ret
        exact ⟨rfl, bel2 HB.out hb9⟩
end Go.Proofs.Ytejfopjnokopeaa
