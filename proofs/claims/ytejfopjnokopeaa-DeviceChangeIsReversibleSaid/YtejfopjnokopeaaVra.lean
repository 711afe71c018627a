/- Valid rails. -/
import Derived.Test.YtejfopjnokopeaaVal
namespace Go.Proofs.Ytejfopjnokopeaa
open Go.ChangeShapes Go.WideShapes Go.ChangeAt Go.RowKit Go.Deep Go.Joins

/-- The rails of a device in a world: a list for each state. -/
structure Rl (w : World) (d : PD) (l : Nat → List Int) : Prop where
  ln : ∀ k, k < 4 → d.n k = (l k).length
  il : ∀ k, k < 4 → Il w (d.A k) (l k)
theorem Rl.below {w w' : World} {d : PD} {l : Nat → List Int} (h : Rl w d l) (hb : Below w.heap.size w w') : Rl w' d l := ⟨h.ln, fun k hk => (h.il k hk).below hb⟩
def rlB (l : List Int) (n : Int) : Bool := ascL l && (decide (l.length = 0) || (decide (0 ≤ l.getD 0 0) && decide (l.getD (l.length - 1) 0 < n)))
def vrB (l : Nat → List Int) (n : Int) : Nat → Bool
  | 0 => true
  | k + 1 => vrB l n k && rlB (l k) n
theorem vrB_no {l : Nat → List Int} {n : Int} {k m : Nat} (hk : k < m) (h : rlB (l k) n = false) : vrB l n m = false := by
  induction m with
  | zero => omega
  | succ m ih =>
    show (vrB l n m && _) = false
    rcases Nat.lt_or_ge k m with h1 | h1
    · rw [ih h1]; rfl
    · have : k = m := by omega
      subst this
      rw [h, Bool.and_false]
set_option maxRecDepth 20000 in
theorem arr_sl (A : Nat → Option Addr) (n c : Nat → Nat) (k : Nat) (h : k < 4) (w : World) : (Instr.index 30 (.agg #[.slice (A 0) (n 0) (c 0), .slice (A 1) (n 1) (c 1), .slice (A 2) (n 2) (c 2), .slice (A 3) (n 3) (c 3)]) (.int .i64 k)).run Try.prog w = .ok (.slice (A k) (n k) (c k)) w := by
  rcases (show k = 0 ∨ k = 1 ∨ k = 2 ∨ k = 3 by omega) with rfl | rfl | rfl | rfl <;> kernel_rfl
set_option maxRecDepth 20000 in
set_option maxHeartbeats 16000000 in
theorem vr_any (d : PD) (l : Nat → List Int) (n : Int) (w : World) (h : Rl w d l) : Calls Try.prog 39 #[.agg d.cells, .int .i64 n] w (BPost w (vrB l n 4)) := by
  have b1 : Below w.heap.size w (w.alloc (.cells d.cells 33)) := bal (Below.refl _ _) _
  have z : ∀ j, (w.alloc (.cells d.cells 33)).cell? ⟨w.heap.size, j, none⟩ = d.cells[j]? := fun j => new_c w _ 33 j
  have hZ : w.heap.size < (w.alloc (.cells d.cells 33)).heap.size := by simp
  have B1 := Lib.hid b1
  have R1 := Lib.hid (h.below b1)
  have z1 : (w.alloc (.cells d.cells 33)).cell? ⟨w.heap.size, 1, none⟩ = some (.slice (d.A 0) (d.n 0) (d.c 0)) := by rw [z]; rfl
  have z2 : (w.alloc (.cells d.cells 33)).cell? ⟨w.heap.size, 2, none⟩ = some (.slice (d.A 1) (d.n 1) (d.c 1)) := by rw [z]; rfl
  have z3 : (w.alloc (.cells d.cells 33)).cell? ⟨w.heap.size, 3, none⟩ = some (.slice (d.A 2) (d.n 2) (d.c 2)) := by rw [z]; rfl
  have z4 : (w.alloc (.cells d.cells 33)).cell? ⟨w.heap.size, 4, none⟩ = some (.slice (d.A 3) (d.n 3) (d.c 3)) := by rw [z]; rfl
  have ARR := Lib.hid (fun k (hk : k < 4) W => arr_sl d.A d.n d.c k hk W)
  have NO := Lib.hid (fun k (hk : k < 4) hb => vrB_no (l := l) (n := n) hk hb)
  clear z b1 h
  generalize hR : vrB l n 4 = R at *
  have HR := Lib.hid hR
  clear hR
  go_enter Try.func39, Try.ntmps39
  go_upto_region 1 with fail
  generalize w.alloc (.cells d.cells 33) = w1 at *
  go_wp2_with fail
  go_loopw [9] (fun vi wr => ∃ k : Nat, vi = .int .i64 k ∧ k ≤ 4 ∧ Below w.heap.size w wr ∧ Below w1.heap.size w1 wr ∧ Hid (vrB l n k = true)) (fun i _ => 4 - (intOf i).toNat)
  case atStart => exact ⟨0, rfl, by omega, B1.out, Below.refl _ _, rfl⟩
  case round =>
    obtain ⟨k, rfl, hk, hB, hB1, HT⟩ := hrel
    have HB := Lib.hid hB
    have HB1 := Lib.hid hB1
    by_cases hlt : k < 4
    · have AR := ARR.out k hlt wr
      have IL := Lib.hid ((R1.out.il k hlt).below hB1)
      have P := asc_any (d.A k) (d.c k) (l k) wr IL.out
      rw [R1.out.ln k hlt] at AR
      have NK := Lib.hid (NO.out k hlt)
      have SK : Hid (vrB l n (k + 1) = (vrB l n k && rlB (l k) n)) := rfl
      have RB : Hid (rlB (l k) n = (ascL (l k) && (decide ((l k).length = 0) || (decide (0 ≤ (l k).getD 0 0) && decide ((l k).getD ((l k).length - 1) 0 < n))))) := rfl
      have hk6 : (k : Int) < 4 := by omega
      have hll := IL.out.len
      generalize d.A k = Ak at *
      generalize d.c k = ck at *
      generalize l k = lk at *
      generalize rlB lk n = rb at *
      generalize ascL lk = ab at *
      clear ARR NO hB hB1 z1 z2 z3 z4
      go_wp2_with fail
      refine P.mono ?_
      clear P
      rintro e w5 ⟨rfl, hb5⟩
      have HB5 := Lib.hid (bel2 HB.out hb5)
      have HB15 := Lib.hid (bel2 HB1.out hb5)
      have IL5 := Lib.hid (IL.out.below hb5)
      clear hb5 HB HB1 IL AR
      cases ab with
      | false =>
        have F : Hid (R = false) := by
          show _ = _
          exact NK.out (by rw [RB.out]; rfl)
        clear NK SK RB HR HT
        go_wp2
        go_ret
        exact ⟨by rw [F.out]; rfl, HB5.out⟩
      | true =>
        by_cases h0 : lk.length = 0
        · have q : ¬ (0 : Int) < (lk.length : Int) := by omega
          have h0 := Lib.hid h0
          have K : Hid (vrB l n (k + 1) = true) := by
            show _ = _
            rw [SK.out, HT.out, RB.out]
            rw [decide_eq_true h0.out]; rfl
          clear NK SK RB
          go_wp2_with fail
          go_roundw
          case rel => exact ⟨k + 1, by go_num, by omega, HB5.out, HB15.out, K⟩
          case measure => simp [intOf]; omega
        · have q : (0 : Int) < (lk.length : Int) := by omega
          obtain ⟨b, off, rfl, hb, c0⟩ := IL5.out.at (i := 0) (by omega)
          obtain ⟨b2, off2, e, -, c1⟩ := IL5.out.at (i := lk.length - 1) (by omega)
          injection e with e
          injection e with e1 e2
          subst e1 e2
          rw [Nat.add_zero] at c0
          have jl : (0 : Int) ≤ (lk.length : Int) - 1 := by omega
          have jn : ((lk.length : Int) - 1).toNat = lk.length - 1 := by omega
          have h0 := Lib.hid h0
          generalize lk.getD 0 0 = x0 at *
          generalize lk.getD (lk.length - 1) 0 = xl at *
          by_cases k1 : x0 < 0
          · have F : Hid (R = false) := by
              show _ = _
              exact NK.out (by rw [RB.out]; rw [decide_eq_false (show ¬ 0 ≤ x0 by omega), decide_eq_false h0.out]; rfl)
            clear NK SK RB HR HT
            go_wp2
            go_ret
            exact ⟨by rw [F.out]; rfl, HB5.out⟩
          · by_cases k2 : n ≤ xl
            · have F : Hid (R = false) := by
                show _ = _
                exact NK.out (by rw [RB.out]; rw [decide_eq_false (show ¬ xl < n by omega), decide_eq_false h0.out]; simp)
              clear NK SK RB HR HT
              go_wp2
              go_ret
              exact ⟨by rw [F.out]; rfl, HB5.out⟩
            · have K : Hid (vrB l n (k + 1) = true) := by
                show _ = _
                rw [SK.out, HT.out, RB.out]
                rw [decide_eq_true (show 0 ≤ x0 by omega), decide_eq_true (show xl < n by omega)]; simp
              clear NK SK RB
              go_wp2_with fail
              go_roundw
              case rel => exact ⟨k + 1, by go_num, by omega, HB5.out, HB15.out, K⟩
              case measure => simp [intOf]; omega
    · obtain rfl : k = 4 := by omega
      have F : Hid (R = true) := HR.out.symm.trans HT.out
      clear HR HT hB hB1 NO ARR
      go_wp2
      go_ret
      exact ⟨by rw [F.out]; rfl, HB.out⟩
end Go.Proofs.Ytejfopjnokopeaa
