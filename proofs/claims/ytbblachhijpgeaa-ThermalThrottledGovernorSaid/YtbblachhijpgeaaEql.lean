/- help.Equal. -/
import Derived.Test.YtbblachhijpgeaaAlw
namespace Go.Proofs.Ytbblachhijpgeaa
open Go.RowKit

/-- A slice that reads as the list l. -/
def RLU (w : World) (A : Option Addr) (l : List Int) : Prop := l.length ≤ 9223372036854775807 ∧ (l = [] ∨ ∃ b off, A = some ⟨b, off, none⟩ ∧ b < w.heap.size ∧ ∀ i, i < l.length → w.cell? ⟨b, off + i, none⟩ = some (Value.int .u64 (l.getD i 0)))
theorem RLU.below {w w' : World} {A : Option Addr} {l : List Int} (h : RLU w A l) (hb : Below w.heap.size w w') : RLU w' A l := by
  refine ⟨h.1, ?_⟩
  rcases h.2 with h0 | ⟨b, off, hA, hlt, hc⟩
  · exact .inl h0
  · exact .inr ⟨b, off, hA, Nat.lt_of_lt_of_le hlt hb.size, fun i hi => (hb.cell (p := ⟨b, off + i, none⟩) hlt).trans (hc i hi)⟩
def eqToU (l m : List Int) (k : Nat) : Prop := ∀ i, i < k → l.getD i 0 = m.getD i 0
theorem eq_of_toU {l m : List Int} (hl : l.length = m.length) (h : eqToU l m l.length) : l = m := by
  apply List.ext_getElem hl
  intro i h1 h2
  have := h i h1
  simpa [List.getD_eq_getElem?_getD, h1, h2] using this
set_option maxRecDepth 100000 in
set_option maxHeartbeats 2000000 in
theorem eqlU (A B : Option Addr) (c d : Nat) (l m : List Int) (w : World) (hl : RLU w A l) (hm : RLU w B m) : Calls Try.prog 24 #[.slice A l.length c, .slice B m.length d] w (BPost w (decide (l = m))) := by
  have ln := hl.1
  have mn := hm.1
  have HL := Lib.hid hl
  have HM := Lib.hid hm
  clear hl hm
  by_cases hn : l.length = m.length
  · have HN := Lib.hid hn
    have EQ : Hid (eqToU l m l.length → l = m) := eq_of_toU hn
    generalize hb : decide (l = m) = bb
    have HBB := Lib.hid hb
    have hnl : m.length = l.length := hn.symm
    rw [hnl]
    generalize hk : l.length = n at *
    have HK := Lib.hid hk
    clear hk hn hb hnl mn
    go_enter Try.func24, Try.ntmps24
    go_wp2_with fail
    go_loopw [5] (fun i wr => ∃ k : Nat, k ≤ n ∧ i = .int .i64 k ∧ Below w.heap.size w wr ∧ Hid (eqToU l m k)) (fun i _ => n - (intOf i).toNat)
    case atStart => exact ⟨0, Nat.zero_le _, rfl, Below.refl _ _, fun i hi => by omega⟩
    case round =>
      obtain ⟨k, hk, rfl, hB, HT⟩ := hrel
      by_cases hlt : k < n
      · rcases HL.out.2 with h0 | ⟨b1, o1, rfl, l1, c1⟩
        · have := HK.out; rw [h0] at this; simp at this; omega
        rcases HM.out.2 with h0 | ⟨b2, o2, rfl, l2, c2⟩
        · have := HN.out; have := HK.out; rw [h0] at *; simp at *; omega
        have e1 := (hB.cell (p := ⟨b1, o1 + k, none⟩) l1).trans (c1 k (by have := HK.out; omega))
        have e2 := (hB.cell (p := ⟨b2, o2 + k, none⟩) l2).trans (c2 k (by have := HK.out; have := HN.out; omega))
        have NX : Hid (l.getD k 0 = m.getD k 0 → eqToU l m (k + 1)) := fun e i hi => by
          rcases Nat.lt_or_ge i k with h | h
          · exact HT.out i h
          · have : i = k := by omega
            subst this; exact e
        have NO : Hid (l.getD k 0 ≠ m.getD k 0 → bb = false) := fun e => by
          rw [← HBB.out]
          exact decide_eq_false (fun h => e (by rw [h]))
        clear c1 c2
        generalize l.getD k 0 = x at *
        generalize m.getD k 0 = y at *
        have HB := Lib.hid hB
        clear hB
        by_cases hxy : x = y
        · have KEEP := Lib.hid (NX.out hxy)
          have hne : (x != y) = false := by simp [hxy]
          clear NX NO hxy
          go_wp2_with fail
          go_quiet (fail)
          go_wp2
          go_roundw
          case rel => exact ⟨k + 1, by omega, by go_num, below_drewN HB.out _, KEEP⟩
          case measure => simp [intOf]; omega
        · have F := Lib.hid (NO.out hxy)
          have hne : (x != y) = true := by simp [hxy]
          clear NX NO hxy
          go_wp2_with fail
          go_quiet (fail)
          go_wp2
          go_ret
          exact ⟨by rw [F.out]; rfl, below_drewN HB.out _⟩
      · have hkn : k = n := by omega
        have F : Hid (bb = true) := by
          show bb = true
          rw [← HBB.out]
          exact decide_eq_true (EQ.out (by rw [hkn] at HT; have := HT.out; exact this))
        have HB := Lib.hid hB
        clear hB hkn
        go_wp2
        go_ret
        exact ⟨by rw [F.out]; rfl, HB.out⟩
  · have F : Hid (decide (l = m) = false) := decide_eq_false (fun h => hn (by rw [h]))
    generalize decide (l = m) = bb at *
    generalize l.length = n at *
    generalize m.length = k at *
    have hne : ((n : Int) != (k : Int)) = true := by simp; omega
    clear HL HM
    go_enter Try.func24, Try.ntmps24
    go_wp2
    go_ret
    exact ⟨by rw [F.out]; rfl, Below.refl _ _⟩

/-- A slice that reads as the list l. -/
def RLB (w : World) (A : Option Addr) (l : List Bool) : Prop := l.length ≤ 9223372036854775807 ∧ (l = [] ∨ ∃ b off, A = some ⟨b, off, none⟩ ∧ b < w.heap.size ∧ ∀ i, i < l.length → w.cell? ⟨b, off + i, none⟩ = some (Value.bool (l.getD i false)))
theorem RLB.below {w w' : World} {A : Option Addr} {l : List Bool} (h : RLB w A l) (hb : Below w.heap.size w w') : RLB w' A l := by
  refine ⟨h.1, ?_⟩
  rcases h.2 with h0 | ⟨b, off, hA, hlt, hc⟩
  · exact .inl h0
  · exact .inr ⟨b, off, hA, Nat.lt_of_lt_of_le hlt hb.size, fun i hi => (hb.cell (p := ⟨b, off + i, none⟩) hlt).trans (hc i hi)⟩
def eqToB (l m : List Bool) (k : Nat) : Prop := ∀ i, i < k → l.getD i false = m.getD i false
theorem eq_of_toB {l m : List Bool} (hl : l.length = m.length) (h : eqToB l m l.length) : l = m := by
  apply List.ext_getElem hl
  intro i h1 h2
  have := h i h1
  simpa [List.getD_eq_getElem?_getD, h1, h2] using this
theorem NL.rl {B : Nat} {w : World} {A : Option Addr} {l : List Int} (h : NL .u64 B w A l) (hn : l.length ≤ 9223372036854775807) : RLU w A l := by
  refine ⟨hn, ?_⟩
  rcases h with h0 | ⟨g, rfl, hB, hlt, hc, _⟩
  · exact .inl h0
  · exact .inr ⟨g, 0, rfl, hlt, fun i hi => by rw [Nat.zero_add]; exact hc i hi⟩
end Go.Proofs.Ytbblachhijpgeaa
