/- sort.Search over the closure of Allocate. -/
import Derived.Test.YtbblachhijpgeaaAtl
namespace Go.Proofs.Ytbblachhijpgeaa
open Go.RowKit

/-- The boxes that the closure holds. -/
structure Box (w : World) (b3 b2 : Nat) (A : Option Addr) (n c : Nat) (bud : Int) : Prop where
  l3 : b3 < w.heap.size
  l2 : b2 < w.heap.size
  c3 : w.cell? ⟨b3, 0, none⟩ = some (.slice A n c)
  c2 : w.cell? ⟨b2, 0, none⟩ = some (.int .u64 bud)
theorem Box.below {w w' : World} {b3 b2 : Nat} {A : Option Addr} {n c : Nat} {bud : Int} (h : Box w b3 b2 A n c bud) (hb : Below w.heap.size w w') : Box w' b3 b2 A n c bud :=
  ⟨Nat.lt_of_lt_of_le h.l3 hb.size, Nat.lt_of_lt_of_le h.l2 hb.size, (hb.cell h.l3).trans h.c3, (hb.cell h.l2).trans h.c2⟩
theorem clo_any (b3 b2 : Nat) (A : Option Addr) (n c : Nat) (f : Nat → St) (bud : Int) (lv : Nat) (w : World) (h : SlS .u64 w A n f) (hv : GA n f) (hx : Box w b3 b2 A n c bud) (hl : lv ≤ 4294967296) :
    Calls Try.prog 35 #[.int .i64 lv, .pointer (some ⟨b3, 0, none⟩), .pointer (some ⟨b2, 0, none⟩)] w (BPost w (decide (bud < atS lv f n))) := by
  have P := at_any A n c f lv w h hv
  obtain ⟨l3, l2, c3, c2⟩ := hx
  clear h
  have hw : IntKind.u64.wrap (lv : Int) = lv := by rw [IntKind.wrap_u64]; omega
  go_enter Try.func35, Try.ntmps35
  go_wp2_with fail
  refine P.mono ?_
  rintro e w1 ⟨A1, cc, rfl, _, hb, _⟩
  have c2' := (hb.cell (p := ⟨b2, 0, none⟩) l2).trans c2
  generalize atS lv f n = s at *
  have HB := Lib.hid hb
  clear hb c3 c2 P
  go_wp2
  go_ret
  exact ⟨rfl, HB.out⟩
def SrcP (w : World) (n : Nat) (f : Nat → St) (bud : Int) (e : Ending) (w' : World) : Prop :=
  ∃ r : Nat, e = .returned (.int .i64 r) ∧ r ≤ 4294967296 ∧ (r = 0 ∨ atS ((r - 1 : Nat) : Int) f n ≤ bud) ∧ (r = 4294967296 ∨ bud < atS (r : Int) f n) ∧ Below w.heap.size w w'
set_option maxRecDepth 100000 in
set_option maxHeartbeats 4000000 in
theorem src_any (b3 b2 : Nat) (A : Option Addr) (n c : Nat) (f : Nat → St) (bud : Int) (w : World) (h : SlS .u64 w A n f) (hv : GA n f) (hx : Box w b3 b2 A n c bud) :
    Calls Try.prog 34 #[.int .i64 4294967296, .func (.func 35) #[] #[.pointer (some ⟨b3, 0, none⟩), .pointer (some ⟨b2, 0, none⟩)]] w (SrcP w n f bud) := by
  have H := Lib.hid h
  have HX := Lib.hid hx
  have HV := Lib.hid hv
  clear h hx hv
  go_enter Try.func34, Try.ntmps34
  go_wp2_with fail
  go_loopw [5, 6] (fun i j wr => ∃ a b : Nat, a ≤ b ∧ b ≤ 4294967296 ∧ i = .int .i64 a ∧ j = .int .i64 b ∧ Below w.heap.size w wr ∧ Hid ((a = 0 ∨ atS ((a - 1 : Nat) : Int) f n ≤ bud) ∧ (b = 4294967296 ∨ bud < atS (b : Int) f n))) (fun i j _ => (intOf j).toNat - (intOf i).toNat)
  case atStart => exact ⟨0, 4294967296, by omega, by omega, rfl, rfl, Below.refl _ _, .inl rfl, .inl rfl⟩
  case round =>
    obtain ⟨a, b, hab, hbN, rfl, rfl, hB, HQ⟩ := hrel
    by_cases hlt : a < b
    · obtain ⟨m, hm⟩ : ∃ m : Nat, m = (a + b) / 2 := ⟨_, rfl⟩
      have hm1 : a ≤ m := by omega
      have hm2 : m < b := by omega
      have hmi : ((a : Int) + b) / 2 = m := by omega
      have P := clo_any b3 b2 A n c f bud m wr (H.out.below hB (Nat.le_refl _)) HV.out (HX.out.below hB) (by omega)
      have HBB := Lib.hid hB
      clear hB hm
      go_wp2_with fail
      refine P.mono ?_
      rintro e w2 ⟨rfl, hb2⟩
      have B2 := Lib.hid (bel2 HBB.out hb2)
      clear P hb2 HBB
      by_cases hq : bud < atS (m : Int) f n
      · rw [decide_eq_true hq]
        have NQ : Hid ((a = 0 ∨ atS ((a - 1 : Nat) : Int) f n ≤ bud) ∧ (m = 4294967296 ∨ bud < atS (m : Int) f n)) := ⟨HQ.out.1, .inr hq⟩
        clear hq HQ
        go_wp2
        go_roundw
        case rel => exact ⟨a, m, by omega, by omega, rfl, rfl, B2.out, NQ.out⟩
        case measure => simp [intOf]; omega
      · rw [decide_eq_false hq]
        have NQ : Hid ((m + 1 = 0 ∨ atS ((m + 1 - 1 : Nat) : Int) f n ≤ bud) ∧ (b = 4294967296 ∨ bud < atS (b : Int) f n)) := ⟨.inr (by rw [Nat.add_sub_cancel]; omega), HQ.out.2⟩
        clear hq HQ
        go_wp2
        go_roundw
        case rel => exact ⟨m + 1, b, by omega, by omega, by go_num, rfl, B2.out, NQ.out⟩
        case measure => simp [intOf]; omega
    · have hab : a = b := by omega
      subst hab
      have FIN : Hid (SrcP w n f bud (.returned (.int .i64 a)) wr) := ⟨a, rfl, by omega, HQ.out.1, HQ.out.2, hB⟩
      clear hB HQ
      go_wp2
      go_ret
      exact FIN.out
end Go.Proofs.Ytbblachhijpgeaa
