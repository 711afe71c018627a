/- Sources in the course of a law; the sanity check. -/
import Derived.Test.YtmhabdpnakbfpaaEvs
namespace Go.Proofs.Ytmhabdpnakbfpaa
open Go.ChangeShapes Go.WideShapes Go.ChangeAt Go.RowKit Go.Deep Go.Joins

/-- Sources that were made since w0; nothing that was there has changed. -/
structure D1 (w0 w : World) (s : WS) : Prop where
  k : Wk w s
  l : w0.heap.size ≤ s.L
  x : w0.heap.size ≤ s.X
  b : Below w0.heap.size w0 w
section
variable {w0 w w' : World} {s : WS}
theorem D1.below (h : D1 w0 w s) (hb : Below w.heap.size w w') : D1 w0 w' s := ⟨h.k.below hb, h.l, h.x, bel2 h.b hb⟩
theorem D1.op {r : WS × Int} {e : Ending} (h : D1 w0 w s) (hp : OpQ w s r e w') : ∃ X A c, e = .returned (.int .i64 r.2) ∧ D1 w0 w' (r.1.loc s.L X A c) := by
  obtain ⟨X, A, c, he, hk, hc, hX⟩ := hp
  refine ⟨X, A, c, he, hk, h.l, ?_, Below.chg h.b hc h.b.size (fun b hb => ?_)⟩
  · show w0.heap.size ≤ X
    have := h.b.size
    have := h.x
    omega
  · have := h.l
    have := h.x
    rcases hb with hb | ⟨hb, _⟩ <;> omega
theorem D1.op1 {t : WS} {v : Value} {e : Ending} (h : D1 w0 w s) (hS : Sm s t) (hp : OpP w s t v e w') : e = .returned v ∧ D1 w0 w' t := by
  obtain ⟨he, hk, hc⟩ := hp
  refine ⟨he, hk, by rw [hS.L]; exact h.l, by rw [hS.X]; exact h.x, Below.chg h.b hc h.b.size (fun b hb => ?_)⟩
  have := h.l
  have := h.x
  rcases hb with hb | ⟨hb, _⟩ <;> omega
end
theorem loc_L (s : WS) (L X : Nat) (A : Option Addr) (c : Nat) : (s.loc L X A c).L = L := rfl
def aS1 (L X : Nat) : WS := (pulS (s0 2 L X) 0 10 5).1
def aS2 (L X L' X' : Nat) (A : Option Addr) (c : Nat) : WS := (avS ((armS (aS1 L X) 0 12).1.loc L' X' A c) 15).1
def aS3 (L X L' X' : Nat) (A : Option Addr) (c : Nat) (X2 : Nat) (A2 : Option Addr) (c2 : Nat) : WS := (actS ((armS (aS2 L X L' X' A c) 1 16).1.loc L' X2 A2 c2) 1 17).1
set_option maxRecDepth 20000 in
theorem a_1 (L X : Nat) : (pulS (s0 2 L X) 0 10 5).2 = 0 := by kernel_rfl
set_option maxRecDepth 20000 in
theorem a_2 (L X : Nat) : (aS1 L X).ev = 0 ∧ cnt (aS1 L X) = 1 := ⟨by kernel_rfl, by kernel_rfl⟩
set_option maxRecDepth 20000 in
theorem a_3 (L X : Nat) : (armS (aS1 L X) 0 12).2 = 17 := by kernel_rfl
set_option maxRecDepth 20000 in
theorem a_4 (L X L' X' : Nat) (A : Option Addr) (c : Nat) : (avS ((armS (aS1 L X) 0 12).1.loc L' X' A c) 15).2 = 0 := by kernel_rfl
set_option maxRecDepth 20000 in
theorem a_5 (L X L' X' : Nat) (A : Option Addr) (c : Nat) : (aS2 L X L' X' A c).ev = 1 ∧ cnt (aS2 L X L' X' A c) = 0 := ⟨by kernel_rfl, by kernel_rfl⟩
set_option maxRecDepth 20000 in
theorem a_6 (L X L' X' : Nat) (A : Option Addr) (c : Nat) : (armS (aS2 L X L' X' A c) 1 16).2 = 0 := by kernel_rfl
set_option maxRecDepth 20000 in
theorem a_7 (L X L' X' : Nat) (A : Option Addr) (c : Nat) (X2 : Nat) (A2 : Option Addr) (c2 : Nat) : (actS ((armS (aS2 L X L' X' A c) 1 16).1.loc L' X2 A2 c2) 1 17).2 = 0 := by kernel_rfl
set_option maxRecDepth 20000 in
theorem a_8 (L X L' X' : Nat) (A : Option Addr) (c : Nat) (X2 : Nat) (A2 : Option Addr) (c2 : Nat) : mab (aS3 L X L' X' A c X2 A2 c2) = true := by kernel_rfl
set_option maxRecDepth 20000 in
set_option maxHeartbeats 16000000 in
theorem awake_any (w : World) : Calls Try.prog 10 #[] w (LawPost w) := by
  have NW := new_any 2 w
  go_enter Try.func10, Try.ntmps10
  go_wp2_with fail
  refine NW.mono ?_
  clear NW
  rintro e w1 (⟨k, hk, -, L, X, rfl, hW, hL, hX, hB⟩ | ⟨h, -, -⟩)
  case inr => omega
  obtain rfl : k = 2 := by omega
  have D : Hid (D1 w w1 (s0 2 L X)) := ⟨hW, hL, hX, hB⟩
  have P := pul_any hW 0 10 5
  rw [a_1] at P
  clear hW hL hX hB hk
  go_wp2_with fail
  refine P.mono ?_
  clear P
  intro e w2 hp
  obtain ⟨rfl, D2⟩ := D.out.op1 (sm_pul _ _ _ _) hp
  have D2 : Hid (D1 w w2 (aS1 L X)) := D2
  have hL1 : (aS1 L X).L = L := by unfold aS1; rw [(sm_pul (s0 2 L X) 0 10 5).L]; rfl
  have P : Calls Try.prog 17 #[.pointer (some ⟨L, 0, none⟩)] w2 (QuP w2 (.tuple #[.int .i64 0, .int .i64 1])) := by
    have := cnt_any D2.out.k
    rw [(a_2 L X).1, (a_2 L X).2, hL1] at this
    exact this
  clear D hp
  go_wp2_with fail
  refine P.mono ?_
  clear P
  rintro e w3 ⟨rfl, hb⟩
  have D3 := Lib.hid (D2.out.below hb)
  have P : Calls Try.prog 25 #[.pointer (some ⟨L, 0, none⟩), .int .i64 0, .int .u64 12] w3 (OpQ w3 (aS1 L X) (armS (aS1 L X) 0 12)) := by
    have := arm_any D3.out.k 0 12
    rw [hL1] at this
    exact this
  clear D2 hb
  go_wp2_with fail
  refine P.mono ?_
  clear P
  intro e w4 hp
  obtain ⟨X1, A1, c1, rfl, D4⟩ := D3.out.op hp
  rw [a_3]
  rw [hL1] at D4
  have D4 := Lib.hid D4
  have P := avc_any D4.out.k 15
  rw [a_4, loc_L] at P
  clear D3 hp
  go_wp2_with fail
  refine P.mono ?_
  clear P
  intro e w5 hp
  obtain ⟨rfl, D5⟩ := D4.out.op1 (sm_av _ _) hp
  have D5 : Hid (D1 w w5 (aS2 L X L X1 A1 c1)) := D5
  have hL2 : (aS2 L X L X1 A1 c1).L = L := by unfold aS2; rw [(sm_av _ 15).L]; exact loc_L _ _ _ _ _
  have P : Calls Try.prog 17 #[.pointer (some ⟨L, 0, none⟩)] w5 (QuP w5 (.tuple #[.int .i64 1, .int .i64 0])) := by
    have := cnt_any D5.out.k
    rw [(a_5 L X L X1 A1 c1).1, (a_5 L X L X1 A1 c1).2, hL2] at this
    exact this
  clear D4 hp
  go_wp2_with fail
  refine P.mono ?_
  clear P
  rintro e w6 ⟨rfl, hb⟩
  have D6 := Lib.hid (D5.out.below hb)
  have P : Calls Try.prog 25 #[.pointer (some ⟨L, 0, none⟩), .int .i64 1, .int .u64 16] w6 (OpQ w6 (aS2 L X L X1 A1 c1) (armS (aS2 L X L X1 A1 c1) 1 16)) := by
    have := arm_any D6.out.k 1 16
    rw [hL2] at this
    exact this
  clear D5 hb
  go_wp2_with fail
  refine P.mono ?_
  clear P
  intro e w7 hp
  obtain ⟨X2, A2, c2, rfl, D7⟩ := D6.out.op hp
  rw [a_6]
  rw [hL2] at D7
  have D7 := Lib.hid D7
  have P := act_any D7.out.k 1 17
  rw [a_7, loc_L] at P
  clear D6 hp
  go_wp2_with fail
  refine P.mono ?_
  clear P
  intro e w8 hp
  obtain ⟨rfl, D8⟩ := D7.out.op1 (sm_act _ _ _) hp
  have D8 : Hid (D1 w w8 (aS3 L X L X1 A1 c1 X2 A2 c2)) := D8
  have hL3 : (aS3 L X L X1 A1 c1 X2 A2 c2).L = L := by unfold aS3; rw [(sm_act _ 1 17).L]; exact loc_L _ _ _ _ _
  have P : Calls Try.prog 19 #[.pointer (some ⟨L, 0, none⟩)] w8 (QuP w8 (.bool true)) := by
    have := mab_any D8.out.k
    rw [a_8, hL3] at this
    exact this
  clear D7 hp
  go_wp2_with fail
  refine P.mono ?_
  clear P
  rintro e w9 ⟨rfl, hb⟩
  have F := Lib.hid (bel2 D8.out.b hb)
  clear D8 hb
  go_wp2
  go_ret
  exact ⟨rfl, F.out⟩
end Go.Proofs.Ytmhabdpnakbfpaa
