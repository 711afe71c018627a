/- A law's first region: the table and the parameters. -/
import Derived.Test.YtfmaadfccnjnjaaGsm
import Derived.Deep.RegionHeld3
namespace Go.Proofs.Ytfmaadfccnjnjaa
open Go.RowKit

theorem keepB {L : Nat} {a b d : Int} {w1 W : World} (hs : L < w1.heap.size) (h0 : w1.cell? ⟨L, 0, none⟩ = some (.int .i64 a)) (h1 : w1.cell? ⟨L, 1, none⟩ = some (.int .i64 b)) (h2 : w1.cell? ⟨L, 2, none⟩ = some (.int .i64 d)) (hb : Below w1.heap.size w1 W) :
    W.cell? ⟨L, 0, none⟩ = some (.int .i64 a) ∧ W.cell? ⟨L, 1, none⟩ = some (.int .i64 b) ∧ W.cell? ⟨L, 2, none⟩ = some (.int .i64 d) ∧ Below w1.heap.size w1 W :=
  ⟨(hb.cell (by exact hs)).trans h0, (hb.cell (by exact hs)).trans h1, (hb.cell (by exact hs)).trans h2, hb⟩
/-- What the first region of a law leaves: a table, and parameters in a new block. -/
def Reg3 (w : World) (m : Nat) (g : Nat → St) (up dn sp : Int) (t q : Value) (wx : World) : Prop :=
  ∃ G c Q, t = .slice (some ⟨G, 0, none⟩) (tbN m) c ∧ q = .pointer (some ⟨Q, 0, none⟩) ∧ SlS wx (some ⟨G, 0, none⟩) (tbN m) (tbF m g) ∧ Q < wx.heap.size ∧
    wx.cell? ⟨Q, 0, none⟩ = some (.int .i64 (pup up : Nat)) ∧ wx.cell? ⟨Q, 1, none⟩ = some (.int .i64 (pdn up dn : Nat)) ∧ wx.cell? ⟨Q, 2, none⟩ = some (.int .i64 (psp sp : Nat)) ∧ Below w.heap.size w wx
theorem reg3_mk {w wx : World} {m : Nat} {g : Nat → St} {up dn sp : Int} {G c Q : Nat} (hS : SlS wx (some ⟨G, 0, none⟩) (tbN m) (tbF m g)) (hB : Below w.heap.size w wx) (hQ : w.heap.size ≤ Q) (hG : G ≠ Q) (hq : ∃ x y z, QB (.cells #[x, y, z] 44) Q wx) :
    Reg3 w m g up dn sp (.slice (some ⟨G, 0, none⟩) (tbN m) c) (.pointer (some ⟨Q, 0, none⟩)) (((wx.setCell ⟨Q, 0, none⟩ (.int .i64 (pup up : Nat))).setCell ⟨Q, 1, none⟩ (.int .i64 (pdn up dn : Nat))).setCell ⟨Q, 2, none⟩ (.int .i64 (psp sp : Nat))) := by
  obtain ⟨x, y, z, hq⟩ := hq
  have hs : Q < wx.heap.size := (Array.getElem?_eq_some_iff.1 hq).1
  have h1 := heap_setCell_same wx Q 0 _ _ (.int .i64 (pup up : Nat)) hq
  have h2 := heap_setCell_same _ Q 1 _ _ (.int .i64 (pdn up dn : Nat)) h1
  have h3 := heap_setCell_same _ Q 2 _ _ (.int .i64 (psp sp : Nat)) h2
  refine ⟨G, c, Q, rfl, rfl, ?_, by simpa using hs, ?_, ?_, ?_, ((hB.setCell (p := ⟨Q, 0, none⟩) hQ _).setCell (p := ⟨Q, 1, none⟩) hQ _).setCell (p := ⟨Q, 2, none⟩) hQ _⟩
  · exact ((hS.grown (g_store wx Q 0 _) hG).grown (g_store _ Q 1 _) hG).grown (g_store _ Q 2 _) hG
  all_goals (unfold World.cell?; simp only [h3]; rfl)
theorem reg3_mk1 {w wx : World} {m : Nat} {g : Nat → St} {up dn sp : Int} {G c : Nat} (hS : SlS wx (some ⟨G, 0, none⟩) (tbN m) (tbF m g)) (hB : Below w.heap.size w wx) :
    Reg3 w m g up dn sp (.slice (some ⟨G, 0, none⟩) (tbN m) c) (.pointer (some ⟨wx.heap.size, 0, none⟩)) (wx.alloc (.cells #[.int .i64 (pup up : Nat), .int .i64 (pdn up dn : Nat), .int .i64 (psp sp : Nat)] 44)) := by
  refine ⟨G, c, _, rfl, rfl, hS.below (bal (Below.refl _ _) _) (Nat.le_refl _), by simp, ?_, ?_, ?_, bal hB _⟩ <;> simp [go_sem]
end Go.Proofs.Ytfmaadfccnjnjaa
