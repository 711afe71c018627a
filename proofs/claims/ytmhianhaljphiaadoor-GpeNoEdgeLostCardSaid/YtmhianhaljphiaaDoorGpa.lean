/- awake, and the statement on the size. -/
import Derived.Test.YtmhianhaljphiaaDoorGpw
namespace Go.Proofs.YtmhianhaljphiaaDoor
open Go.RowKit

theorem bls_two (w : World) : Bls (w.alloc (.cells #[.bool false, .bool false] 4)) (some ⟨w.heap.size, 0, none⟩) 2 (fun _ => false) :=
  .inr ⟨w.heap.size, 0, rfl, by simp, fun i hi => by
    have hh := heap_alloc_new w (Obj.cells #[.bool false, .bool false] 4)
    rcases (show i = 0 ∨ i = 1 by omega) with rfl | rfl <;> (unfold World.cell?; rw [hh]; rfl)⟩
def sA : GpS := new0 2 (lvl (fun _ => false) 2)
def sB : GpS := setS sA 1 true
def sC : GpS := enS sB 1 true
def sD : GpS := begS sC 1
theorem sC_next : nxV sC = .tuple #[.int .i64 1, .bool true] := by kernel_rfl
theorem sC_rdy : (rdy sC).getLsbD 1 = true := by decide
theorem sC_nm : pre (sC.lv.getLsbD 1) ++ nm 1 = { data := #[95, 69, 48, 49] } := by kernel_rfl
theorem sD_st : sD.st.getLsbD 1 = false := by decide
theorem sD_hd : sD.hd.getLsbD 1 = true := by decide
theorem chg_below {w w' : World} {L : Nat} {B : Nat} {a : World} (h : Below B a w) (c : Chg (fun k => k = L) w w') (hB : B ≤ L) (hs : B ≤ w.heap.size) : Below B a w' := Below.chg h c hs (fun k e => by subst e; exact hB)
theorem stepG {w w' a : World} {L : Nat} {s : GpS} (h : GpR w' L s ∧ Chg (fun k => k = L) w w') (b : Below a.heap.size a w) (hL : a.heap.size ≤ L) : GpR w' L s ∧ Below a.heap.size a w' :=
  ⟨h.1, chg_below b h.2 hL b.size⟩
theorem stepR {w w' a : World} {L : Nat} {s : GpS} (h : ∃ n, w' = w.drewN n) (r : GpR w L s) (b : Below a.heap.size a w) : GpR w' L s ∧ Below a.heap.size a w' := by
  obtain ⟨n, rfl⟩ := h
  exact ⟨r.of_block rfl, bel2 b ⟨rfl, rfl, rfl, Nat.le_refl _, fun _ _ => rfl⟩⟩
set_option maxHeartbeats 4000000 in
theorem awake_any (w : World) (hT : Tb w) : Calls Tryd.prog 10 #[] w (LawPost w) := by
  have HT := Lib.hid hT
  clear hT
  go_enter Tryd.func10, Tryd.ntmps10
  go_wp2_with fail
  have b1 : Below w.heap.size w (w.alloc (.cells #[.bool false, .bool false] 4)) := bal (Below.refl _ _) _
  have k1 := bls_two w
  have B1 := Lib.hid b1
  clear b1
  have P := new_any _ 2 2 _ _ k1 (by omega) (by omega)
  clear k1
  have hz : w.heap.size ≤ (w.alloc (Obj.cells #[.bool false, .bool false] 4)).heap.size := by simp
  generalize w.alloc (Obj.cells #[.bool false, .bool false] 4) = w1 at *
  refine P.mono ?_
  clear P
  rintro e w2 ⟨rfl, hR, hb⟩
  have R2 : Hid (GpR w2 w1.heap.size sA) := hR
  have B2 := Lib.hid (bel2 B1.out hb)
  have hz := Lib.hid hz
  clear hR hb B1
  generalize w1.heap.size = L at *
  go_wp2_with fail
  refine (set_any w2 L sA 1 true R2.out (by decide) (by decide)).mono ?_
  rintro e w3 ⟨rfl, hp⟩
  have S3 := Lib.hid (stepG (a := w) hp B2.out hz.out)
  clear R2 B2 hp
  go_wp2_with fail
  refine (enable_any w3 L sB 1 true S3.out.1 (by decide) (by decide)).mono ?_
  rintro e w4 ⟨rfl, hp⟩
  have S4 := Lib.hid (stepG (a := w) hp S3.out.2 hz.out)
  clear S3 hp
  have P := next_any w4 L sC S4.out.1 (HT.out.below S4.out.2 (Nat.le_refl _))
  rw [sC_next] at P
  go_wp2_with fail
  refine P.mono ?_
  clear P
  rintro e w5 ⟨rfl, hp⟩
  have S5 := Lib.hid (stepR (a := w) hp S4.out.1 S4.out.2)
  clear S4 hp
  have P := beg_any w5 L sC 1 S5.out.1 (by decide) (by decide) sC_rdy
  rw [sC_nm] at P
  go_wp2_with fail
  refine P.mono ?_
  clear P
  rintro e w6 ⟨rfl, hp⟩
  have S6 : Hid (GpR w6 L sD ∧ Below w.heap.size w w6) := (stepG (a := w) hp S5.out.2 hz.out)
  clear S5 hp
  have P := status_any w6 L sD 1 S6.out.1 (by decide) (by decide)
  rw [sD_st] at P
  go_wp2_with fail
  refine P.mono ?_
  clear P
  rintro e w7 ⟨rfl, hp⟩
  have S7 := Lib.hid (stepR (a := w) hp S6.out.1 S6.out.2)
  clear S6 hp
  go_wp2_with fail
  refine (cmp_any w7 L sD 1 S7.out.1 (by decide) (by decide) sD_hd).mono ?_
  rintro e w8 ⟨rfl, hp⟩
  have S8 := Lib.hid (stepG (a := w) hp S7.out.2 hz.out)
  clear S7 hp
  go_wp2
  go_ret
  exact ⟨rfl, S8.out.2⟩
end Go.Proofs.YtmhianhaljphiaaDoor
