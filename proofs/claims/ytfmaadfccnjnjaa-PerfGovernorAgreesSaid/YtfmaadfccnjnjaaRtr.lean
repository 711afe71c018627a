/- The reference's Transition. -/
import Derived.Test.YtfmaadfccnjnjaaRsf
namespace Go.Proofs.Ytfmaadfccnjnjaa
open Go.RowKit

theorem rtr_bad (A : Option Addr) (n c : Nat) (f : Nat → St) (a b : Int) (w : World) (h : SlS w A n f) (ho : trOk n f a b = false) :
    Calls Try.prog 20 #[.slice A n c, .int .i64 a, .int .i64 b] w (TraPost w n f a b) := by
  have C := rchk_any A n c f w h
  have hn := h.len
  have HO := Lib.hid ho
  cases hv : vld n f
  · have HV := Lib.hid hv; clear hv ho
    go_enter Try.func20, Try.ntmps20
    go_wp2_with fail
    refine C.mono ?_
    rintro e w' ⟨rfl, hb⟩
    rw [HV.out]
    go_wp2
    go_ret2
    exact tra_no HO.out hb
  · have HV := Lib.hid hv
    have ha : ¬ (0 ≤ a ∧ a < n ∧ 0 ≤ b ∧ b < n) := by
      intro hh
      simp [trOk, hv, inT] at ho
      omega
    clear hv ho
    go_enter Try.func20, Try.ntmps20
    go_wp2_with fail
    refine C.mono ?_
    rintro e w' ⟨rfl, hb⟩
    rw [HV.out]
    by_cases h1 : a < 0
    · clear ha
      go_wp2
      go_ret2
      exact tra_no HO.out hb
    by_cases h2 : (n : Int) ≤ a
    · clear ha
      go_wp2
      go_ret2
      exact tra_no HO.out hb
    by_cases h3 : b < 0
    · clear ha
      go_wp2
      go_ret2
      exact tra_no HO.out hb
    · have h4 : (n : Int) ≤ b := by omega
      clear ha
      go_wp2
      go_ret2
      exact tra_no HO.out hb
set_option maxRecDepth 100000 in
set_option maxHeartbeats 2000000 in
theorem rtr_good (bb off n c : Nat) (f : Nat → St) (a b : Nat) (w : World) (h : SlS w (some ⟨bb, off, none⟩) n f) (hb : bb < w.heap.size) (hc : Sts w bb off n f) (ho : trOk n f a b = true) :
    Calls Try.prog 20 #[.slice (some ⟨bb, off, none⟩) n c, .int .i64 a, .int .i64 b] w (TraPost w n f a b) := by
  have C := rchk_any _ n c f w h
  have HO := Lib.hid ho
  simp only [trOk, Bool.and_eq_true] at ho
  obtain ⟨⟨hv, ha⟩, hbb⟩ := ho
  have hn := (vld_len hv).2
  have HV := Lib.hid hv
  have ha1 : a < n := by simp [inT] at ha; omega
  have hb1 : b < n := by simp [inT] at hbb; omega
  have a3 : (a : Int) < n := by omega
  have b3 : (b : Int) < n := by omega
  have a4 : ¬ (a : Int) < 0 := by omega
  have b4 : ¬ (b : Int) < 0 := by omega
  clear hv ha hbb
  obtain ⟨-, ca, -⟩ := hc a ha1
  obtain ⟨cb0, cb1, -⟩ := hc b hb1
  have TL : Hid (trL f a b = trV a b (f a).r (f b).r (f b).l) := rfl
  generalize (f a).r = va at *
  generalize (f b).r = vb at *
  generalize (f b).l = lb at *
  go_enter Try.func20, Try.ntmps20
  go_wp2_with fail
  refine C.mono ?_
  rintro e w1 ⟨rfl, hB1⟩
  rw [HV.out]
  rw [← hB1.cell hb] at ca cb0 cb1
  have hb2 : bb < w1.heap.size := by have := hB1.size; omega
  by_cases hab : a = b
  · subst hab
    go_wp2
    go_ret2
    exact tra_yes (l := []) HO.out (by rw [TL.out]; simp [trV]) ⟨by simp, .inl rfl⟩ hB1
  have hab' : ((a : Int) == (b : Int)) = false := by simp; omega
  by_cases hr : va = vb
  · have HR := Lib.hid hr; subst hr
    go_wp2_with fail
    go_quiet (fail)
    go_wp2
    go_ret2
    refine tra_yes (l := [⟨false, lb⟩]) HO.out (by rw [TL.out]; simp [trV, hab]) (pl_one ?_ ?_ ?_) (bal (below_drewN (bal (bal hB1 _) _) _) _)
    · simp [go_sem]
    · simp [go_sem]
    · simp [go_sem]
  have hr' : (va == vb) = false := by simp [hr]
  have HR := Lib.hid hr; clear hr
  by_cases hlt : a < b
  · go_wp2_with fail
    go_quiet (fail)
    go_wp2
    go_ret2
    refine tra_yes (l := [⟨true, vb⟩, ⟨false, lb⟩]) HO.out (by rw [TL.out]; simp [trV, hab, HR.out, hlt]) (pl_two ?_ ?_ ?_ ?_ ?_) (bal (below_drewN (bal (bal hB1 _) _) _) _)
    · simp
    · simp [go_sem]
    · simp [go_sem]
    · simp [go_sem]
    · simp [go_sem]
  · go_wp2_with fail
    go_quiet (fail)
    go_wp2
    go_ret2
    refine tra_yes (l := [⟨false, lb⟩, ⟨true, vb⟩]) HO.out (by rw [TL.out]; simp [trV, hab, HR.out, hlt]) (pl_two ?_ ?_ ?_ ?_ ?_) (bal (below_drewN (bal (bal hB1 _) _) _) _)
    · simp
    · simp [go_sem]
    · simp [go_sem]
    · simp [go_sem]
    · simp [go_sem]
theorem rtr_any (A : Option Addr) (n c : Nat) (f : Nat → St) (a b : Int) (w : World) (h : SlS w A n f) :
    Calls Try.prog 20 #[.slice A n c, .int .i64 a, .int .i64 b] w (TraPost w n f a b) := by
  cases ho : trOk n f a b
  · exact rtr_bad A n c f a b w h ho
  · have ho2 := ho
    simp only [trOk, inT, vld, Bool.and_eq_true, decide_eq_true_eq] at ho2
    obtain ⟨a, rfl⟩ : ∃ k : Nat, a = k := ⟨a.toNat, by omega⟩
    obtain ⟨b, rfl⟩ : ∃ k : Nat, b = k := ⟨b.toNat, by omega⟩
    rcases h.row with h0 | ⟨bb, off, rfl, hlt, hc⟩
    · omega
    · exact rtr_good bb off n c f a b w h hlt hc ho
end Go.Proofs.Ytfmaadfccnjnjaa
