/- The block's small methods: bit, with, Enable, EnableWake, Status, ready, WakePending. -/
import Derived.Test.YtmhianhaljphiaaDoorGps
namespace Go.Proofs.YtmhianhaljphiaaDoor
open Go.RowKit

theorem with_any (s b : BitVec 64) (on : Bool) (w : World) : Calls Tryd.prog 24 #[.int .u64 (u s), .int .u64 (u b), .bool on] w (fun e w' => e = .returned (.int .u64 (u (withB s b on))) ∧ w = w') := by
  have h1 := or_u s b
  have h2 := not_u s b
  cases on
  · have F : Hid (withB s b false = s &&& ~~~b) := rfl
    go_enter Tryd.func24, Tryd.ntmps24
    go_wp2
    go_ret
    exact ⟨by rw [F.out]; rfl, rfl⟩
  · have F : Hid (withB s b true = s ||| b) := rfl
    go_enter Tryd.func24, Tryd.ntmps24
    go_wp2
    go_ret
    exact ⟨by rw [F.out]; rfl, rfl⟩
theorem bit_any (w : World) (L : Nat) (s : GpS) (k : Nat) (h : GpR w L s) (hk : k < s.ct) (hc : s.ct ≤ 64) : Calls Tryd.prog 32 #[.pointer (some ⟨L, 0, none⟩), .int .i64 k] w (fun e w' => e = .returned (.int .u64 (u (bitB k))) ∧ w = w') := by
  have c0 := gr_ct h
  have hL := h.lt
  have hw := bitB_shl k (by omega)
  have F : Hid (∀ x : Int, x = u (bitB k) → (Ending.returned (.int .u64 x) = .returned (.int .u64 (u (bitB k))))) := fun x e => by rw [e]
  generalize s.ct = n at *
  have H := Lib.hid hw
  clear h hw
  go_enter Tryd.func32, Tryd.ntmps32
  go_wp2
  go_ret
  exact ⟨F.out _ (by first | exact H.out | (rw [← H.out]; simp)), rfl⟩
theorem bit_no (w : World) (L : Nat) (s : GpS) (e : Int) (h : GpR w L s) (he : e < 0 ∨ (s.ct : Int) ≤ e) : Calls Tryd.prog 32 #[.pointer (some ⟨L, 0, none⟩), .int .i64 e] w (fun r w' => r = .returned (.int .u64 0) ∧ w = w') := by
  have c0 := gr_ct h
  have hL := h.lt
  generalize s.ct = n at *
  clear h
  by_cases h0 : e < 0
  · go_enter Tryd.func32, Tryd.ntmps32
    go_wp2
    go_ret
    exact ⟨rfl, rfl⟩
  · have h1 : (n : Int) ≤ e := by omega
    go_enter Tryd.func32, Tryd.ntmps32
    go_wp2
    go_ret
    exact ⟨rfl, rfl⟩
theorem bitB_t (k : Nat) (hk : k < 64) : (u (bitB k) == 0) = false := by rw [u_eq0]; exact beq_eq_false_iff_ne.2 (bitB_ne k hk)
theorem enable_any (w : World) (L : Nat) (s : GpS) (k : Nat) (on : Bool) (h : GpR w L s) (hk : k < s.ct) (hc : s.ct ≤ 64) : Calls Tryd.prog 19 #[.pointer (some ⟨L, 0, none⟩), .int .i64 k, .bool on] w (GP w L (enS s k on) (.int .i64 0)) := by
  have c4 := gr_en h
  have hL := h.lt
  have hz := h.frozen 4
  have hb := bitB_t k (by omega)
  have F : Hid (GP w L (enS s k on) (.int .i64 0) (.returned (.int .i64 0)) (w.setCell ⟨L, 4, none⟩ (.int .u64 (u (withB s.en (bitB k) on))))) := ⟨rfl, gw_en h _, Chg.set _ _ _ _⟩
  have P := bit_any w L s k h hk hc
  clear h hk
  go_enter Tryd.func19, Tryd.ntmps19
  go_wp2_with fail
  refine P.mono ?_
  clear P
  rintro e w' ⟨rfl, rfl⟩
  go_wp2_with fail
  refine (with_any _ _ _ _).mono ?_
  rintro e w' ⟨rfl, rfl⟩
  go_wp2
  go_ret
  exact F.out
theorem enable_no (w : World) (L : Nat) (s : GpS) (x : Int) (on : Bool) (h : GpR w L s) (he : x < 0 ∨ (s.ct : Int) ≤ x) : Calls Tryd.prog 19 #[.pointer (some ⟨L, 0, none⟩), .int .i64 x, .bool on] w (GP w L s (.int .i64 6)) := by
  have P := bit_no w L s x h he
  have F := Lib.hid (GP.mk0 (v := .int .i64 6) h)
  clear h he
  go_enter Tryd.func19, Tryd.ntmps19
  go_wp2_with fail
  refine P.mono ?_
  clear P
  rintro e w' ⟨rfl, rfl⟩
  go_wp2
  go_ret
  exact F.out
theorem wake_any (w : World) (L : Nat) (s : GpS) (k : Nat) (on : Bool) (h : GpR w L s) (hk : k < s.ct) (hc : s.ct ≤ 64) : Calls Tryd.prog 23 #[.pointer (some ⟨L, 0, none⟩), .int .i64 k, .bool on] w (GP w L (wkS s k on) (.int .i64 0)) := by
  have c4 := gr_wk h
  have hL := h.lt
  have hz := h.frozen 5
  have hb := bitB_t k (by omega)
  have F : Hid (GP w L (wkS s k on) (.int .i64 0) (.returned (.int .i64 0)) (w.setCell ⟨L, 5, none⟩ (.int .u64 (u (withB s.wk (bitB k) on))))) := ⟨rfl, gw_wk h _, Chg.set _ _ _ _⟩
  have P := bit_any w L s k h hk hc
  clear h hk
  go_enter Tryd.func23, Tryd.ntmps23
  go_wp2_with fail
  refine P.mono ?_
  clear P
  rintro e w' ⟨rfl, rfl⟩
  go_wp2_with fail
  refine (with_any _ _ _ _).mono ?_
  rintro e w' ⟨rfl, rfl⟩
  go_wp2
  go_ret
  exact F.out
theorem wake_no (w : World) (L : Nat) (s : GpS) (x : Int) (on : Bool) (h : GpR w L s) (he : x < 0 ∨ (s.ct : Int) ≤ x) : Calls Tryd.prog 23 #[.pointer (some ⟨L, 0, none⟩), .int .i64 x, .bool on] w (GP w L s (.int .i64 6)) := by
  have P := bit_no w L s x h he
  have F := Lib.hid (GP.mk0 (v := .int .i64 6) h)
  clear h he
  go_enter Tryd.func23, Tryd.ntmps23
  go_wp2_with fail
  refine P.mono ?_
  clear P
  rintro e w' ⟨rfl, rfl⟩
  go_wp2
  go_ret
  exact F.out
end Go.Proofs.YtmhianhaljphiaaDoor
