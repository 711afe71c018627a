/- Temperature draws at most. -/
import Derived.Test.YtidegjinfacjjaaTmp
namespace Go.Proofs.Ytidegjinfacjjaa
open Go.ChangeShapes Go.WideShapes Go.ChangeAt Go.RowKit Go.Deep Go.Joins

def QdP (w : World) (v : Value) (e : Ending) (w' : World) : Prop := e = .returned v ∧ ∃ n, w' = w.drewN n
set_option maxRecDepth 20000 in
set_option maxHeartbeats 4000000 in
theorem teq_any {w : World} {h : Mo} (k : Hm w h) (sz : Sz h) (d : Int) : Calls Try.prog 26 #[.pointer (some ⟨h.L, 0, none⟩), .int .i64 d] w (QdP w (.int .i64 (h.Tv d))) := by
  have HS := Lib.hid (has_any k d)
  by_cases h0 : 0 ≤ d ∧ d < h.n
  · obtain ⟨i, rfl⟩ : ∃ i : Nat, d = i := ⟨d.toNat, by omega⟩
    have hi : i < h.n := by omega
    have V : Hid (h.Tv i = h.E i / (h.D i).c) := if_pos h0
    have HS := Lib.hid (show Calls Try.prog 37 #[.pointer (some ⟨h.L, 0, none⟩), .int .i64 (i : Int)] w (PuP w (.bool true)) by have := HS.out; rw [decide_eq_true h0] at this; exact this)
    have c0 := k.c0
    have c3 := k.c3
    have lL := k.lL
    have en := k.en i hi
    have lX := k.lX
    have C1 := sz.c1 i hi
    obtain ⟨e0, e1⟩ := sz.e0 i hi
    have FD := Lib.hid (fun W => fd_any (h.E i) (h.D i).c W C1 e0 e1)
    obtain ⟨b, off, hA, hb, d0, d1⟩ := k.dm.dat hi
    rw [hA] at c0
    generalize (h.D i).c = dc at *
    generalize h.E i = ei at *
    clear k sz h0 C1 e0 e1 d1 hA
    go_enter Try.func26, Try.ntmps26
    go_upto_region 3 with (go_at_call 37; refine HS.out.mono ?_; rintro e w' ⟨rfl, rfl⟩)
    go_quiet ((go_at_call 38; exact Calls.quiet_of_same ((FD.out _).mono fun e w' h => ⟨h.1, h.2.symm⟩)))
    go_wp2
    go_ret
    exact ⟨by rw [V.out]; rfl, _, rfl⟩
  · have V : Hid (h.Tv d = 0) := if_neg h0
    have HS := Lib.hid (show Calls Try.prog 37 #[.pointer (some ⟨h.L, 0, none⟩), .int .i64 d] w (PuP w (.bool false)) by have := HS.out; rw [decide_eq_false h0] at this; exact this)
    clear k h0
    go_enter Try.func26, Try.ntmps26
    go_wp2_with (go_at_call 37; refine HS.out.mono ?_; rintro e w' ⟨rfl, rfl⟩)
    go_ret
    exact ⟨by rw [V.out]; rfl, 0, rfl⟩
end Go.Proofs.Ytidegjinfacjjaa
