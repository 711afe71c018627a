/- Decompress. -/
import Derived.Test.YtpfaicdoaldioaaExl
namespace Go.Proofs.Ytpfaicdoaldioaa
open Go.ChangeShapes Go.WideShapes Go.ChangeAt Go.RowKit Go.Deep Go.Joins

def decR (s : ByteArray) : ByteArray × Int := match exR s with
  | none => ({ data := #[] }, 3)
  | some p => if (cmpR p).2 = 0 ∧ (cmpR p).1 = s then (p, 0) else ({ data := #[] }, 3)
theorem cmpR_e (p : ByteArray) : (cmpR p).2 = 0 ∨ (cmpR p).2 = 1 := by unfold cmpR; split <;> simp
set_option maxHeartbeats 4000000 in
theorem dec_any (s : ByteArray) (w : World) (hz : s.size ≤ 281474976710656) : Calls Try.prog 14 #[.string s] w (CmP w (decR s)) := by
  have P := exp_any s w hz
  rcases hu : exR s with _ | p
  · have F : Hid (decR s = ({ data := #[] }, 3)) := by show _ = _; unfold decR; rw [hu]
    rw [hu] at P
    clear hu
    go_enter Try.func14, Try.ntmps14
    go_wp2_with fail
    refine P.mono ?_
    rintro e w1 ⟨hb, rfl⟩
    have HB := Lib.hid hb
    clear hb P
    go_wp2
    go_ret2
    rw [F.out]
    exact ⟨rfl, HB.out⟩
  · have F : Hid (∀ a b, cmpR p = (a, b) → decR s = if b = 0 ∧ a = s then (p, 0) else ({ data := #[] }, 3)) := fun a b h => by
      unfold decR; rw [hu]; show (if (cmpR p).2 = 0 ∧ (cmpR p).1 = s then _ else _) = _; rw [h]
    rw [hu] at P
    have he := cmpR_e p
    have C := fun w' => cmp_any p w'
    obtain ⟨a, b, hab⟩ : ∃ a b, cmpR p = (a, b) := ⟨(cmpR p).1, (cmpR p).2, rfl⟩
    have F := Lib.hid (F.out a b hab)
    rw [hab] at he
    have C : Hid (∀ w', Calls Try.prog 11 #[.string p] w' (fun e w2 => e = .returned (pairV a b) ∧ Below w'.heap.size w' w2)) := fun w' => by
      have := C w'
      rw [hab] at this
      exact this
    clear hu hab
    go_enter Try.func14, Try.ntmps14
    go_wp2_with fail
    refine P.mono ?_
    rintro e w1 ⟨hb, rfl⟩
    have HB := Lib.hid hb
    clear hb P
    go_wp2_with fail
    refine (C.out _).mono ?_
    rintro e w2 ⟨rfl, hb⟩
    have HB := Lib.hid (bel2 HB.out hb)
    clear hb C
    unfold pairV
    rcases he with he | he
    · replace he : b = 0 := he
      subst he
      by_cases hs : a = s
      · have F2 : Hid (decR s = (p, 0)) := by show _ = _; rw [F.out, if_pos ⟨rfl, hs⟩]
        have e1 := str_t hs
        clear hs F
        go_wp2
        go_ret2
        rw [F2.out]
        exact ⟨rfl, HB.out⟩
      · have F2 : Hid (decR s = ({ data := #[] }, 3)) := by show _ = _; rw [F.out, if_neg (fun h => hs h.2)]
        have e1 := str_f hs
        clear hs F
        go_wp2
        go_ret2
        rw [F2.out]
        exact ⟨rfl, HB.out⟩
    · replace he : b = 1 := he
      subst he
      have F2 : Hid (decR s = ({ data := #[] }, 3)) := by show _ = _; rw [F.out, if_neg (fun h => by cases h.1)]
      clear F
      go_wp2
      go_ret2
      rw [F2.out]
      exact ⟨rfl, HB.out⟩
end Go.Proofs.Ytpfaicdoaldioaa
