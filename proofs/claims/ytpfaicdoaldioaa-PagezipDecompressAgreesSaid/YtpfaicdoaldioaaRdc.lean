/- The reference's Decompress, from a contract of unpack. -/
import Derived.Test.YtpfaicdoaldioaaRdp
namespace Go.Proofs.Ytpfaicdoaldioaa
open Go.ChangeShapes Go.WideShapes Go.ChangeAt Go.RowKit Go.Deep Go.Joins

set_option maxRecDepth 20000 in
set_option maxHeartbeats 4000000 in
theorem rdc_of (s : ByteArray) (w : World) (hz : s.size ≤ 281474976710656) (U : ∀ w, Calls Try.prog 20 #[.string s] w (ExP w (unR s))) : Calls Try.prog 16 #[.string s] w (CmP w (rdcR s)) := by
  by_cases hA : s.size = 257 ∧ bt s 0 = 0
  · have hu : rxR s = some (s.extract 1 s.size) := by unfold rxR; rw [if_pos hA]
    have h7 := hA.1
    have hsz : 0 < s.size := by omega
    have ha := (bt_at s 0 hsz).trans hA.2
    clear hA U
    obtain ⟨X, hX⟩ : ∃ X, s.extract 1 s.size = X := ⟨_, rfl⟩
    rw [hX] at hu
    have he := cmpR_e X
    have C := fun w' => rcmp_any X w'
    obtain ⟨a, b, hab⟩ : ∃ a b, cmpR X = (a, b) := ⟨(cmpR X).1, (cmpR X).2, rfl⟩
    have F : Hid (rdcR s = if b = 0 ∧ a = s then (X, 0) else ({ data := #[] }, 3)) := by
      show _ = _
      unfold rdcR
      rw [hu]
      show (if (cmpR X).2 = 0 ∧ (cmpR X).1 = s then _ else _) = _
      rw [hab]
    rw [hab] at he
    have C : Hid (∀ w', Calls Try.prog 12 #[.string X] w' (fun e w2 => e = .returned (pairV a b) ∧ Below w'.heap.size w' w2)) := fun w' => by
      have := C w'
      rw [hab] at this
      exact this
    clear hu hab
    have hX2 : s.extract 1 257 = X := by rw [← hX, h7]
    go_enter Try.func16, Try.ntmps16
    go_wp2_with fail
    refine (C.out _).mono ?_
    rintro e w2 ⟨rfl, hb⟩
    have HB := Lib.hid (hb)
    clear hb C
    unfold pairV
    rcases he with he | he
    · replace he : b = 0 := he
      subst he
      by_cases hs : a = s
      · have F2 : Hid (rdcR s = (X, 0)) := by show _ = _; rw [F.out, if_pos ⟨rfl, hs⟩]
        have e1 := str_t hs
        clear hs F
        go_wp2
        go_ret2
        rw [F2.out]
        exact ⟨rfl, HB.out⟩
      · have F2 : Hid (rdcR s = ({ data := #[] }, 3)) := by show _ = _; rw [F.out, if_neg (fun h => hs h.2)]
        have e1 := str_f hs
        clear hs F
        go_wp2
        go_ret2
        rw [F2.out]
        exact ⟨rfl, HB.out⟩
    · replace he : b = 1 := he
      subst he
      have F2 : Hid (rdcR s = ({ data := #[] }, 3)) := by show _ = _; rw [F.out, if_neg (fun h => by cases h.1)]
      clear F
      go_wp2
      go_ret2
      rw [F2.out]
      exact ⟨rfl, HB.out⟩
  by_cases hB : 0 < s.size ∧ bt s 0 = 1
  · have hs0 := hB.1
    have ha := (bt_at s 0 hs0).trans hB.2
    have hR : rxR s = unR s := by unfold rxR; rw [if_neg hA, if_pos hB]
    clear hA hB
    have P := U w
    rcases hn : unR s with _ | X
    · have F : Hid (rdcR s = ({ data := #[] }, 3)) := by show _ = _; unfold rdcR; rw [hR, hn]
      rw [hn] at P
      clear hR hn U
      by_cases h7 : s.size = 257
      · go_enter Try.func16, Try.ntmps16
        go_wp2_with fail
        refine P.mono ?_
        rintro e w1 ⟨hb, rfl⟩
        have HB := Lib.hid hb
        clear hb P
        go_wp2
        go_ret2
        rw [F.out]
        exact ⟨rfl, HB.out⟩
      · have e7 : ((s.size : Int) == 257) = false := beq_eq_false_iff_ne.2 (by omega)
        go_enter Try.func16, Try.ntmps16
        go_wp2_with fail
        refine P.mono ?_
        rintro e w1 ⟨hb, rfl⟩
        have HB := Lib.hid hb
        clear hb P
        go_wp2
        go_ret2
        rw [F.out]
        exact ⟨rfl, HB.out⟩
    · have hu : rxR s = some X := by rw [hR, hn]
      rw [hn] at P
      clear hR hn U
      by_cases h7 : s.size = 257
      · skip
        have he := cmpR_e X
        have C := fun w' => rcmp_any X w'
        obtain ⟨a, b, hab⟩ : ∃ a b, cmpR X = (a, b) := ⟨(cmpR X).1, (cmpR X).2, rfl⟩
        have F : Hid (rdcR s = if b = 0 ∧ a = s then (X, 0) else ({ data := #[] }, 3)) := by
          show _ = _
          unfold rdcR
          rw [hu]
          show (if (cmpR X).2 = 0 ∧ (cmpR X).1 = s then _ else _) = _
          rw [hab]
        rw [hab] at he
        have C : Hid (∀ w', Calls Try.prog 12 #[.string X] w' (fun e w2 => e = .returned (pairV a b) ∧ Below w'.heap.size w' w2)) := fun w' => by
          have := C w'
          rw [hab] at this
          exact this
        clear hu hab
        go_enter Try.func16, Try.ntmps16
        go_wp2_with fail
        refine P.mono ?_
        rintro e w1 ⟨hb1, rfl⟩
        have B1 := Lib.hid hb1
        clear hb1 P
        go_wp2_with fail
        refine (C.out _).mono ?_
        rintro e w2 ⟨rfl, hb⟩
        have HB := Lib.hid (bel2 B1.out hb)
        clear hb C
        unfold pairV
        rcases he with he | he
        · replace he : b = 0 := he
          subst he
          by_cases hs : a = s
          · have F2 : Hid (rdcR s = (X, 0)) := by show _ = _; rw [F.out, if_pos ⟨rfl, hs⟩]
            have e1 := str_t hs
            clear hs F
            go_wp2
            go_ret2
            rw [F2.out]
            exact ⟨rfl, HB.out⟩
          · have F2 : Hid (rdcR s = ({ data := #[] }, 3)) := by show _ = _; rw [F.out, if_neg (fun h => hs h.2)]
            have e1 := str_f hs
            clear hs F
            go_wp2
            go_ret2
            rw [F2.out]
            exact ⟨rfl, HB.out⟩
        · replace he : b = 1 := he
          subst he
          have F2 : Hid (rdcR s = ({ data := #[] }, 3)) := by show _ = _; rw [F.out, if_neg (fun h => by cases h.1)]
          clear F
          go_wp2
          go_ret2
          rw [F2.out]
          exact ⟨rfl, HB.out⟩
      · have e7 : ((s.size : Int) == 257) = false := beq_eq_false_iff_ne.2 (by omega)
        have he := cmpR_e X
        have C := fun w' => rcmp_any X w'
        obtain ⟨a, b, hab⟩ : ∃ a b, cmpR X = (a, b) := ⟨(cmpR X).1, (cmpR X).2, rfl⟩
        have F : Hid (rdcR s = if b = 0 ∧ a = s then (X, 0) else ({ data := #[] }, 3)) := by
          show _ = _
          unfold rdcR
          rw [hu]
          show (if (cmpR X).2 = 0 ∧ (cmpR X).1 = s then _ else _) = _
          rw [hab]
        rw [hab] at he
        have C : Hid (∀ w', Calls Try.prog 12 #[.string X] w' (fun e w2 => e = .returned (pairV a b) ∧ Below w'.heap.size w' w2)) := fun w' => by
          have := C w'
          rw [hab] at this
          exact this
        clear hu hab
        go_enter Try.func16, Try.ntmps16
        go_wp2_with fail
        refine P.mono ?_
        rintro e w1 ⟨hb1, rfl⟩
        have B1 := Lib.hid hb1
        clear hb1 P
        go_wp2_with fail
        refine (C.out _).mono ?_
        rintro e w2 ⟨rfl, hb⟩
        have HB := Lib.hid (bel2 B1.out hb)
        clear hb C
        unfold pairV
        rcases he with he | he
        · replace he : b = 0 := he
          subst he
          by_cases hs : a = s
          · have F2 : Hid (rdcR s = (X, 0)) := by show _ = _; rw [F.out, if_pos ⟨rfl, hs⟩]
            have e1 := str_t hs
            clear hs F
            go_wp2
            go_ret2
            rw [F2.out]
            exact ⟨rfl, HB.out⟩
          · have F2 : Hid (rdcR s = ({ data := #[] }, 3)) := by show _ = _; rw [F.out, if_neg (fun h => hs h.2)]
            have e1 := str_f hs
            clear hs F
            go_wp2
            go_ret2
            rw [F2.out]
            exact ⟨rfl, HB.out⟩
        · replace he : b = 1 := he
          subst he
          have F2 : Hid (rdcR s = ({ data := #[] }, 3)) := by show _ = _; rw [F.out, if_neg (fun h => by cases h.1)]
          clear F
          go_wp2
          go_ret2
          rw [F2.out]
          exact ⟨rfl, HB.out⟩
  · have F : Hid (rdcR s = ({ data := #[] }, 3)) := by show _ = _; unfold rdcR rxR; rw [if_neg hA, if_neg hB]
    by_cases h0 : s.size = 0
    · have e7 : ((s.size : Int) == 257) = false := beq_eq_false_iff_ne.2 (by omega)
      have hs0 : ¬ (0 : Int) < (s.size : Int) := by omega
      clear hA hB U
      go_enter Try.func16, Try.ntmps16
      go_wp2
      go_ret2
      rw [F.out]
      exact ⟨rfl, Below.refl _ _⟩
    · have hs0 : 0 < s.size := by omega
      have ha := bt_at s 0 hs0
      have b1 : (bt s 0 == 1) = false := beq_eq_false_iff_ne.2 (fun e => hB ⟨hs0, e⟩)
      by_cases h7 : s.size = 257
      · have b0 : (bt s 0 == 0) = false := beq_eq_false_iff_ne.2 (fun e => hA ⟨h7, e⟩)
        clear hA hB U
        generalize bt s 0 = y at *
        go_enter Try.func16, Try.ntmps16
        go_wp2
        go_ret2
        rw [F.out]
        exact ⟨rfl, Below.refl _ _⟩
      · have e7 : ((s.size : Int) == 257) = false := beq_eq_false_iff_ne.2 (by omega)
        clear hA hB U
        generalize bt s 0 = y at *
        go_enter Try.func16, Try.ntmps16
        go_wp2
        go_ret2
        rw [F.out]
        exact ⟨rfl, Below.refl _ _⟩
end Go.Proofs.Ytpfaicdoaldioaa
