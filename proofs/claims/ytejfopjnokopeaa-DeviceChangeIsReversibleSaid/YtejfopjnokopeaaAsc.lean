/- The law's list of states: at most three numbers, in a block of its own. -/
import Derived.Test.YtejfopjnokopeaaMis
namespace Go.Proofs.Ytejfopjnokopeaa
open Go.ChangeShapes Go.WideShapes Go.ChangeAt Go.RowKit Go.Deep Go.Joins

def LaP (w : World) (e : Ending) (w' : World) : Prop := ∃ (X : Option Addr) (c : Nat) (M : List Int), e = .returned (.slice X M.length c) ∧ M.length ≤ 3 ∧ w'.ownsRow w.heap.size 3 1 (.slice X M.length c) M.length (M.map (.int .i64)) ∧ Below w.heap.size w w'
set_option maxRecDepth 20000 in
set_option maxHeartbeats 8000000 in
theorem lasc_any (A : Option Addr) (c n : Nat) (l : List Int) (w : World) (h : Il w A l) (hn : 1 ≤ n) (hn2 : n ≤ 1000000) : Calls Try.prog 38 #[.slice A l.length c, .int .i64 n] w (LaP w) := by
  have hl := h.len
  have HL := Lib.hid h
  obtain ⟨i0, hi0, hzz⟩ := Option.map_eq_some_iff.1 info3
  simp only [Prod.mk.injEq] at hzz
  obtain ⟨hz0, hs0, hb0⟩ := hzz
  have HI := Lib.hid (And.intro hi0 (And.intro hz0 (And.intro hs0 hb0)))
  clear h hi0 hz0 hs0 hb0
  go_enter Try.func38, Try.ntmps38
  go_wp2_with fail
  go_loopw [6, 5] (fun vi vs wr => ∃ (k : Nat) (X : Option Addr) (cc : Nat) (M : List Int), vs = .slice X M.length cc ∧ vi = .int .i64 k ∧ k ≤ n ∧ M.length ≤ 3 ∧ Below w.heap.size w wr ∧ wr.ownsRow w.heap.size 3 1 (.slice X M.length cc) M.length (M.map (.int .i64))) (fun i _ _ => n - (intOf i).toNat)
  case atStart => exact ⟨0, none, 0, [], rfl, rfl, Nat.zero_le _, by simp, Below.refl _ _, World.ownsRow_nil _ _ _ _⟩
  case round =>
    obtain ⟨k, X, cc, M, rfl, rfl, hk, hM, hB, hO⟩ := hrel
    by_cases hlt : k < n
    · by_cases h3 : M.length < 3
      · have HB := Lib.hid hB
        have HO := Lib.hid hO
        have q1 : (k : Int) < (n : Int) := by omega
        have q2 : (M.length : Int) < 3 := by omega
        have MM := Lib.hid (show M.length = M.length from rfl)
        clear hB hO
        go_wp2_with fail
        generalize wr = w1 at *
        go_loopw [7, 5] (fun vj vs wr2 => ∃ j : Nat, vj = .int .i64 j ∧ vs = .slice X M.length cc ∧ j ≤ l.length ∧ Below w1.heap.size w1 wr2) (fun i _ _ => l.length - (intOf i).toNat)
        case atStart => exact ⟨0, rfl, rfl, Nat.zero_le _, Below.refl _ _⟩
        case round =>
          obtain ⟨j, rfl, rfl, hj, hb2⟩ := hrel
          have HB2 := Lib.hid (bel2 HB.out hb2)
          have HO2 := Lib.hid (own_keep HO.out (w' := wr) (fun j hj => hb2.block j (HO.out.lt j hj).2))
          have HN := Lib.hid hb2
          by_cases hjl : j < l.length
          · obtain ⟨b, off, rfl, hb, c0⟩ := HL.out.at hjl
            have d0 := (HB2.out.cell (p := ⟨b, off + j, none⟩) (by exact hb)).trans c0
            have hbr : b < wr.heap.size := by have := HB2.out.size; omega
            have hjl2 : (j : Int) < (l.length : Int) := by omega
            have P := mod_any (l.getD j 0) n hn hn2 wr
            generalize l.getD j 0 = x at *
            generalize modOf x n = q at *
            clear c0 hb2
            by_cases hq : q = k
            · subst hq
              go_wp2_with fail
              refine P.mono ?_
              clear P
              rintro e w2 ⟨rfl, rfl⟩
              have b3 : Below wr.heap.size wr (wr.alloc (.cells #[.int .i64 q] 3)) := bal (Below.refl _ _) _
              have own3 := own_keep HO2.out (w' := wr.alloc (.cells #[.int .i64 q] 3)) (fun j hj => b3.block j (HO2.out.lt j hj).2)
              have hs3 : w.heap.size ≤ (wr.alloc (.cells #[.int .i64 q] 3)).heap.size := by have := HB2.out.size; have := b3.size; omega
              have HB3 := Lib.hid (bel2 HB2.out b3)
              have NW : Hid (∀ (j : Nat) (u : Value), [Value.int .i64 q][j]? = some u → (wr.alloc (.cells #[.int .i64 q] 3)).cell? (Addr.add ⟨wr.heap.size, 0, none⟩ j) = some u) := fun j u hu => by
                rw [add_plain, Nat.zero_add, new_c]
                simpa using hu
              clear b3
              go_wp2_with (at_builtin; refine wpList_append_own _ rfl (.tmp 32) (.tmp 34) 29 rfl w.heap.size 3 i0 _ 1 8 Try.underlying29 HI.out.1 HI.out.2.1 HI.out.2.2.1 HI.out.2.2.2 rfl (by decide) (.slice X M.length cc) M.length (M.map (.int .i64)) rfl own3 ⟨wr.heap.size, 0, none⟩ 1 1 [.int .i64 q] rfl rfl NW.out ?c1 ?c2 ?c3 ?c4 ?_)
              case c1 => intro u hu; rw [List.mem_singleton.1 hu]; rfl
              case c2 => unfold maxLen; omega
              case c3 => omega
              case c4 => exact hs3
              intro v' w4 hown hgr hiff
              have HB4 := Lib.hid (HB3.out.grown hgr (by have := HB3.out.size; omega) (fun j hj => (own3.lt j hj).1))
              obtain ⟨X2, c2, rfl⟩ : ∃ X2 c2, v' = .slice X2 (M ++ [(q : Int)]).length c2 := by
                rcases hown.2 with ⟨he, _⟩ | ⟨g, cap, _, rfl, _⟩
                · omega
                · refine ⟨some ⟨g, 0, none⟩, cap, ?_⟩
                  rw [show (M ++ [(q : Int)]).length = M.length + 1 by simp]
              have HO4 : Hid (w4.ownsRow w.heap.size 3 1 (.slice X2 (M ++ [(q : Int)]).length c2) (M ++ [(q : Int)]).length ((M ++ [(q : Int)]).map (.int .i64))) := by
                show World.ownsRow _ _ _ _ _ _ _
                rw [List.map_append, show (M ++ [(q : Int)]).length = M.length + 1 by simp]
                simpa using hown
              have hM4 : (M ++ [(q : Int)]).length ≤ 3 := by simp; omega
              generalize hMM : M ++ [(q : Int)] = M2 at *
              clear hown hgr hiff NW own3 hMM
              go_wp2_with fail
              go_roundw
              case rel => exact ⟨q + 1, X2, c2, M2, rfl, by go_num, by omega, hM4, HB4.out, HO4.out⟩
              case measure => simp [intOf]; omega
            · have hq2 : ((q : Int) == (k : Int)) = false := beq_eq_false_iff_ne.2 (by omega)
              have hq3 : ¬ (q : Int) = (k : Int) := by omega
              go_wp2_with fail
              refine P.mono ?_
              clear P
              rintro e w2 ⟨rfl, rfl⟩
              go_wp2_with fail
              go_roundw
              case rel => exact ⟨j + 1, by go_num, rfl, by omega, HN.out⟩
              case measure => simp [intOf]; omega
          · have hjl2 : ¬ (j : Int) < (l.length : Int) := by omega
            clear hb2
            go_wp2_with fail
            go_roundw
            case rel => exact ⟨k + 1, X, cc, M, rfl, by go_num, by omega, hM, HB2.out, HO2.out⟩
            case measure => simp [intOf]; omega
      · have q1 : (k : Int) < (n : Int) := by omega
        have q2 : ¬ (M.length : Int) < 3 := by omega
        have F : Hid (LaP w (.returned (.slice X M.length cc)) wr) := ⟨X, cc, M, rfl, hM, hO, hB⟩
        clear hB hO
        go_wp2
        go_ret
        exact F.out
    · have q1 : ¬ (k : Int) < (n : Int) := by omega
      have F : Hid (LaP w (.returned (.slice X M.length cc)) wr) := ⟨X, cc, M, rfl, hM, hO, hB⟩
      clear hB hO
      go_wp2
      go_ret
      exact F.out
end Go.Proofs.Ytejfopjnokopeaa
