/- The law's 'reverse'. -/
import Derived.Test.YtejfopjnokopeaaRcb
namespace Go.Proofs.Ytejfopjnokopeaa
open Go.ChangeShapes Go.WideShapes Go.ChangeAt Go.RowKit Go.Deep Go.Joins

/-- The last k, from behind. -/
def rvL (l : List Int) : Nat → List Int
  | 0 => []
  | k + 1 => rvL l k ++ [l.getD (l.length - 1 - k) 0]
theorem rvL_len (l : List Int) (k : Nat) : (rvL l k).length = k := by
  induction k with
  | zero => rfl
  | succ k ih =>
    unfold rvL
    rw [List.length_append, ih]
    rfl
theorem rvL_tk (l : List Int) (k : Nat) (h : k ≤ l.length) : l.reverse = rvL l k ++ (l.take (l.length - k)).reverse := by
  induction k with
  | zero => simp [rvL]
  | succ k ih =>
    rw [ih (by omega)]
    obtain ⟨j, hj⟩ : ∃ j, l.length - k = j + 1 := ⟨l.length - k - 1, by omega⟩
    rw [hj, show l.length - (k + 1) = j by omega]
    have e : l.length - 1 - k = j := by omega
    rw [rvL, e, List.take_add_one, List.getElem?_eq_getElem (by omega), List.getD_eq_getElem?_getD, List.getElem?_eq_getElem (by omega)]
    simp
theorem rvL_all (l : List Int) : rvL l l.length = l.reverse := by
  rw [rvL_tk l l.length (Nat.le_refl _)]
  simp
def RwP (w : World) (l : List Int) (e : Ending) (w' : World) : Prop := ∃ A c, e = .returned (.slice A l.length c) ∧ Il w' A l ∧ Below w.heap.size w w'
set_option maxRecDepth 20000 in
set_option maxHeartbeats 8000000 in
theorem rvs_any (A : Option Addr) (c : Nat) (l : List Int) (w : World) (h : Il w A l) (hn : l.length ≤ 1000) : Calls Try.prog 24 #[.slice A l.length c] w (RwP w l.reverse) := by
  have HL := Lib.hid h
  obtain ⟨i0, hi0, hzz⟩ := Option.map_eq_some_iff.1 info3
  simp only [Prod.mk.injEq] at hzz
  obtain ⟨hz0, hs0, hb0⟩ := hzz
  have HI := Lib.hid (And.intro hi0 (And.intro hz0 (And.intro hs0 hb0)))
  clear h hi0 hz0 hs0 hb0
  have FIN : Hid (∀ wz A2 c2, Below w.heap.size w wz → Il wz A2 (rvL l l.length) → RwP w l.reverse (.returned (.slice A2 (rvL l l.length).length c2)) wz) := fun wz A2 c2 hb hi => by
    rw [rvL_all] at hi ⊢
    exact ⟨A2, c2, rfl, hi, hb⟩
  have ML := Lib.hid (rvL_len l)
  have e14 : IntKind.i64.wrap ((l.length : Int) - 1) = (l.length : Int) - 1 := IntWalk.i64_in _ (by omega)
  have ST : Hid (∀ k, rvL l (k + 1) = rvL l k ++ [l.getD (l.length - 1 - k) 0]) := fun k => rfl
  generalize l.reverse = lv at *
  go_enter Try.func24, Try.ntmps24
  go_wp2_with fail
  go_loopw [4, 3] (fun vi vs wr => ∃ (k : Nat) (vo : Value), vo = vs ∧ vi = .int .i64 ((l.length : Int) - 1 - k) ∧ k ≤ l.length ∧ Below w.heap.size w wr ∧ wr.ownsRow w.heap.size 3 1 vo (rvL l k).length ((rvL l k).map (.int .i64))) (fun i _ _ => (intOf i + 1).toNat)
  case atStart => exact ⟨0, _, rfl, by simp, Nat.zero_le _, Below.refl _ _, World.ownsRow_nil _ _ _ _⟩
  case round =>
    obtain ⟨k, vo, rfl, rfl, hk, hB, hO⟩ := hrel
    have HB := Lib.hid hB
    have HO := Lib.hid hO
    clear e14
    by_cases hlt : k < l.length
    · obtain ⟨j, hj⟩ : ∃ j, j = l.length - 1 - k := ⟨_, rfl⟩
      have hji : (l.length : Int) - 1 - (k : Int) = (j : Int) := by omega
      rw [hji]
      have hjlt : j < l.length := by omega
      obtain ⟨b, off, rfl, hb, c0⟩ := HL.out.at hjlt
      have d0 := (hB.cell (p := ⟨b, off + j, none⟩) (by exact hb)).trans c0
      have hbr : b < wr.heap.size := by have := hB.size; omega
      have Nk := ST.out k
      have Mk : (rvL l k).length ≤ k := by rw [ML.out k]; exact Nat.le_refl _
      rw [← hj] at Nk
      have NXT := Lib.hid (show (j : Int) - 1 = (l.length : Int) - 1 - ((k + 1 : Nat) : Int) by omega)
      have hjl : (j : Int) < (l.length : Int) := by omega
      have hj0 : (0 : Int) ≤ (j : Int) := by omega
      have e15 : IntKind.i64.wrap ((j : Int) - 1) = (j : Int) - 1 := IntWalk.i64_in _ (by omega)
      have E1 := Lib.hid Nk
      have b3 : Below wr.heap.size wr (wr.alloc (.cells #[.int .i64 (l.getD j 0)] 3)) := bal (Below.refl _ _) _
      have own3 := own_keep HO.out (w' := wr.alloc (.cells #[.int .i64 (l.getD j 0)] 3)) (fun j hj => b3.block j (HO.out.lt j hj).2)
      have hs3 : w.heap.size ≤ (wr.alloc (.cells #[.int .i64 (l.getD j 0)] 3)).heap.size := by have := HB.out.size; have := b3.size; omega
      have HB3 := Lib.hid (bel2 HB.out b3)
      have NW : Hid (∀ (i : Nat) (u : Value), [Value.int .i64 (l.getD j 0)][i]? = some u → (wr.alloc (.cells #[.int .i64 (l.getD j 0)] 3)).cell? (Addr.add ⟨wr.heap.size, 0, none⟩ i) = some u) := fun i u hu => by
        rw [add_plain, Nat.zero_add, new_c]
        simpa using hu
      generalize l.getD j 0 = x at *
      have HJ := Lib.hid (And.intro hj hji)
      generalize hml2 : rvL l k = L at *
      clear c0 hB hO hj hji Nk hml2 b3
      go_wp2_with (at_builtin; refine wpList_append_own _ rfl (.tmp 12) (.tmp 17) 29 rfl w.heap.size 3 i0 _ 1 8 Try.underlying29 HI.out.1 HI.out.2.1 HI.out.2.2.1 HI.out.2.2.2 rfl (by decide) vo L.length (L.map (.int .i64)) rfl own3 ⟨wr.heap.size, 0, none⟩ 1 1 [.int .i64 x] rfl rfl NW.out ?c1 ?c2 ?c3 ?c4 ?_)
      case c1 => intro u hu; rw [List.mem_singleton.1 hu]; rfl
      case c2 => unfold maxLen; omega
      case c3 => omega
      case c4 => exact hs3
      intro v' w5 hown hgr hiff
      have HB4 := Lib.hid (HB3.out.grown hgr (by have := HB3.out.size; omega) (fun j hj => (own3.lt j hj).1))
      have HO4 : Hid (w5.ownsRow w.heap.size 3 1 v' (L ++ [x]).length ((L ++ [x]).map (.int .i64))) := by
        show World.ownsRow _ _ _ _ _ _ _
        rw [List.length_append, List.map_append]
        exact hown
      clear hown hgr hiff NW own3
      go_wp2_with fail
      go_roundw
      case rel => exact ⟨k + 1, _, rfl, by rw [NXT.out], by omega, HB4.out, by rw [E1.out]; exact HO4.out⟩
      case measure => (simp [intOf]) <;> omega
    · have hkn : k = l.length := by omega
      subst hkn
      have hji : (l.length : Int) - 1 - (l.length : Int) = -1 := by omega
      rw [hji]
      have hneg : ¬ (0 : Int) ≤ -1 := by decide
      have hneg2 : decide ((0 : Int) ≤ -1) = false := by decide
      obtain ⟨A2, c2, rfl, I2⟩ := own_il hO rfl
      have F := Lib.hid (FIN.out wr A2 c2 hB I2)
      clear hB hO HO HB I2 FIN
      generalize rvL l l.length = lr at *
      go_wp2
      go_ret
      exact F.out
end Go.Proofs.Ytejfopjnokopeaa
