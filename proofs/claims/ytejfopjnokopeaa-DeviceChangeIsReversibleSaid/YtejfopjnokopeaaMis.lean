/- Membership; what one list has and another lacks; a list turned round; the rails of a state. -/
import Derived.Test.YtejfopjnokopeaaLst
namespace Go.Proofs.Ytejfopjnokopeaa
open Go.ChangeShapes Go.WideShapes Go.ChangeAt Go.RowKit Go.Deep Go.Joins

theorem own_keep {w w' : World} {base n t size : Nat} {v : Value} {xs : List Value} (h : w.ownsRow base t size v n xs) (hr : ∀ k, v.ownBlock = some k → w'.heap[k]? = w.heap[k]?) : w'.ownsRow base t size v n xs := by
  refine ⟨h.1, ?_⟩
  rcases h.2 with hn | ⟨g, cap, cur, rfl, hb, hg, rest⟩
  · exact .inl hn
  · exact .inr ⟨g, cap, cur, rfl, hb, (hr g rfl).trans hg, rest⟩
def hasL (l : List Int) (x : Int) : Nat → Bool
  | 0 => false
  | k + 1 => hasL l x k || decide (x = l.getD k 0)
theorem hasL_yes {l : List Int} {x : Int} {k n : Nat} (hk : k < n) (h : x = l.getD k 0) : hasL l x n = true := by
  induction n with
  | zero => omega
  | succ n ih =>
    show (hasL l x n || _) = true
    rcases Nat.lt_or_ge k n with h1 | h1
    · rw [ih h1]; rfl
    · have : k = n := by omega
      subst this
      rw [decide_eq_true h, Bool.or_true]
def IdP (w : World) (b : Bool) (e : Ending) (w' : World) : Prop := (∃ i : Int, (0 ≤ i) = (b = true) ∧ e = .returned (.int .i64 i)) ∧ Below w.heap.size w w'
set_option maxRecDepth 20000 in
set_option maxHeartbeats 4000000 in
theorem idx_any (A : Option Addr) (c : Nat) (l : List Int) (x : Int) (w : World) (h : Il w A l) : Calls Try.prog 73 #[.slice A l.length c, .int .i64 x] w (IdP w (hasL l x l.length)) := by
  have H := Lib.hid h
  have hl := h.len
  have YES : Hid (∀ k, k < l.length → x = l.getD k 0 → hasL l x l.length = true) := fun k hk h => hasL_yes hk h
  have ST : Hid (∀ k, hasL l x k = false → x ≠ l.getD k 0 → hasL l x (k + 1) = false) := fun k h1 h2 => by show (hasL l x k || _) = false; rw [h1, decide_eq_false h2]; rfl
  have END : Hid (∀ k, k = l.length → hasL l x k = false → hasL l x l.length = false) := fun k hk h => by rw [← hk]; exact h
  generalize hR : hasL l x l.length = R at *
  clear h hR
  go_enter Try.func73, Try.ntmps73
  go_wp2_with fail
  go_loopw [8] (fun vi wr => ∃ k : Nat, vi = .int .i64 k ∧ k ≤ l.length ∧ Below w.heap.size w wr ∧ Hid (hasL l x k = false)) (fun i _ => l.length - (intOf i).toNat)
  case atStart => exact ⟨0, rfl, Nat.zero_le _, Below.refl _ _, rfl⟩
  case round =>
    obtain ⟨k, rfl, hk, hB, HT⟩ := hrel
    have HB := Lib.hid hB
    by_cases hlt : k < l.length
    · obtain ⟨b, off, rfl, hb, c0⟩ := H.out.at hlt
      have Yk := Lib.hid (YES.out k hlt)
      have Sk := Lib.hid (ST.out k HT.out)
      have d0 := (hB.cell (p := ⟨b, off + k, none⟩) (by exact hb)).trans c0
      have hbr : b < wr.heap.size := by have := hB.size; omega
      generalize l.getD k 0 = y at *
      clear c0 hB
      by_cases hxy : x = y
      · have K := Lib.hid (Yk.out hxy)
        have q : (x == y) = true := by simp [hxy]
        clear Yk Sk hxy
        go_wp2
        go_ret
        exact ⟨⟨k, by rw [K.out]; simp, rfl⟩, HB.out⟩
      · have K := Lib.hid (Sk.out hxy)
        have q : (x == y) = false := by simp [hxy]
        clear Yk Sk
        go_wp2_with fail
        go_roundw
        case rel => exact ⟨k + 1, by go_num, by omega, HB.out, K⟩
        case measure => simp [intOf]; omega
    · have F := Lib.hid (END.out k (by omega) HT.out)
      clear hB
      go_wp2
      go_ret
      exact ⟨⟨-1, by rw [F.out]; simp, rfl⟩, HB.out⟩
theorem con_any (A : Option Addr) (c : Nat) (l : List Int) (x : Int) (w : World) (h : Il w A l) : Calls Try.prog 62 #[.slice A l.length c, .int .i64 x] w (BPost w (hasL l x l.length)) := by
  have P := idx_any A c l x w h
  generalize hasL l x l.length = R at *
  clear h
  go_enter Try.func62, Try.ntmps62
  go_wp2_with fail
  refine P.mono ?_
  clear P
  rintro e w1 ⟨⟨i, hi, rfl⟩, hb⟩
  have HB := Lib.hid hb
  clear hb
  cases R with
  | true =>
    have h0 : 0 ≤ i := by rw [hi]
    clear hi
    go_wp2
    go_ret
    exact ⟨by simp, HB.out⟩
  | false =>
    have h0 : ¬ 0 ≤ i := by rw [hi]; simp
    clear hi
    go_wp2
    go_ret
    exact ⟨by simp [h0], HB.out⟩
/-- What of the first k is not in m. -/
def misL (l m : List Int) : Nat → List Int
  | 0 => []
  | k + 1 => if hasL m (l.getD k 0) m.length then misL l m k else misL l m k ++ [l.getD k 0]
theorem misL_len (l m : List Int) (k : Nat) : (misL l m k).length ≤ k := by
  induction k with
  | zero => exact Nat.le_refl _
  | succ k ih =>
    unfold misL
    split
    · omega
    · rw [List.length_append]; simp; exact ih
def MiP (w : World) (l : List Int) (e : Ending) (w' : World) : Prop := ∃ v, e = .returned v ∧ w'.ownsRow w.heap.size 3 1 v l.length (l.map (.int .i64)) ∧ Below w.heap.size w w'
theorem info3 : (Try.prog.info? 3).map (fun i => (i.zero, i.size, i.bytes)) = some (some (.int .i64 0), 1, 8) := by kernel_rfl
set_option maxRecDepth 20000 in
set_option maxHeartbeats 8000000 in
theorem mis_any (A B : Option Addr) (c d : Nat) (l m : List Int) (w : World) (hl : Il w A l) (hm : Il w B m) (hn : l.length ≤ 1000000) : Calls Try.prog 45 #[.slice A l.length c, .slice B m.length d] w (MiP w (misL l m l.length)) := by
  have HL := Lib.hid hl
  have HM := Lib.hid hm
  have hml := hm.len
  obtain ⟨i0, hi0, hzz⟩ := Option.map_eq_some_iff.1 info3
  simp only [Prod.mk.injEq] at hzz
  obtain ⟨hz0, hs0, hb0⟩ := hzz
  have HI := Lib.hid (And.intro hi0 (And.intro hz0 (And.intro hs0 hb0)))
  clear hl hm hi0 hz0 hs0 hb0
  have ML := Lib.hid (misL_len l m)
  have STY : Hid (∀ k, hasL m (l.getD k 0) m.length = true → misL l m (k + 1) = misL l m k) := fun k h => if_pos h
  have STN : Hid (∀ k, hasL m (l.getD k 0) m.length = false → misL l m (k + 1) = misL l m k ++ [l.getD k 0]) := fun k h => if_neg (by rw [h]; exact Bool.false_ne_true)
  go_enter Try.func45, Try.ntmps45
  go_wp2_with fail
  go_loopw [10, 5] (fun vi vs wr => ∃ (k : Nat) (vo : Value), vo = vs ∧ vi = .int .i64 k ∧ k ≤ l.length ∧ Below w.heap.size w wr ∧ wr.ownsRow w.heap.size 3 1 vo (misL l m k).length ((misL l m k).map (.int .i64))) (fun i _ _ => l.length - (intOf i).toNat)
  case atStart => exact ⟨0, _, rfl, rfl, Nat.zero_le _, Below.refl _ _, World.ownsRow_nil _ _ _ _⟩
  case round =>
    obtain ⟨k, vo, rfl, rfl, hk, hB, hO⟩ := hrel
    have HB := Lib.hid hB
    have HO := Lib.hid hO
    by_cases hlt : k < l.length
    · obtain ⟨b, off, rfl, hb, c0⟩ := HL.out.at hlt
      have d0 := (hB.cell (p := ⟨b, off + k, none⟩) (by exact hb)).trans c0
      have hbr : b < wr.heap.size := by have := hB.size; omega
      have P := con_any B d m (l.getD k 0) wr (HM.out.below hB)
      have Yk := Lib.hid (STY.out k)
      have Nk := Lib.hid (STN.out k)
      have Mk := ML.out k
      have hkl : (k : Int) < (l.length : Int) := by omega
      generalize l.getD k 0 = x at *
      generalize l.length = n at *
      generalize hasL m x m.length = R at *
      clear c0 hB hO
      cases R with
      | true =>
        have E := Lib.hid (Yk.out rfl)
        clear Yk Nk
        go_wp2_with fail
        refine P.mono ?_
        clear P
        rintro e w2 ⟨rfl, hb2⟩
        have HO2 := Lib.hid (own_keep HO.out (w' := w2) (fun j hj => hb2.block j (HO.out.lt j hj).2))
        have HB2 := Lib.hid (bel2 HB.out hb2)
        clear hb2
        go_wp2_with fail
        go_roundw
        case rel => exact ⟨k + 1, _, rfl, by go_num, by omega, HB2.out, by rw [E.out]; exact HO2.out⟩
        case measure => simp [intOf]; omega
      | false =>
        have E := Lib.hid (Nk.out rfl)
        clear Yk Nk
        go_wp2_with fail
        refine P.mono ?_
        clear P
        rintro e w2 ⟨rfl, hb2⟩
        have HO2 := own_keep HO.out (w' := w2) (fun j hj => hb2.block j (HO.out.lt j hj).2)
        have HB2 := bel2 HB.out hb2
        have b3 : Below w2.heap.size w2 (w2.alloc (.cells #[.int .i64 x] 3)) := bal (Below.refl _ _) _
        have own3 := own_keep HO2 (w' := w2.alloc (.cells #[.int .i64 x] 3)) (fun j hj => b3.block j (HO2.lt j hj).2)
        have hs3 : w.heap.size ≤ (w2.alloc (.cells #[.int .i64 x] 3)).heap.size := by have := HB2.size; have := b3.size; omega
        have HB3 := Lib.hid (bel2 HB2 b3)
        have NW : Hid (∀ (j : Nat) (u : Value), [Value.int .i64 x][j]? = some u → (w2.alloc (.cells #[.int .i64 x] 3)).cell? (Addr.add ⟨w2.heap.size, 0, none⟩ j) = some u) := fun j u hu => by
          rw [add_plain, Nat.zero_add, new_c]
          simpa using hu
        generalize hml2 : misL l m k = L at *
        clear hml2 HO2 b3 hb2
        go_wp2_with (at_builtin; refine wpList_append_own _ rfl (.tmp 18) (.tmp 20) 29 rfl w.heap.size 3 i0 _ 1 8 Try.underlying29 HI.out.1 HI.out.2.1 HI.out.2.2.1 HI.out.2.2.2 rfl (by decide) vo L.length (L.map (.int .i64)) rfl own3 ⟨w2.heap.size, 0, none⟩ 1 1 [.int .i64 x] rfl rfl NW.out ?c1 ?c2 ?c3 ?c4 ?_)
        case c1 => intro u hu; rw [List.mem_singleton.1 hu]; rfl
        case c2 => unfold maxLen; omega
        case c3 => omega
        case c4 => exact hs3
        intro v' w4 hown hgr hiff
        have HB4 := Lib.hid (HB3.out.grown hgr (by have := HB3.out.size; omega) (fun j hj => (own3.lt j hj).1))
        have HO4 : Hid (w4.ownsRow w.heap.size 3 1 v' (L ++ [x]).length ((L ++ [x]).map (.int .i64))) := by
          show World.ownsRow _ _ _ _ _ _ _
          rw [List.length_append, List.map_append]
          exact hown
        clear hown hgr hiff NW own3
        go_wp2_with fail
        go_roundw
        case rel => exact ⟨k + 1, _, rfl, by go_num, by omega, HB4.out, by rw [E.out]; exact HO4.out⟩
        case measure => simp [intOf]; omega
    · have hkn : k = l.length := by omega
      subst hkn
      have F : Hid (MiP w (misL l m l.length) (.returned vo) wr) := ⟨vo, rfl, hO, hB⟩
      clear hB hO HO HB
      go_wp2
      go_ret
      exact F.out
end Go.Proofs.Ytejfopjnokopeaa
