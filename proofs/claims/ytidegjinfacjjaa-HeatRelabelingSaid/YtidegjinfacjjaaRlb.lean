/- HeatRelabeling: the walk. -/
import Derived.Test.YtidegjinfacjjaaRlp
import Derived.Test.YtidegjinfacjjaaSys
import Derived.Test.YtidegjinfacjjaaSmw
namespace Go.Proofs.Ytidegjinfacjjaa
open Go.ChangeShapes Go.WideShapes Go.ChangeAt Go.RowKit Go.Deep Go.Joins

theorem rv_inv {h g : Mo} {E F : Nat → Int} {o top : Int} (v : Inv (h.at E o) top) (hF : ∀ i, i < h.n → F i = E (h.n - 1 - i)) : Inv (h.rv g F o) top := by
  refine ⟨Gd.rev v.g, v.st, fun i hi => ?_⟩
  have hi : i < h.n := hi
  have := v.e (h.n - 1 - i) (by show h.n - 1 - i < h.n; omega)
  show (h.D (h.n - 1 - i)).c * h.s ≤ F i ∧ F i < (h.D (h.n - 1 - i)).c * (top + 1)
  rw [hF i hi]
  exact this
theorem vsL_rvD (n : Nat) (D : Nat → Dm) (k e : Nat) (hk : n = k + 1 + e) : vsL (dV (rvD n D)) ((k + 1) * 2) = vsL (dV (rvD n D)) (k * 2) ++ [.int .i64 (D e).c, .int .i64 (D e).a] := by
  rw [show (k + 1) * 2 = k * 2 + 1 + 1 by omega, vsL_succ, vsL_succ, dV0, dV1]
  have : rvD n D k = D e := by unfold rvD; congr 1; omega
  rw [this]
  simp
theorem vsL_rvK (n m : Nat) (K : Nat → Lk) (k e : Nat) (hk : m = k + 1 + e) : vsL (lV (rvK n m K)) ((k + 1) * 3) = vsL (lV (rvK n m K)) (k * 3) ++ [.int .i64 ((n : Int) - 1 - (K e).b), .int .i64 ((n : Int) - 1 - (K e).a), .int .i64 (K e).c] := by
  rw [show (k + 1) * 3 = k * 3 + 1 + 1 + 1 by omega, vsL_succ, vsL_succ, vsL_succ, lV0, show k * 3 + 1 + 1 = k * 3 + 2 by omega, lV1, lV2]
  have : m - 1 - k = e := by omega
  unfold rvK
  rw [this]
  simp
set_option maxRecDepth 20000 in
set_option maxHeartbeats 32000000 in
theorem rlb_any (A : Option Addr) (l c : Nat) (D0 : Nat → Dm) (B : Option Addr) (lk c2 : Nat) (K0 : Nat → Lk) (am : Int) (P : Option Addr) (pn pc : Nat) (g : Nat → Pw) (w : World) (hA : Fl w A 2 l (dV D0)) (hB : Fl w B 3 lk (lV K0)) (_ham : (Lit.int .i64 am).wf = true) (hP : Pws w P pn g) : Calls Try.prog 8 #[.slice A l c, .slice B lk c2, .int .i64 am, .slice P pn pc] w (LawPost w) := by
  have AW := Lib.hid (fun W => awake_any W)
  by_cases hm : 30 < pn
  · have q : (30 : Int) < (pn : Int) := by omega
    clear hA hB hP
    go_enter Try.func8, Try.ntmps8
    go_wp2_with (go_at_call 11; refine (AW.out _).mono ?_; rintro e w9 ⟨rfl, hb9⟩)
    go_ret
    exact ⟨rfl, hb9⟩
  have q : ¬ (30 : Int) < (pn : Int) := by omega
  have HP := Lib.hid hP
  clear hP
  have SO := som_any A l c D0 B lk c2 K0 am w hA hB
  clear hA hB
  obtain ⟨i0, hi0, hzz⟩ := Option.map_eq_some_iff.1 info31
  simp only [Prod.mk.injEq] at hzz
  have HI0 := Lib.hid (And.intro hi0 (And.intro hzz.1 (And.intro hzz.2.1 hzz.2.2)))
  clear hi0 hzz
  obtain ⟨i1, hi1, hzz⟩ := Option.map_eq_some_iff.1 info34
  simp only [Prod.mk.injEq] at hzz
  have HI1 := Lib.hid (And.intro hi1 (And.intro hzz.1 (And.intro hzz.2.1 hzz.2.2)))
  clear hi1 hzz
  go_enter Try.func8, Try.ntmps8
  go_wp2_with fail
  refine SO.mono ?_
  clear SO
  rintro e w1 ⟨n, D, m, K, amb, A1, B1, cb, rfl, hF1, hF2, hbn, hG, n1, n5, m12, a1, a2, hb1⟩
  have hx : Below w1.heap.size w1 (w1.alloc (.cells #[.slice (some A1) n n, .slice B1 m cb, .int .i64 amb] 27)) := bal (Below.refl _ _) _
  obtain ⟨s0, s1, s2⟩ := bx3 w1 (.slice (some A1) n n) (.slice B1 m cb) (.int .i64 amb) 27
  have hb2 := bel2 hb1 hx
  have lS : w1.heap.size < (w1.alloc (.cells #[.slice (some A1) n n, .slice B1 m cb, .int .i64 amb] 27)).heap.size := by simp
  have hG1 := hF1.below' hx
  have hG2 := hF2.below' hx
  obtain ⟨ab, ao, hA1, lA⟩ := hG1.addr n1
  injection hA1 with hA1
  subst hA1
  have HB2 := Lib.hid hb2
  have HG := Lib.hid hG
  have HS0 := Lib.hid s0
  have HS1 := Lib.hid s1
  have HS2 := Lib.hid s2
  have HF1 := Lib.hid hG1
  have HF2 := Lib.hid hG2
  have HBN := Lib.hid hbn
  clear hb1 hx hF1 hF2 hG1 hG2 hbn hG hb2 s1 s2
  go_wp2_with fail
  generalize w1.alloc (.cells #[.slice (some ⟨ab, ao, none⟩) n n, .slice B1 m cb, .int .i64 amb] 27) = w2 at *
  generalize w1.heap.size = S at *
  clear w1
  generalize hBS : w2.heap.size = BS at *
  have HBS := Lib.hid hBS
  clear hBS
  clear s0
  go_loopw [11, 13] (fun v11 v13 wr => ∃ (i k : Nat) (v : Value), v11 = v ∧ v13 = .int .i64 ((i : Int) - 1) ∧ n = k + i ∧ wr.ownsRow BS 31 2 v k (vsL (dV (rvD n D)) (k * 2)) ∧ Below BS w2 wr) (fun _ v13 _ => (intOf v13 + 1).toNat)
  case atStart => exact ⟨n, 0, _, rfl, rfl, by omega, ⟨rfl, .inl ⟨rfl, rfl⟩⟩, by rw [← HBS.out]; exact Below.refl _ _⟩
  case round =>
    obtain ⟨i, k, v, hv, rfl, hn, ho, hB⟩ := hrel
    have hB3 : Below w2.heap.size w2 wr := by rw [HBS.out]; exact hB
    have HB := Lib.hid hB3
    have s0 := (hB3.cell (p := ⟨S, 0, none⟩) (by rw [HBS.out]; exact lS)).trans HS0.out
    have lSr : S < wr.heap.size := by have := hB3.size; have := HBS.out; omega
    rw [hv]
    clear hv
    cases i with
    | succ e =>
      rw [show (((e + 1 : Nat) : Int) - 1) = (e : Int) by omega]
      have e0 : (0 : Int) ≤ (e : Int) := by omega
      obtain ⟨hlb, d0, d1⟩ := (HF1.out.below' hB3).dat' rfl (show e < n by omega)
      have OLO : ∀ b, v.ownBlock = some b → BS ≤ b ∧ b < wr.heap.size := fun b hb => own_lo ho b hb
      have HV := Lib.hid OLO
      have hx : Below wr.heap.size wr (wr.alloc (.cells #[.int .i64 (D e).c, .int .i64 (D e).a] 31)) := bal (Below.refl _ _) _
      have OWN := own_chg ho (Chg.of_below hx (fun _ => False)) (fun _ _ x => x)
      have NEW : Hid (∀ j u, [Value.int .i64 (D e).c, .int .i64 (D e).a][j]? = some u → (wr.alloc (.cells #[.int .i64 (D e).c, .int .i64 (D e).a] 31)).cell? (Addr.add ⟨wr.heap.size, 0, none⟩ j) = some u) := fun j u hu => by
        rw [add_plain, Nat.zero_add, new_c]
        simpa using hu
      have ONE : Hid (∀ u, u ∈ [Value.int .i64 (D e).c, .int .i64 (D e).a] → u.oneCell' = true) := fun u hu => by
        simp only [List.mem_cons, List.not_mem_nil, or_false] at hu
        rcases hu with rfl | rfl <;> rfl
      have hsz5 : BS ≤ (wr.alloc (.cells #[.int .i64 (D e).c, .int .i64 (D e).a] 31)).heap.size := by have := hB3.size; have := HBS.out; simp; omega
      have elt : e < n := by omega
      have NS := Lib.hid (vsL_rvD n D k e (by omega))
      have BW := Lib.hid (bel2 hB3 hx)
      have hk5 : k + 1 ≤ 5 := by omega
      have HN := Lib.hid hn
      clear hx ho hB hB3 OLO hn
      generalize (D e).c = dc at *
      generalize (D e).a = da at *
      go_wp2_with (at_builtin; refine wpList_append_own _ rfl (.tmp 45) (.tmp 51) 22 rfl BS 31 i0 _ 2 16 Try.underlying22 HI0.out.1 HI0.out.2.1 HI0.out.2.2.1 HI0.out.2.2.2 rfl (by decide) _ k (vsL (dV (rvD n D)) (k * 2)) rfl OWN ⟨wr.heap.size, 0, none⟩ 1 1 [.int .i64 dc, .int .i64 da] rfl rfl NEW.out ONE.out ?c3 ?c4 ?c5 ?_)
      case c3 => unfold maxLen; omega
      case c4 => omega
      case c5 => first | exact hsz5 | omega
      intro v' w5 hown hgr hiff
      have hown : w5.ownsRow BS 31 2 v' (k + 1) (vsL (dV (rvD n D)) ((k + 1) * 2)) := by rw [NS.out]; exact hown
      have B5 : Hid (Below BS w2 w5) := by
        have := BW.out.grown hgr BW.out.size (fun b hb => by have := HV.out b hb; have := HBS.out; omega)
        rw [HBS.out] at this
        exact this
      have HO := Lib.hid hown
      clear hown hgr hiff OWN NEW ONE BW
      go_wp2
      go_roundw
      case rel => exact ⟨e, k + 1, _, rfl, by first | rfl | (congr 1; omega), by have := HN.out; omega, HO.out, B5.out⟩
      case measure => simp [intOf]; try omega
    | zero =>
      obtain rfl : n = k := by omega
      clear hn
      rw [show (((0 : Nat) : Int) - 1) = (-1 : Int) by omega]
      obtain ⟨Ad, cd, rfl, FD, -, -, ADB, ADN, -⟩ := fl_of_own ho (by omega)
      have HO := Lib.hid FD
      have HAD := Lib.hid ADB
      obtain ⟨db, dof, rfl, ldb⟩ := FD.addr n1
      have s1 := (hB3.cell (p := ⟨S, 1, none⟩) (by rw [HBS.out]; exact lS)).trans HS1.out
      have lB3 := Lib.hid hB3
      clear ho FD ADB ADN s0 hB hB3
      go_wp2_with fail
      generalize wr = w3 at *
      generalize hBS2 : w3.heap.size = BT at *
      have HBT := Lib.hid hBS2
      have bst : BS ≤ BT := by have := lB3.out.size; have := HBS.out; omega
      clear hBS2
      clear s1
      go_loopw [12, 14] (fun v12 v14 wr => ∃ (i k : Nat) (v : Value), v12 = v ∧ v14 = .int .i64 ((i : Int) - 1) ∧ m = k + i ∧ wr.ownsRow BT 34 3 v k (vsL (lV (rvK n m K)) (k * 3)) ∧ Below BT w3 wr) (fun _ v14 _ => (intOf v14 + 1).toNat)
      case atStart => exact ⟨m, 0, _, rfl, rfl, by omega, ⟨rfl, .inl ⟨rfl, rfl⟩⟩, by rw [← HBT.out]; exact Below.refl _ _⟩
      case round =>
        obtain ⟨i, k, v, hv, rfl, hn, ho, hB⟩ := hrel
        have hB4 : Below w3.heap.size w3 wr := by rw [HBT.out]; exact hB
        have hBB := bel2 lB3.out hB4
        have s1 := (hBB.cell (p := ⟨S, 1, none⟩) (by rw [HBS.out]; exact lS)).trans HS1.out
        rw [hv]
        clear hv
        cases i with
        | succ e =>
          rw [show (((e + 1 : Nat) : Int) - 1) = (e : Int) by omega]
          have e0 : (0 : Int) ≤ (e : Int) := by omega
          have eta : e < m := by omega
          obtain ⟨lb, lo, rfl, hlb, r0, r1, r2⟩ := (HF2.out.below' hBB).lat eta
          obtain ⟨p, q, e1, e2, hp, hq, hpq, c1, c5⟩ := HG.out.l e eta
          have NS := vsL_rvK n m K k e (by omega)
          rw [e1] at r0 NS
          rw [e2] at r1 NS
          generalize (K e).c = cc at *
          have OLO : ∀ b, v.ownBlock = some b → BT ≤ b ∧ b < wr.heap.size := fun b hb => own_lo ho b hb
          have HV := Lib.hid OLO
          have hx : Below wr.heap.size wr ((wr.alloc (.cells #[.int .i64 ((n : Int) - 1 - (q : Nat)), .int .i64 ((n : Int) - 1 - (p : Nat)), .int .i64 cc] 34)).drew) := (bal (Below.refl _ _) _).drew
          have HOW : Hid (((wr.alloc (.cells #[.int .i64 ((n : Int) - 1 - (q : Nat)), .int .i64 ((n : Int) - 1 - (p : Nat)), .int .i64 cc] 34)).drew).ownsRow BT 34 3 v k (vsL (lV (rvK n m K)) (k * 3))) := own_chg ho (Chg.of_below hx (fun _ => False)) (fun _ _ x => x)
          have HNW : Hid (∀ j u, [Value.int .i64 ((n : Int) - 1 - (q : Nat)), .int .i64 ((n : Int) - 1 - (p : Nat)), .int .i64 cc][j]? = some u → ((wr.alloc (.cells #[.int .i64 ((n : Int) - 1 - (q : Nat)), .int .i64 ((n : Int) - 1 - (p : Nat)), .int .i64 cc] 34)).drew).cell? (Addr.add ⟨wr.heap.size, 0, none⟩ j) = some u) := fun j u hu => by
            rw [add_plain, Nat.zero_add]
            refine (new_c wr _ _ _).trans ?_
            simpa using hu
          have HON : Hid (∀ u, u ∈ [Value.int .i64 ((n : Int) - 1 - (q : Nat)), .int .i64 ((n : Int) - 1 - (p : Nat)), .int .i64 cc] → u.oneCell' = true) := fun u hu => by
            simp only [List.mem_cons, List.not_mem_nil, or_false] at hu
            rcases hu with rfl | rfl | rfl <;> rfl
          have lSr : S < wr.heap.size := by have := hBB.size; have := HBS.out; omega
          have SA : Hid (((wr.alloc (.cells #[.int .i64 ((n : Int) - 1 - (q : Nat)), .int .i64 ((n : Int) - 1 - (p : Nat)), .int .i64 cc] 34)).drew).cell? ⟨S, 1, none⟩ = some (.slice (some ⟨lb, lo, none⟩) m cb) ∧ ((wr.alloc (.cells #[.int .i64 ((n : Int) - 1 - (q : Nat)), .int .i64 ((n : Int) - 1 - (p : Nat)), .int .i64 cc] 34)).drew).cell? ⟨lb, lo + e * 3, none⟩ = some (.int .i64 (p : Nat)) ∧ ((wr.alloc (.cells #[.int .i64 ((n : Int) - 1 - (q : Nat)), .int .i64 ((n : Int) - 1 - (p : Nat)), .int .i64 cc] 34)).drew).cell? ⟨lb, lo + e * 3 + 1, none⟩ = some (.int .i64 (q : Nat)) ∧ ((wr.alloc (.cells #[.int .i64 ((n : Int) - 1 - (q : Nat)), .int .i64 ((n : Int) - 1 - (p : Nat)), .int .i64 cc] 34)).drew).cell? ⟨lb, lo + e * 3 + 2, none⟩ = some (.int .i64 cc)) :=
            ⟨(hx.cell (p := ⟨S, 1, none⟩) lSr).trans s1, (hx.cell (p := ⟨lb, lo + e * 3, none⟩) hlb).trans r0, (hx.cell (p := ⟨lb, lo + e * 3 + 1, none⟩) hlb).trans r1, (hx.cell (p := ⟨lb, lo + e * 3 + 2, none⟩) hlb).trans r2⟩
          have lbBS : lb < BT := by
            have := fl_blk HF2.out (show 1 ≤ m by omega)
            have this : lb < w2.heap.size := this
            have := HBS.out
            omega
          have SBT : S < BT := by omega
          have hws := hx.size
          have KG : Hid (∀ w9, ((wr.alloc (.cells #[.int .i64 ((n : Int) - 1 - (q : Nat)), .int .i64 ((n : Int) - 1 - (p : Nat)), .int .i64 cc] 34)).drew).grownBy w9 v.ownBlock → w9.cell? ⟨S, 1, none⟩ = some (.slice (some ⟨lb, lo, none⟩) m cb) ∧ w9.cell? ⟨lb, lo + e * 3, none⟩ = some (.int .i64 (p : Nat)) ∧ w9.cell? ⟨lb, lo + e * 3 + 1, none⟩ = some (.int .i64 (q : Nat)) ∧ w9.cell? ⟨lb, lo + e * 3 + 2, none⟩ = some (.int .i64 cc)) := fun w9 hg => by
            have eS := hg.block S (by omega) (fun h => by have := (HV.out S h.symm).1; omega)
            have eL := hg.block lb (by omega) (fun h => by have := (HV.out lb h.symm).1; omega)
            obtain ⟨x0, x1, x2, x3⟩ := SA.out
            exact ⟨(blk_cell eS 1).trans x0, (blk_cell eL _).trans x1, (blk_cell eL _).trans x2, (blk_cell eL _).trans x3⟩
          have NM : Hid (∀ (w9 : World) (v' : Value), w9.ownsRow BT 34 3 v' (k + 1) (vsL (lV (rvK n m K)) (k * 3) ++ [.int .i64 ((n : Int) - 1 - (q : Nat)), .int .i64 ((n : Int) - 1 - (p : Nat)), .int .i64 cc]) → w9.ownsRow BT 34 3 v' (k + 1) (vsL (lV (rvK n m K)) ((k + 1) * 3))) := fun w9 v' h => by rw [NS]; exact h
          have NB : Hid (∀ w9, ((wr.alloc (.cells #[.int .i64 ((n : Int) - 1 - (q : Nat)), .int .i64 ((n : Int) - 1 - (p : Nat)), .int .i64 cc] 34)).drew).grownBy w9 v.ownBlock → Below BT w3 w9) := fun w9 hg => by
            have b1 : Below w3.heap.size w3 ((wr.alloc (.cells #[.int .i64 ((n : Int) - 1 - (q : Nat)), .int .i64 ((n : Int) - 1 - (p : Nat)), .int .i64 cc] 34)).drew) := bel2 hB4 hx
            have := b1.grown hg b1.size (fun b hb => by have := (HV.out b hb).1; have := HBT.out; omega)
            rw [HBT.out] at this
            exact this
          have hc3 : k + 1 ≤ maxLen := by unfold maxLen; omega
          have hc4 : (k + 1) * 24 ≤ 140737488355328 := by omega
          have hc5 : BT ≤ ((wr.alloc (.cells #[.int .i64 ((n : Int) - 1 - (q : Nat)), .int .i64 ((n : Int) - 1 - (p : Nat)), .int .i64 cc] 34)).drew).heap.size := by have := hB4.size; have := HBT.out; omega
          have HN := Lib.hid hn
          have HP1 := Lib.hid hp
          clear hx ho hB hB4 OLO hn NS e1 e2 hBB lbBS SBT hws c1 c5 hpq
          go_upto_region 14 with fail
          have w1 : IntKind.i64.wrap ((n : Int) - 1) = (n : Int) - 1 := IntWalk.i64_in _ (by omega)
          have w2' : IntKind.i64.wrap ((n : Int) - 1 - (q : Int)) = (n : Int) - 1 - (q : Int) := IntWalk.i64_in _ (by omega)
          have w3' : IntKind.i64.wrap ((n : Int) - 1 - (p : Int)) = (n : Int) - 1 - (p : Int) := IntWalk.i64_in _ (by omega)
          refine wp_region_noPanic ?_
          refine wp_region_held_drew (S := fun W => W.cell? ⟨S, 1, none⟩ = some (.slice (some ⟨lb, lo, none⟩) m cb) ∧ W.cell? ⟨lb, lo + e * 3, none⟩ = some (.int .i64 (p : Nat)) ∧ W.cell? ⟨lb, lo + e * 3 + 1, none⟩ = some (.int .i64 (q : Nat)) ∧ W.cell? ⟨lb, lo + e * 3 + 2, none⟩ = some (.int .i64 cc)) (by kernel_rfl) (⟨s1, r0, r1, r2⟩) (fun hHeld => ?_)
          refine wpAnyH_take (i := 0) (v := ?va0) (by simp only [List.getElem?_toArray, List.getElem?_cons_zero]; rfl) (by kernel_rfl) (by kernel_rfl) (by kernel_rfl) (fun _ _ _ h => h) (Or.inl ⟨by rfl, ?ya0⟩) hHeld ?_
          case ya0 => (intro w hSw; go_simp <;> with_reducible rfl)
          simp only [Act.put, List.setIfInBounds_toArray, List.set_cons_zero, List.set_cons_succ]
          refine wpAnyH_take (i := 1) (v := ?va1) (by simp only [List.getElem?_toArray, List.getElem?_cons_succ, List.getElem?_cons_zero]; rfl) (by kernel_rfl) (by kernel_rfl) (by kernel_rfl) (fun _ _ _ h => h) (Or.inl ⟨by rfl, ?ya1⟩) hHeld ?_
          case ya1 => (intro w hSw; go_simp <;> with_reducible rfl)
          simp only [Act.put, List.setIfInBounds_toArray, List.set_cons_zero, List.set_cons_succ]
          refine wpAnyH_take (i := 2) (v := ?va2) (by simp only [List.getElem?_toArray, List.getElem?_cons_succ, List.getElem?_cons_zero]; rfl) (by kernel_rfl) (by kernel_rfl) (by kernel_rfl) (fun _ _ _ h => h) (Or.inl ⟨by rfl, ?ya2⟩) hHeld ?_
          case ya2 => (intro w hSw; go_simp <;> with_reducible rfl)
          simp only [Act.put, List.setIfInBounds_toArray, List.set_cons_zero, List.set_cons_succ]
          refine wpAnyH_take (i := 3) (v := ?va3) (by simp only [List.getElem?_toArray, List.getElem?_cons_succ, List.getElem?_cons_zero]; rfl) (by kernel_rfl) (by kernel_rfl) (by kernel_rfl) (fun _ _ _ h => h) (Or.inl ⟨by rfl, ?ya3⟩) hHeld ?_
          case ya3 => (intro w hSw; go_simp <;> with_reducible rfl)
          simp only [Act.put, List.setIfInBounds_toArray, List.set_cons_zero, List.set_cons_succ]
          refine wpAnyH_take (i := 4) (v := ?va4) (by simp only [List.getElem?_toArray, List.getElem?_cons_succ, List.getElem?_cons_zero]; rfl) (by kernel_rfl) (by kernel_rfl) (by kernel_rfl) (fun _ _ _ h => h) (Or.inl ⟨by rfl, ?ya4⟩) hHeld ?_
          case ya4 => (intro w hSw; go_simp <;> with_reducible rfl)
          simp only [Act.put, List.setIfInBounds_toArray, List.set_cons_zero, List.set_cons_succ]
          refine wpAnyH_take (i := 5) (v := ?va5) (by simp only [List.getElem?_toArray, List.getElem?_cons_succ, List.getElem?_cons_zero]; rfl) (by kernel_rfl) (by kernel_rfl) (by kernel_rfl) (fun _ _ _ h => h) (Or.inl ⟨by rfl, ?ya5⟩) hHeld ?_
          case ya5 => (intro w hSw; go_simp <;> with_reducible rfl)
          simp only [Act.put, List.setIfInBounds_toArray, List.set_cons_zero, List.set_cons_succ]
          refine wpAnyH_take (i := 6) (v := ?va6) (by simp only [List.getElem?_toArray, List.getElem?_cons_succ, List.getElem?_cons_zero]; rfl) (by kernel_rfl) (by kernel_rfl) (by kernel_rfl) (fun _ _ _ h => h) (Or.inl ⟨by rfl, ?ya6⟩) hHeld ?_
          case ya6 => (intro w hSw; go_simp <;> with_reducible rfl)
          simp only [Act.put, List.setIfInBounds_toArray, List.set_cons_zero, List.set_cons_succ]
          refine wpAnyH_take (i := 7) (v := ?va7) (by simp only [List.getElem?_toArray, List.getElem?_cons_succ, List.getElem?_cons_zero]; rfl) (by kernel_rfl) (by kernel_rfl) (by kernel_rfl) (fun _ _ _ h => h) (Or.inl ⟨by rfl, ?ya7⟩) hHeld ?_
          case ya7 => (intro w hSw; go_simp <;> with_reducible rfl)
          simp only [Act.put, List.setIfInBounds_toArray, List.set_cons_zero, List.set_cons_succ]
          refine wpAnyH_take (i := 8) (v := ?va8) (by simp only [List.getElem?_toArray, List.getElem?_cons_succ, List.getElem?_cons_zero]; rfl) (by kernel_rfl) (by kernel_rfl) (by kernel_rfl) (fun _ _ _ h => h) (Or.inl ⟨by rfl, ?ya8⟩) hHeld ?_
          case ya8 => (intro w hSw; go_simp <;> with_reducible rfl)
          simp only [Act.put, List.setIfInBounds_toArray, List.set_cons_zero, List.set_cons_succ]
          refine wpAnyH_take (i := 9) (v := ?va9) (by simp only [List.getElem?_toArray, List.getElem?_cons_succ, List.getElem?_cons_zero]; rfl) (by kernel_rfl) (by kernel_rfl) (by kernel_rfl) (fun _ _ _ h => h) (Or.inl ⟨by rfl, ?ya9⟩) hHeld ?_
          case ya9 => (intro w hSw; go_simp <;> with_reducible rfl)
          simp only [Act.put, List.setIfInBounds_toArray, List.set_cons_zero, List.set_cons_succ]
          refine wpAnyH_take (i := 10) (v := ?va10) (by simp only [List.getElem?_toArray, List.getElem?_cons_succ, List.getElem?_cons_zero]; rfl) (by kernel_rfl) (by kernel_rfl) (by kernel_rfl) (fun _ _ _ h => h) (Or.inl ⟨by rfl, ?ya10⟩) hHeld ?_
          case ya10 => (intro w hSw; go_simp <;> with_reducible rfl)
          simp only [Act.put, List.setIfInBounds_toArray, List.set_cons_zero, List.set_cons_succ]
          refine wpAnyH_take (i := 11) (v := ?va11) (by simp only [List.getElem?_toArray, List.getElem?_cons_succ, List.getElem?_cons_zero]; rfl) (by kernel_rfl) (by kernel_rfl) (by kernel_rfl) (fun _ _ _ h => h) (Or.inl ⟨by rfl, ?ya11⟩) hHeld ?_
          case ya11 => (intro w hSw; go_simp <;> with_reducible rfl)
          simp only [Act.put, List.setIfInBounds_toArray, List.set_cons_zero, List.set_cons_succ]
          refine wpAnyH_take (i := 12) (v := ?va12) (by simp only [List.getElem?_toArray, List.getElem?_cons_succ, List.getElem?_cons_zero]; rfl) (by kernel_rfl) (by kernel_rfl) (by kernel_rfl) (fun _ _ _ h => h) (Or.inl ⟨by rfl, ?ya12⟩) hHeld ?_
          case ya12 => (intro w hSw; go_simp <;> with_reducible rfl)
          simp only [Act.put, List.setIfInBounds_toArray, List.set_cons_zero, List.set_cons_succ]
          refine wpAnyH_take (i := 13) (v := ?va13) (by simp only [List.getElem?_toArray, List.getElem?_cons_succ, List.getElem?_cons_zero]; rfl) (by kernel_rfl) (by kernel_rfl) (by kernel_rfl) (fun _ _ _ h => h) (Or.inl ⟨by rfl, ?ya13⟩) hHeld ?_
          case ya13 => (intro w hSw; go_simp <;> with_reducible rfl)
          simp only [Act.put, List.setIfInBounds_toArray, List.set_cons_zero, List.set_cons_succ]
          refine wpAnyH_take (i := 14) (v := ?va14) (by simp only [List.getElem?_toArray, List.getElem?_cons_succ, List.getElem?_cons_zero]; rfl) (by kernel_rfl) (by kernel_rfl) (by kernel_rfl) (fun _ _ _ h => h) (Or.inl ⟨by rfl, ?ya14⟩) hHeld ?_
          case ya14 => (intro w hSw; go_simp <;> with_reducible rfl)
          simp only [Act.put, List.setIfInBounds_toArray, List.set_cons_zero, List.set_cons_succ]
          refine wpAnyH_take (i := 15) (v := ?va15) (by simp only [List.getElem?_toArray, List.getElem?_cons_succ, List.getElem?_cons_zero]; rfl) (by kernel_rfl) (by kernel_rfl) (by kernel_rfl) (fun _ _ _ h => h) (Or.inl ⟨by rfl, ?ya15⟩) hHeld ?_
          case ya15 => (intro w hSw; go_simp <;> with_reducible rfl)
          simp only [Act.put, List.setIfInBounds_toArray, List.set_cons_zero, List.set_cons_succ]
          refine wpAnyH_take (i := 16) (v := ?va16) (by simp only [List.getElem?_toArray, List.getElem?_cons_succ, List.getElem?_cons_zero]; rfl) (by kernel_rfl) (by kernel_rfl) (by kernel_rfl) (fun _ _ _ h => h) (Or.inl ⟨by rfl, ?ya16⟩) hHeld ?_
          case ya16 => (intro w hSw; go_simp <;> with_reducible rfl)
          simp only [Act.put, List.setIfInBounds_toArray, List.set_cons_zero, List.set_cons_succ]
          refine wpAnyH_take (i := 17) (v := ?va17) (by simp only [List.getElem?_toArray, List.getElem?_cons_succ, List.getElem?_cons_zero]; rfl) (by kernel_rfl) (by kernel_rfl) (by kernel_rfl) (fun _ _ _ h => h) (Or.inl ⟨by rfl, ?ya17⟩) hHeld ?_
          case ya17 => (intro w hSw; go_simp <;> with_reducible rfl)
          simp only [Act.put, List.setIfInBounds_toArray, List.set_cons_zero, List.set_cons_succ]
          refine wpAnyH_take (i := 18) (v := ?va18) (by simp only [List.getElem?_toArray, List.getElem?_cons_succ, List.getElem?_cons_zero]; rfl) (by kernel_rfl) (by kernel_rfl) (by kernel_rfl) (fun _ _ _ h => h) (Or.inl ⟨by rfl, ?ya18⟩) hHeld ?_
          case ya18 => (intro w hSw; go_simp <;> with_reducible rfl)
          simp only [Act.put, List.setIfInBounds_toArray, List.set_cons_zero, List.set_cons_succ]
          refine wpAnyH_take (i := 19) (v := ?va19) (by simp only [List.getElem?_toArray, List.getElem?_cons_succ, List.getElem?_cons_zero]; rfl) (by kernel_rfl) (by kernel_rfl) (by kernel_rfl) (fun _ _ _ h => h) (Or.inl ⟨by rfl, ?ya19⟩) hHeld ?_
          case ya19 => (intro w hSw; go_simp <;> with_reducible rfl)
          simp only [Act.put, List.setIfInBounds_toArray, List.set_cons_zero, List.set_cons_succ]
          refine wpAnyH_take (i := 20) (v := ?va20) (by simp only [List.getElem?_toArray, List.getElem?_cons_succ, List.getElem?_cons_zero]; rfl) (by kernel_rfl) (by kernel_rfl) (by kernel_rfl) (fun _ _ _ h => h) (Or.inl ⟨by rfl, ?ya20⟩) hHeld ?_
          case ya20 => (intro w hSw; go_simp <;> with_reducible rfl)
          simp only [Act.put, List.setIfInBounds_toArray, List.set_cons_zero, List.set_cons_succ]
          refine wpAnyH_take (i := 21) (v := ?va21) (by simp only [List.getElem?_toArray, List.getElem?_cons_succ, List.getElem?_cons_zero]; rfl) (by kernel_rfl) (by kernel_rfl) (by kernel_rfl) (fun _ _ _ h => h) (Or.inl ⟨by rfl, ?ya21⟩) hHeld ?_
          case ya21 => (intro w hSw; go_simp <;> with_reducible rfl)
          simp only [Act.put, List.setIfInBounds_toArray, List.set_cons_zero, List.set_cons_succ]
          refine wpAnyH_take (i := 22) (v := ?va22) (by simp only [List.getElem?_toArray, List.getElem?_cons_succ, List.getElem?_cons_zero]; rfl) (by kernel_rfl) (by kernel_rfl) (by kernel_rfl) (fun _ _ _ h => h) (Or.inl ⟨by rfl, ?ya22⟩) hHeld ?_
          case ya22 => (intro w hSw; go_simp <;> with_reducible rfl)
          simp only [Act.put, List.setIfInBounds_toArray, List.set_cons_zero, List.set_cons_succ]
          refine wpAnyH_take (i := 23) (v := ?va23) (by simp only [List.getElem?_toArray, List.getElem?_cons_succ, List.getElem?_cons_zero]; rfl) (by kernel_rfl) (by kernel_rfl) (by kernel_rfl) (fun _ _ _ h => h) (Or.inl ⟨by rfl, ?ya23⟩) hHeld ?_
          case ya23 => (intro w hSw; go_simp <;> with_reducible rfl)
          simp only [Act.put, List.setIfInBounds_toArray, List.set_cons_zero, List.set_cons_succ]
          refine wpAnyH_take (i := 24) (v := ?va24) (by simp only [List.getElem?_toArray, List.getElem?_cons_succ, List.getElem?_cons_zero]; rfl) (by kernel_rfl) (by kernel_rfl) (by kernel_rfl) (fun _ _ _ h => h) (Or.inl ⟨by rfl, ?ya24⟩) hHeld ?_
          case ya24 => (intro w hSw; go_simp <;> with_reducible rfl)
          simp only [Act.put, List.setIfInBounds_toArray, List.set_cons_zero, List.set_cons_succ]
          refine wpAnyH_take (i := 25) (v := ?va25) (by simp only [List.getElem?_toArray, List.getElem?_cons_succ, List.getElem?_cons_zero]; rfl) (by kernel_rfl) (by kernel_rfl) (by kernel_rfl) (fun _ _ _ h => h) (Or.inl ⟨by rfl, ?ya25⟩) hHeld ?_
          case ya25 => (intro w hSw; go_simp <;> with_reducible rfl)
          simp only [Act.put, List.setIfInBounds_toArray, List.set_cons_zero, List.set_cons_succ]
          refine wpAnyH_ready (rs := [26]) (by kernel_rfl) (by simp) ?_
          refine AllReadyH.cons (by simp only [List.getElem?_toArray, List.getElem?_cons_succ, List.getElem?_cons_zero]; rfl) (fun KK hKK => ?_) ?_
          rotate_left
          · exact AllReadyH.nil
          go_simp
          refine hKK.out _ _ ?_ (fun hHeld => ?_)
          · exact SA.out
          clear hKK KK hHeld
          refine wpAnyH_ready (rs := [27]) (by kernel_rfl) (by simp) ?_
          refine AllReadyH.cons (by simp only [List.getElem?_toArray, List.getElem?_cons_succ, List.getElem?_cons_zero]; rfl) (fun KK hKK => ?_) ?_
          rotate_left
          · exact AllReadyH.nil
          refine step_append_lies _ (by rfl) _ _ _ (by rfl) BT 34 i1 _ 3 24 Try.underlying23 HI1.out.1 HI1.out.2.1 HI1.out.2.2.1 HI1.out.2.2.2 rfl (by decide) v k (vsL (lV (rvK n m K)) (k * 3)) (by rfl) HOW.out ⟨wr.heap.size, 0, none⟩ 1 1 [.int .i64 ((n : Int) - 1 - (q : Nat)), .int .i64 ((n : Int) - 1 - (p : Nat)), .int .i64 cc] (by rfl) rfl HNW.out HON.out (by omega) hc3 hc4 hc5 (wr.heap.size + 1) (by simp) ?_
          intro gg cap w9 hown hgrow hat hlt9
          refine hKK.out _ _ ?_ (fun hHeld => ?_)
          · exact KG.out _ hgrow
          clear hKK KK
          refine wpAnyH_take (i := 28) (v := ?va28) (by simp only [List.getElem?_toArray, List.getElem?_cons_succ, List.getElem?_cons_zero]; rfl) (by kernel_rfl) (by kernel_rfl) (by kernel_rfl) (fun _ _ _ h => h) (Or.inl ⟨by rfl, ?ya28⟩) hHeld ?_
          case ya28 => (intro w hSw; go_simp <;> with_reducible rfl)
          simp only [Act.put, List.setIfInBounds_toArray]
          refine wpAnyH_done (by kernel_rfl) ?_ _
          refine NoPanic.normal ?_
          have HO := Lib.hid (NM.out w9 _ hown)
          have B9 := Lib.hid (NB.out w9 hgrow)
          clear w1 w2' w3' hown hgrow hat hlt9 SA KG NM NB HOW HNW HON s1 r0 r1 r2
          go_wp2
          go_roundw
          case rel => exact ⟨e, k + 1, _, rfl, by first | rfl | (congr 1; omega), by have := HN.out; omega, HO.out, B9.out⟩
          case measure => simp [intOf]; try omega
        | zero =>
          obtain rfl : m = k := by omega
          clear hn
          rw [show (((0 : Nat) : Int) - 1) = (-1 : Int) by omega]
          obtain ⟨Al, cl, rfl, FL, -, -, ALB, ALN, -⟩ := fl_of_own ho (by omega)
          have F1 := HF1.out.below' hBB
          have F2 := HF2.out.below' hBB
          have FD4 := HO.out.below' hB4
          have s0 := (hBB.cell (p := ⟨S, 0, none⟩) (by rw [HBS.out]; exact lS)).trans HS0.out
          have s2 := (hBB.cell (p := ⟨S, 2, none⟩) (by rw [HBS.out]; exact lS)).trans HS2.out
          have lS4 : S < wr.heap.size := by have := hBB.size; have := HBS.out; omega
          have B4 := Lib.hid (bel2 HB2.out hBB)
          have NA := new_any (HG.out.va (s := amb) n1 n5 m12 a1 (by omega)) (some ⟨ab, ao, none⟩) n B1 cb wr F1 F2 HBN.out
          have FD4 := Lib.hid FD4
          have FL4 := Lib.hid FL
          have ALN := Lib.hid ALN
          clear ho FL ALB hB hB4 hBB F1 F2 HO HAD HF1 HF2 HS0 HS1 HS2 HI0 HI1 HB2 HBN lB3
          go_wp2_with fail
          generalize wr = w4 at *
          refine NA.mono ?_
          clear NA
          rintro e w5 ⟨h, rfl, hH, rfl, rfl, rfl, rfl, rfl, hE, ho, hu, hb5⟩
          have s2' := (hb5.cell (p := ⟨S, 2, none⟩) lS4).trans s2
          have lS5 := Nat.lt_of_lt_of_le lS4 hb5.size
          have NB := new_any (s := h.s) (HG.out.rev.va (s := h.s) n1 n5 m12 a1 (by omega)) (some ⟨db, dof, none⟩) cd Al cl w5 (FD4.out.below' hb5) (FL4.out.below' hb5) ALN.out
          have HUa := Lib.hid hu
          have B5 := Lib.hid (bel2 B4.out hb5)
          have H5 := Lib.hid hH
          have I0 : Hid (Inv h (h.s + 200)) := inv_new (top := h.s + 200) HG.out hE (by omega)
          have HE := Lib.hid hE
          have HO := Lib.hid ho
          clear hu hH hE ho hb5 s0 s1 s2 lS4 FD4 FL4 ALN
          go_wp2_with fail
          refine NB.mono ?_
          clear NB
          rintro e w6 ⟨b, rfl, hH2, en, eD, em, eK, es, eE, eo, hu2, hb6⟩
          have HBS2 : Hid (b = h.rv b b.E b.o) := rv_self en eD em eK es
          have F0 : Hid (∀ i, i < h.n → b.E i = h.E (h.n - 1 - i)) := fun i hi => by rw [eE, HE.out]; rfl
          have HO2 : Hid (b.o = h.o) := by show _ = _; rw [eo, HO.out]
          have HM2 : Hid (Hm w6 (h.rv b b.E h.o)) := by
            have : Hm w6 (h.rv b b.E b.o) := by rw [← HBS2.out]; exact hH2
            rw [HO2.out] at this
            exact this
          have H6 := Lib.hid (H5.out.below hb6)
          have B6 := Lib.hid (bel2 B5.out hb6)
          have HUb := Lib.hid hu2
          have OK0 : Hid (Ok h h.E h.o 0) := ⟨I0.out, by rw [HO.out]; exact Int.le_refl _, by rw [HO.out]; show (0 : Int) ≤ _; omega⟩
          have hL := HUa.out _ (.inl rfl)
          have hXx := HUa.out _ (.inr (.inl rfl))
          have vL := HUb.out _ (.inl rfl)
          have vX := HUb.out _ (.inr (.inl rfl))
          have sz4 := B4.out.size
          have sz5 := B5.out.size
          clear hH2 en eD em eK es eE eo hu2 hb6 s2' lS5 H5
          go_wp2_with fail
          go_loopw [19] (fun v19 wr => ∃ (j : Nat) (E F : Nat → Int) (o : Int), v19 = .int .i64 j ∧ j ≤ pn ∧ Hm wr (h.at E o) ∧ Hm wr (h.rv b F o) ∧ Ok h E o j ∧ (∀ i, i < h.n → F i = E (h.n - 1 - i)) ∧ Chg (fun x => h.wr x ∨ b.wr x) w6 wr) (fun v19 _ => pn - (intOf v19).toNat)
          case atStart => exact ⟨0, h.E, b.E, h.o, rfl, Nat.zero_le _, H6.out, HM2.out, OK0.out, F0.out, Chg.refl _ _⟩
          case round =>
            obtain ⟨j, E, F, o, rfl, hj, hH, hHb, hOK, hF, hC⟩ := hrel
            have HK := Lib.hid hH
            have HKb := Lib.hid hHb
            have CC := Lib.hid hC
            have OKh := Lib.hid hOK
            have HFh := Lib.hid hF
            have BW : Hid (Below w.heap.size w wr) := Below.chg B6.out hC B6.out.size (fun x hx => by
              rcases hx with (hx | hx) | (hx | hx)
              · have hx : x = h.L := hx; omega
              · have hx : x = h.X := hx; omega
              · have hx : x = b.L := hx; omega
              · have hx : x = b.X := hx; omega)
            have szr := hC.size
            by_cases hlt2 : j < pn
            · obtain ⟨pb, po, ga, gl, gc, rfl, PWF⟩ := HP.out.pw (n := h.n) hlt2 (by omega)
              obtain ⟨hpb, p0, PW1⟩ := PWF wr BW.out
              have zb := zq_b g j
              have PW1 : Calls Try.prog 16 #[.slice ga gl gc, .int .i64 h.n, .int .i64 200] wr (PwP wr h.n (zq g j)) := PW1
              have OKN := Lib.hid (hOK.step n5 zb)
              have IB0 := Lib.hid (rv_inv (g := b) hOK.i hF)
              have RS := rv_step (g := b) (o := o) (Z' := fun i => zq g j (h.n - 1 - i)) (Z := zq g j) HG.out hF (fun _ _ => rfl)
              generalize zq g j = Z at *
              clear hH hHb hOK hF hC PWF
              go_wp2_with fail
              refine PW1.mono ?_
              clear PW1
              rintro e w7 hp
              obtain ⟨Y, rfl, hY⟩ := PwP.lr hp
              have LY := Lib.hid hY
              have Y0 := hY.Y0
              have YL := hY.lY
              clear hp hY
              have hmk := run_make_row' (P := Try.prog) 24 2 _ 8 Try.underlying24 info2 rfl .i64 .i64 h.n (by omega) (by omega)
              have L0 := Lib.hid (lr_made w7 h.n 2)
              go_wp2_with fail
              clear hmk
              generalize w7.alloc (.cells (madeCells #[.int .i64 0] h.n) 2) = w8 at *
              generalize hY2 : w7.heap.size = Y2 at *
              have HY2 := Lib.hid hY2
              clear hY2
              go_loopw [22] (fun vi wr => ∃ k : Nat, vi = .int .i64 k ∧ k ≤ h.n ∧ Lr w7 wr Y2 h.n (fun i => if h.n ≤ i + k then Z (h.n - 1 - i) else 0)) (fun vi _ => h.n - (intOf vi).toNat)
              case atStart => exact ⟨0, rfl, Nat.zero_le _, L0.out.congr (fun i hi => if_neg (by omega))⟩
              case round =>
                clear L0
                obtain ⟨k, rfl, hk, hL⟩ := hrel
                have L := Lib.hid hL
                by_cases hlt3 : k < h.n
                · obtain ⟨e, he⟩ : ∃ e, h.n = k + 1 + e := ⟨h.n - k - 1, by omega⟩
                  have HE2 := Lib.hid he
                  have hidx : (h.n : Int) - 1 - (k : Int) = (e : Int) := by omega
                  have het : e < h.n := by omega
                  have YL' : Y < w7.heap.size := by rw [HY2.out]; exact YL
                  have ya := (hL.bel.cell (p := ⟨Y, k, none⟩) YL').trans (LY.out.at_ k hlt3)
                  have ylx := Nat.lt_of_lt_of_le YL' hL.bel.size
                  have y0 := hL.at_ e het
                  have fy := hL.frz e
                  have lY := hL.lY
                  have NX : Hid (Lr w7 (wr.setCell ⟨Y2, e, none⟩ (.int .i64 (Z k))) Y2 h.n (fun i => if h.n ≤ i + (k + 1) then Z (h.n - 1 - i) else 0)) := (hL.set e het _).congr (fun i hi => by
                    by_cases q : i = e
                    · subst q; rw [if_pos (by omega), if_pos rfl]; congr 1; omega
                    · rw [if_neg q]
                      by_cases q2 : h.n ≤ i + k
                      · rw [if_pos (by omega), if_pos q2]
                      · rw [if_neg (by omega), if_neg q2])
                  clear hL L he
                  generalize Z k = zk at *
                  go_wp2
                  go_roundw
                  case rel => exact ⟨k + 1, by go_num, by omega, NX.out⟩
                  case measure => simp [intOf]; omega
                · obtain rfl : k = h.n := by omega
                  have hq3 : ¬ (h.n : Int) < (h.n : Int) := by omega
                  have LQ := hL.congr (U := fun i => Z (h.n - 1 - i)) (fun i hi => by rw [if_pos (by omega)])
                  have LQh := Lib.hid LQ
                  have bw := Lib.hid LQ.bel
                  have Y20 := LQ.Y0
                  have Y2l := LQ.lY
                  have b78 := LQ.bel.size
                  have b67 := LY.out.bel.size
                  have SP := tws_any (g := h) (h := h) (W := wr) (Y := Y) OKh.out (by omega) a1 a2 m12 zb (HK.out.below (bel2 LY.out.bel LQ.bel)) (((LY.out.fl (by omega)).below' LQ.bel)) ⟨by omega, by omega⟩
                  have SP : Calls Try.prog 19 #[.pointer (some ⟨h.L, 0, none⟩), .slice (some ⟨Y, 0, none⟩) h.n h.n] wr (StP wr (h.at E o) (h.at ((h.at E o).stp Z).E ((h.at E o).stp Z).o)) := SP
                  obtain ⟨E', hE'⟩ : ∃ E', E' = ((h.at E o).stp Z).E := ⟨_, rfl⟩
                  obtain ⟨o', ho'⟩ : ∃ o', o' = ((h.at E o).stp Z).o := ⟨_, rfl⟩
                  obtain ⟨F', hF'⟩ : ∃ F', F' = ((h.rv b F o).stp (fun i => Z (h.n - 1 - i))).E := ⟨_, rfl⟩
                  have OKn : Hid (Ok h E' o' (j + 1)) := by rw [hE', ho']; exact OKN.out
                  have RF : Hid (∀ i, i < h.n → F' i = E' (h.n - 1 - i)) := by rw [hF', hE']; exact RS.1
                  have STB : Hid ((h.rv b F o).stp (fun i => Z (h.n - 1 - i)) = h.rv b F' o') := by show _ = _; rw [rv_stp, RS.2, ← ho', ← hF']
                  have TT : Hid (∀ i, i < h.n → (h.rv b F' o').T i = (h.at E' o').T (h.n - 1 - i)) := fun i hi => rv_T RF.out hi
                  rw [← hE', ← ho'] at SP
                  have RGb := Lib.hid (IB0.out.rg (Z := fun i => Z (h.n - 1 - i)) a1 (by show h.s ≤ 70000; omega) (by show h.s + 200 ≤ h.s + 2000; omega) m12 (fun i _ => by have := zb (h.n - 1 - i); show 0 ≤ Z (h.n - 1 - i) ∧ Z (h.n - 1 - i) ≤ 16777216; omega) (by show _ ≤ o; have := OKh.out.o1; omega) (by show o ≤ _; have := OKh.out.o2; omega))
                  clear hE' ho' hF' RS OKN LQ hL L IB0
                  go_wp2_with fail
                  generalize wr = w9 at *
                  refine SP.mono ?_
                  clear SP
                  rintro e w10 ⟨v, rfl, hT, hK8, hC8⟩
                  obtain ⟨A6, c6, rfl, hF6, hA6⟩ := hT
                  have hC8 : Chg h.wr w9 w10 := hC8
                  have hF6 : Fl w10 A6 1 h.n (eV (h.at E' o').T) := hF6
                  obtain ⟨tb, tf, rfl, -⟩ := hF6.addr n1
                  have tb0 := (hA6 _ rfl).1
                  have hKb8 : Hm w10 (h.rv b F o) := (HKb.out.below (bel2 LY.out.bel bw.out)).keep hC8 (fun x hx hw => by
                    have h1 : b.uses x := hx
                    have h2 := HUb.out x h1
                    have h3 := HUa.out x (by rcases hw with q | q; exact .inl q; exact .inr (.inl q))
                    omega)
                  have LQ8 : Fl w10 (some ⟨Y2, 0, none⟩) 1 h.n (eV fun i => Z (h.n - 1 - i)) := (LQh.out.fl (by omega)).chg hC8 (fun a e _ => by injection e with e; subst e; show ¬ (Y2 = h.L ∨ Y2 = h.X); have := HY2.out; omega)
                  have SP : Calls Try.prog 19 #[.pointer (some ⟨b.L, 0, none⟩), .slice (some ⟨Y2, 0, none⟩) h.n h.n] w10 (StP w10 (h.rv b F o) (h.rv b F' o')) := by
                    rw [← STB.out]
                    exact stp_any hKb8 (some ⟨Y2, 0, none⟩) h.n _ LQ8 RGb.out (fun a e => by injection e with e; subst e; show ¬ (Y2 = b.L ∨ Y2 = b.X); have := HY2.out; omega)
                  have F6 := Lib.hid hF6
                  have K8 := Lib.hid hK8
                  have C8 := Lib.hid (CC.out.trans ((Chg.of_below (bel2 LY.out.bel bw.out) _).trans (hC8.mono (fun _ _ q => .inl q))))
                  have sz8 := hC8.size
                  clear hK8 hC8 hF6 hA6 HK HKb CC hKb8 LQ8 LY LQh RGb STB bw
                  go_wp2_with fail
                  refine SP.mono ?_
                  clear SP
                  rintro e w11 ⟨v, rfl, hT, hK9, hC9⟩
                  obtain ⟨A7, c7, rfl, hF7, hA7⟩ := hT
                  have hC9 : Chg b.wr w10 w11 := hC9
                  have hF7 : Fl w11 A7 1 h.n (eV (h.rv b F' o').T) := hF7
                  obtain ⟨ub, uf, rfl, -⟩ := hF7.addr n1
                  have K8' : Hm w11 (h.at E' o') := K8.out.keep hC9 (fun x hx hw => by
                    have h1 : h.uses x := hx
                    have h2 := HUa.out x h1
                    have h3 := HUb.out x (by rcases hw with q | q; exact .inl q; exact .inr (.inl q))
                    omega)
                  have F6' : Fl w11 (some ⟨tb, tf, none⟩) 1 h.n (eV (h.at E' o').T) := F6.out.chg hC9 (fun a e _ => by injection e with e; subst e; show ¬ (tb = b.L ∨ tb = b.X); omega)
                  have C11 := Lib.hid (C8.out.trans (hC9.mono (fun _ _ q => .inr q)))
                  have K9 := Lib.hid hK9
                  have K8 := Lib.hid K8'
                  have F6 := Lib.hid F6'
                  have F7 := Lib.hid hF7
                  have hnn : (h.at E o).n = h.n := rfl
                  have hnb : (h.rv b F o).n = h.n := rfl
                  clear hK9 hC9 hF7 hA7 K8' F6' C8
                  go_wp2_with fail
                  go_loopw [27] (fun v27 wx => ∃ k : Nat, v27 = .int .i64 k ∧ k ≤ h.n ∧ Below w11.heap.size w11 wx) (fun v27 _ => h.n - (intOf v27).toNat)
                  case atStart => exact ⟨0, rfl, Nat.zero_le _, Below.refl _ _⟩
                  case round =>
                    obtain ⟨k, rfl, hk, hB⟩ := hrel
                    have BB := Lib.hid hB
                    by_cases hlt4 : k < h.n
                    · obtain ⟨e, he⟩ : ∃ e, h.n = k + 1 + e := ⟨h.n - k - 1, by omega⟩
                      have hidx : (h.n : Int) - 1 - (k : Int) = (e : Int) := by omega
                      have het : e < h.n := by omega
                      have hke : h.n - 1 - e = k := by omega
                      obtain ⟨tl, q0⟩ := (F6.out.below' hB).eat' rfl hlt4
                      obtain ⟨ul, q1⟩ := (F7.out.below' hB).eat' rfl het
                      rw [TT.out e het, hke] at q1
                      have E1 := Lib.hid (fun nq => eng_any ((K8.out.below hB).below (bel_drewN (Below.refl wr.heap.size wr) nq)) (k : Int))
                      have E2 := Lib.hid (fun nq => eng_any ((K9.out.below hB).below (bel_drewN (Below.refl wr.heap.size wr) nq)) (e : Int))
                      have V1 : (h.at E' o').Ev (k : Int) = E' k := if_pos (by show 0 ≤ (k : Int) ∧ (k : Int) < (h.n : Nat); omega)
                      have V2 : (h.rv b F' o').Ev (e : Int) = E' k := (if_pos (by show 0 ≤ (e : Int) ∧ (e : Int) < (h.n : Nat); omega)).trans ((RF.out e het).trans (by rw [hke]))
                      rw [V1] at E1
                      rw [V2] at E2
                      generalize (h.at E' o').T k = tk at *
                      generalize E' k = ek at *
                      clear V1 V2 hB he hke
                      go_upto_region 35 with fail
                      have E1q : Hid (∀ nq, Calls Try.prog 24 #[.pointer (some ⟨h.L, 0, none⟩), .int .i64 k] (wr.drewN nq) fun e w' => e = .returned (.int .i64 ek) ∧ w' = wr.drewN nq) := fun nq => (E1.out nq).mono fun e w' h => ⟨h.1, h.2.symm⟩
                      have E2q : Hid (∀ nq, Calls Try.prog 24 #[.pointer (some ⟨b.L, 0, none⟩), .int .i64 e] (wr.drewN nq) fun e w' => e = .returned (.int .i64 ek) ∧ w' = wr.drewN nq) := fun nq => (E2.out nq).mono fun e w' h => ⟨h.1, h.2.symm⟩
                      clear E1 E2
                      go_quiet ((go_at_call 24; (first | (with_reducible exact Calls.quiet_of_same (E1q.out _)) | (with_reducible exact Calls.quiet_of_same (E2q.out _)))))
                      have NB := Lib.hid (bel_drewN BB.out nq)
                      go_wp2
                      go_roundw
                      case rel => exact ⟨k + 1, by go_num, by omega, NB.out⟩
                      case measure => simp [intOf]; omega
                    · obtain rfl : k = h.n := by omega
                      have hq4 : ¬ (h.n : Int) < (h.n : Int) := by omega
                      have KA := Lib.hid (K8.out.below hB)
                      have KB := Lib.hid (K9.out.below hB)
                      have CN := Lib.hid (C11.out.trans (Chg.of_below hB _))
                      clear hB
                      go_wp2
                      go_roundw
                      case rel => exact ⟨j + 1, E', F', o', by go_num, by omega, KA.out, KB.out, OKn.out, RF.out, CN.out⟩
                      case measure => simp [intOf]; omega
            · have hq2 : ¬ (j : Int) < (pn : Int) := by omega
              have RL1 : Calls Try.prog 22 #[.pointer (some ⟨h.L, 0, none⟩)] wr (PuP wr (.int .i64 o)) := rel_any HK.out
              have RL2 : Calls Try.prog 22 #[.pointer (some ⟨b.L, 0, none⟩)] wr (PuP wr (.int .i64 o)) := rel_any HKb.out
              clear hH hHb hOK hF hC HK HKb OKh HFh CC
              go_wp2_with (first | (go_at_call 22; refine Calls.mono (by with_reducible exact RL1) ?_; rintro e w12 ⟨rfl, hw12⟩; subst hw12) | (go_at_call 22; refine Calls.mono (by with_reducible exact RL2) ?_; rintro e w12 ⟨rfl, hw12⟩; subst hw12) | (go_at_call 11; refine (AW.out _).mono ?_; rintro e w10 ⟨rfl, hb10⟩))
              go_ret
              exact ⟨rfl, bel2 BW.out hb10⟩
end Go.Proofs.Ytidegjinfacjjaa
