/- Trace: the walk. -/
import Derived.Test.YtcmklipifhpgmaaTrp
namespace Go.Proofs.Ytcmklipifhpgmaa
open Go.ChangeShapes Go.WideShapes Go.ChangeAt Go.RowKit Go.Deep Go.Joins

def Zv (v : Value) (b : Nat) : Prop := v.ownBlock = some b
def lenOf : Value → Nat
  | .slice _ n _ => n
  | _ => 0
def Tr (w wr : World) (m : Nat) (rs : Nat → Int) (n BB L M : Nat) (OA : Option Addr) (RR : List Op) (v : Value) : Prop :=
  ∃ (s : SQ) (ops : List Op), wr.ownsRow BB 30 2 v ops.length (vsL (oV ops) (ops.length * 2)) ∧ Sq (Zv v) wr s ∧ Iv s ops.length ∧ s.L = L ∧ s.M = M ∧ s.OA = OA ∧ s.n = n ∧ Chg (fun b => w.heap.size ≤ b) w wr ∧ BB ≤ wr.heap.size ∧ trF m rs (8 * n + 1 - ops.length) s ops = RR
theorem own_bel {w w' : World} {base t k n : Nat} {v : Value} {xs : List Value} (h : w.ownsRow base t k v n xs) (hb : Below w.heap.size w w') : w'.ownsRow base t k v n xs := own_chg h (Chg.of_below hb (fun _ => False)) (fun _ _ x => x)
/-- What Trace gives: a row of its own. -/
def TcP (w : World) (l : List Op) (e : Ending) (w' : World) : Prop := ∃ v, e = .returned v ∧ w'.ownsRow w.heap.size 30 2 v l.length (vsL (oV l) (l.length * 2)) ∧ Below w.heap.size w w'
theorem own_mono {w : World} {b b' t k n : Nat} {v : Value} {xs : List Value} (h : w.ownsRow b t k v n xs) (hb : b' ≤ b) : w.ownsRow b' t k v n xs := by
  refine ⟨h.1, ?_⟩
  rcases h.2 with h1 | ⟨g, cap, cur, e, h2, r⟩
  · exact .inl h1
  · exact .inr ⟨g, cap, cur, e, Nat.le_trans hb h2, r⟩
set_option maxRecDepth 20000 in
set_option maxHeartbeats 8000000 in
theorem tr_any (A : Option Addr) (n c : Nat) (o : Nat → Int) (RA : Option Addr) (m rc : Nat) (rs : Nat → Int) (w : World) (h : Fl w A 1 n (eV o)) (hA : A = none → n = 0 ∧ c = 0) (hg : good n o) (hR : Fl w RA 1 m (eV rs)) :
    Calls Try.prog 14 #[.slice A n c, .slice RA m rc] w fun e w' => ∃ L M OA oc, TcP w (trF m rs (8 * n + 1) (newS L M OA oc n o) []) e w' := by
  have hn := hg.1
  have NW := new_any (Z := Zv (.slice none 0 0)) A n c o w h hA hg (fun b hb => by cases hb)
  obtain ⟨i0, hi0, hzz⟩ := Option.map_eq_some_iff.1 info30
  simp only [Prod.mk.injEq] at hzz
  have HI0 := Lib.hid (And.intro hi0 (And.intro hzz.1 (And.intro hzz.2.1 hzz.2.2)))
  have HRS := Lib.hid hR
  have HG := Lib.hid hg
  clear hi0 hzz hR h hA hg
  go_enter Try.func14, Try.ntmps14
  go_wp2_with fail
  refine NW.mono ?_
  clear NW
  rintro e w1 ⟨L, M, OA, oc, rfl, hS, hb, hL, hM, hOA⟩
  obtain ⟨BB, hBB⟩ : ∃ BB, BB = w1.heap.size := ⟨_, rfl⟩
  have hLB : L < BB := by obtain ⟨_, _, h1, -⟩ := hS.ex; have := h1.lL; rw [hBB]; exact this
  have hMB : M < BB := by obtain ⟨_, _, h1, -⟩ := hS.ex; have := h1.mp.lt; rw [hBB]; exact this
  have HO : Hid (∀ a, OA = some a → a.block < BB) := fun a e => by obtain ⟨_, _, h1, -⟩ := hS.ex; have := (h1.oL a e).2; rw [hBB]; exact this
  have hBw : w.heap.size ≤ BB := by rw [hBB]; exact hb.size
  obtain ⟨RR, hRR⟩ : ∃ RR, RR = trF m rs (8 * n + 1) (newS L M OA oc n o) [] := ⟨_, rfl⟩
  have HRR := Lib.hid hRR
  have T0 : Hid (Tr w w1 m rs n BB L M OA RR (.slice none 0 0)) := ⟨newS L M OA oc n o, [], ⟨rfl, .inl ⟨rfl, rfl⟩⟩, hS, new_iv HG.out L M OA oc, rfl, rfl, rfl, rfl, Chg.of_below hb _, by rw [hBB]; exact Nat.le_refl _, hRR.symm⟩
  clear hS hb hBB hRR hOA
  go_upto_region 5 with fail
  go_loopw [7] (fun v7 wr => Tr w wr m rs n BB L M OA RR v7) (fun v7 _ => 8 * n + 2 - lenOf v7)
  case atStart => exact T0.out
  case round =>
    clear T0
    obtain ⟨s, ops, hown, hSq, hI, hsL, hsM, hsO, hsn, hC, hB, hT⟩ := hrel
    have hol : ops.length ≤ 8 * n := by have := hI.pt; rw [hsn] at this; omega
    obtain ⟨A7, c7, rfl, -⟩ := fl_of_own hown (by omega)
    have HT := Lib.hid hT
    have WK := wak_any hSq hI.dv
    rw [hsL] at WK
    have HI2 := hI.wak
    have WL := wak_L s
    obtain ⟨s2, hs2⟩ : ∃ s2, s2 = (wakS s).1 := ⟨_, rfl⟩
    rw [← hs2] at WK HI2 WL
    have hL2 := WL.1.trans hsL
    have hM2 := WL.2.1.trans hsM
    have hn2 := WL.2.2.1.trans hsn
    have hO2 := WL.2.2.2.2.trans hsO
    have hs2 := Lib.hid hs2.symm
    have HW := Lib.hid hown
    have HC := Lib.hid hC
    clear hown hC hSq hI hT WL
    go_wp2_with fail
    refine WK.mono ?_
    clear WK
    rintro e w2 ⟨rfl, hS2, hC2⟩
    rw [hsL, hsM] at hC2
    have NX := nxt_any hS2
    rw [hL2] at NX
    have hown2 := own_chg HW.out hC2 (fun k hk e => by have h1 := own_lo HW.out k hk; omega)
    have hB2 : BB ≤ w2.heap.size := Nat.le_trans hB hC2.size
    have HC2 := Lib.hid (HC.out.trans (hC2.mono (fun b _ e => by omega)))
    have HZ := Lib.hid (And.intro hown2 (And.intro hS2 HI2))
    clear hS2 hC2 hown2 HI2 HC HW hsL hsM hsO hsn hB
    unfold NxP nxT at NX
    cases hp : s2.p with
    | nil =>
      rw [hp] at NX
      have hp2 := Lib.hid hp
      clear hp
      go_wp2_with fail
      refine NX.mono ?_
      clear NX
      rintro e w3 ⟨rfl, hb3⟩
      have FIN : ∀ w4, Below w2.heap.size w2 w4 → Hid (TcP w RR (.returned (.slice A7 ops.length c7)) w4) := fun w4 h4 => by
        have e1 : RR = ops := by
          rw [← HT.out, show 8 * n + 1 - ops.length = (8 * n - ops.length) + 1 by omega]
          rw [trF, hs2.out, hp2.out]
        rw [e1]
        have h5 := HC2.out.trans (Chg.of_below h4 _)
        exact ⟨_, rfl, own_mono (own_bel HZ.out.1 h4) hBw, ⟨h5.os, h5.tape, h5.output, h5.size, fun i hi => h5.block i hi (by omega)⟩⟩
      have hB3 := Lib.hid hb3
      clear hb3
      simp only [List.length_nil, Nat.lt_irrefl, decide_false, List.getD_nil]
      unfold opV
      go_wp2
      go_ret
      exact ⟨L, M, OA, oc, by rw [← HRR.out]; exact (FIN _ (by first | exact hB3.out | exact bal hB3.out _)).out⟩
    | cons x q =>
      rw [hp] at NX
      have hp2 := Lib.hid hp
      clear hp
      obtain ⟨ph, d⟩ := x
      have NX : Calls Try.prog 24 #[.pointer (some ⟨L, 0, none⟩)] w2 (fun e w' => e = .returned (.tuple #[.agg #[.int .i64 ph, .int .i64 d], .bool true]) ∧ Below w2.heap.size w2 w') := by
        refine NX.mono ?_
        rintro e w1 ⟨rfl, h1⟩
        exact ⟨by simp [opV], h1⟩
      go_wp2_with fail
      refine NX.mono ?_
      clear NX
      rintro e w2b ⟨rfl, hb3⟩
      have x0 := (bx2 w2b (.int .i64 ph) (.int .i64 d) 30).1
      have x1 := (bx2 w2b (.int .i64 ph) (.int .i64 d) 30).2
      have lx : w2b.heap.size < (w2b.alloc (.cells #[.int .i64 ph, .int .i64 d] 30)).heap.size := by simp
      have hb3 : Below w2.heap.size w2 (w2b.alloc (.cells #[.int .i64 ph, .int .i64 d] 30)) := bal hb3 _
      go_upto_region 7 with fail
      generalize (w2b.alloc (.cells #[.int .i64 ph, .int .i64 d] 30)) = w3 at *
      have hown3 := own_bel HZ.out.1 hb3
      have hS3 := HZ.out.2.1.below hb3
      have hI3 := HZ.out.2.2
      have hC3 := Lib.hid (HC2.out.trans (Chg.of_below hb3 _))
      have hB3 : BB ≤ w3.heap.size := Nat.le_trans hB2 hb3.size
      have hx4 : Below w3.heap.size w3 (w3.alloc (.cells #[.int .i64 ph, .int .i64 d] 30)) := bal (Below.refl _ _) _
      have x0' := (hx4.cell (p := ⟨w2b.heap.size, 0, none⟩) lx).trans x0
      clear HZ hb3 HC2 x0'
      by_cases hlt : ops.length < m
      · have HR := Lib.hid (And.intro hown3 (And.intro hS3 hI3))
        have RW := HRS.out.chg hC3.out (fun a e hm h => by have h8 := HRS.out; rw [e] at h8; have := fl_blk h8 hm; have h : w.heap.size ≤ a.block := h; omega)
        obtain ⟨rb, ro, rfl, hrl, r0⟩ := RW.eat hlt
        clear RW
        have hlo7 : ∀ b, (Value.slice A7 ops.length c7).ownBlock = some b → BB ≤ b := fun b hb => (own_lo hown3 b hb).1
        have OWN := own_bel hown3 hx4
        have NEW : Hid (∀ j u, [Value.int .i64 ph, .int .i64 d][j]? = some u → (w3.alloc (.cells #[.int .i64 ph, .int .i64 d] 30)).cell? (Addr.add ⟨w3.heap.size, 0, none⟩ j) = some u) := fun j u hu => by
          rw [add_plain, Nat.zero_add, new_c]
          simpa using hu
        have ONE : Hid (∀ u, u ∈ [Value.int .i64 ph, .int .i64 d] → u.oneCell' = true) := fun u hu => by
          simp only [List.mem_cons, List.not_mem_nil, or_false] at hu
          rcases hu with rfl | rfl <;> rfl
        have hbs : BB ≤ (w3.alloc (.cells #[.int .i64 ph, .int .i64 d] 30)).heap.size := by simp; omega
        have hol : ops.length ≤ 1000 := by omega
        clear hown3 hS3 hx4
        go_wp2_with (at_builtin; refine wpList_append_blk rfl (.tmp 38) (.tmp 40) 31 rfl BB 30 i0 _ 2 16 Try.underlying31 HI0.out.1 HI0.out.2.1 HI0.out.2.2.1 HI0.out.2.2.2 rfl (by decide) (.slice A7 ops.length c7) ops.length (vsL (oV ops) (ops.length * 2)) rfl OWN ⟨w3.heap.size, 0, none⟩ 1 1 [.int .i64 ph, .int .i64 d] rfl rfl NEW.out ONE.out ?c3 ?c4 ?c5 ?_)
        case c3 => unfold maxLen; omega
        case c4 => omega
        case c5 => first | exact hbs | omega
        intro v9 w9 hown9 hgr hblk
        have hb4 : Below w3.heap.size w3 (w3.alloc (.cells #[.int .i64 ph, .int .i64 d] 30)) := bal (Below.refl _ _) _
        have hown9 : w9.ownsRow BB 30 2 v9 (ops ++ [(ph, d)]).length (vsL (oV (ops ++ [(ph, d)])) ((ops ++ [(ph, d)]).length * 2)) := by
          rw [List.length_append, List.length_singleton, vsL_app]; exact hown9
        have hsz9 := (Chg.of_grown hgr).size
        have hsz4 : (w3.alloc (.cells #[.int .i64 ph, .int .i64 d] 30)).heap.size = w3.heap.size + 1 := by simp
        have S9 : Sq (Zv v9) w9 s2 := (HR.out.2.1.below hb4).re (Z' := Zv v9) (Chg.of_grown hgr) (fun e => by have := hlo7 _ e; rw [hL2] at this; omega) (fun e => by have := hlo7 _ e; rw [hM2] at this; omega) (fun a ea e => by have := hlo7 _ e; rw [hO2] at ea; have := HO.out a ea; omega) (fun b _ e => e) (fun b hb => ⟨by
          rcases hblk b hb with h1 | h1
          · exact .inl h1
          · exact .inr (by omega), (own_lo hown9 b hb).2⟩)
        have CP := cpl_any S9 HR.out.2.2.dv HR.out.2.2.ok (by have := HR.out.2.2.ns; omega) (rs ops.length)
        have CI := Lib.hid (HR.out.2.2.cpl (rs ops.length) (by rw [hp2.out]; exact List.cons_ne_nil _ _))
        rw [hL2] at CP
        have HC9 : Hid (Chg (fun b => w.heap.size ≤ b) w w9) := (hC3.out.trans (Chg.of_below hb4 _)).trans ((Chg.of_grown hgr).mono (fun b _ e => by have := hlo7 b e; omega))
        obtain ⟨A9, c9, rfl, -⟩ := fl_of_own hown9 (by rw [List.length_append, List.length_singleton]; omega)
        have HW9 := Lib.hid hown9
        clear hown9 hgr hblk OWN NEW ONE S9 hb4
        go_wp2_with fail
        refine CP.mono ?_
        clear CP
        rintro e w10 ⟨rfl, hS10, hC10⟩
        rw [hL2, hM2] at hC10
        have CL := cpl_L s2 (rs ops.length)
        have RT : Hid (trF m rs (8 * n + 1 - (ops ++ [(ph, d)]).length) (cplS s2 (rs ops.length)).1 (ops ++ [(ph, d)]) = RR) := by
          show _ = _
          rw [← HT.out]
          rw [List.length_append, List.length_singleton, show 8 * n + 1 - ops.length = (8 * n + 1 - (ops.length + 1)) + 1 by omega]
          show _ = trF m rs (_ + 1) s ops
          rw [trF, hs2.out, hp2.out]
          simp only
          rw [if_pos hlt]
        have ROW : Hid (w10.ownsRow BB 30 2 (.slice A9 (ops ++ [(ph, d)]).length c9) (ops ++ [(ph, d)]).length (vsL (oV (ops ++ [(ph, d)])) ((ops ++ [(ph, d)]).length * 2))) := own_chg HW9.out hC10 (fun k hk e => by have h1 := own_lo HW9.out k hk; omega)
        have REL : Hid (Tr w w10 m rs n BB L M OA RR (.slice A9 (ops ++ [(ph, d)]).length c9)) := ⟨(cplS s2 (rs ops.length)).1, ops ++ [(ph, d)], ROW.out, hS10, by rw [List.length_append, List.length_singleton]; exact CI.out, CL.1.trans hL2, CL.2.1.trans hM2, CL.2.2.2.2.trans hO2, CL.2.2.1.trans hn2, HC9.out.trans (hC10.mono (fun b _ e => by omega)), by have := hC10.size; omega, RT.out⟩
        have MEAS : Hid (8 * n + 2 - lenOf (.slice A9 (ops ++ [(ph, d)]).length c9) < 8 * n + 2 - ops.length) := by
          show 8 * n + 2 - (ops ++ [(ph, d)]).length < _
          rw [List.length_append, List.length_singleton]; omega
        clear hS10 hC10 CL RT ROW CI HW9
        go_wp2
        go_roundw
        case rel => have := REL.out; rw [List.length_append, List.length_singleton] at this; exact this
        case measure => have := MEAS.out; rw [List.length_append, List.length_singleton] at this; exact this
      · have HR := Lib.hid (And.intro hown3 (And.intro hS3 hI3))
        have hlo7 : ∀ b, (Value.slice A7 ops.length c7).ownBlock = some b → BB ≤ b := fun b hb => (own_lo hown3 b hb).1
        have OWN := own_bel hown3 hx4
        have NEW : Hid (∀ j u, [Value.int .i64 ph, .int .i64 d][j]? = some u → (w3.alloc (.cells #[.int .i64 ph, .int .i64 d] 30)).cell? (Addr.add ⟨w3.heap.size, 0, none⟩ j) = some u) := fun j u hu => by
          rw [add_plain, Nat.zero_add, new_c]
          simpa using hu
        have ONE : Hid (∀ u, u ∈ [Value.int .i64 ph, .int .i64 d] → u.oneCell' = true) := fun u hu => by
          simp only [List.mem_cons, List.not_mem_nil, or_false] at hu
          rcases hu with rfl | rfl <;> rfl
        have hbs : BB ≤ (w3.alloc (.cells #[.int .i64 ph, .int .i64 d] 30)).heap.size := by simp; omega
        have hol : ops.length ≤ 1000 := by omega
        clear hown3 hS3 hx4
        go_wp2_with (at_builtin; refine wpList_append_blk rfl (.tmp 38) (.tmp 40) 31 rfl BB 30 i0 _ 2 16 Try.underlying31 HI0.out.1 HI0.out.2.1 HI0.out.2.2.1 HI0.out.2.2.2 rfl (by decide) (.slice A7 ops.length c7) ops.length (vsL (oV ops) (ops.length * 2)) rfl OWN ⟨w3.heap.size, 0, none⟩ 1 1 [.int .i64 ph, .int .i64 d] rfl rfl NEW.out ONE.out ?c3 ?c4 ?c5 ?_)
        case c3 => unfold maxLen; omega
        case c4 => omega
        case c5 => first | exact hbs | omega
        intro v9 w9 hown9 hgr hblk
        have hb4 : Below w3.heap.size w3 (w3.alloc (.cells #[.int .i64 ph, .int .i64 d] 30)) := bal (Below.refl _ _) _
        have hown9 : w9.ownsRow BB 30 2 v9 (ops ++ [(ph, d)]).length (vsL (oV (ops ++ [(ph, d)])) ((ops ++ [(ph, d)]).length * 2)) := by
          rw [List.length_append, List.length_singleton, vsL_app]; exact hown9
        have hsz9 := (Chg.of_grown hgr).size
        have hsz4 : (w3.alloc (.cells #[.int .i64 ph, .int .i64 d] 30)).heap.size = w3.heap.size + 1 := by simp
        have S9 : Sq (Zv v9) w9 s2 := (HR.out.2.1.below hb4).re (Z' := Zv v9) (Chg.of_grown hgr) (fun e => by have := hlo7 _ e; rw [hL2] at this; omega) (fun e => by have := hlo7 _ e; rw [hM2] at this; omega) (fun a ea e => by have := hlo7 _ e; rw [hO2] at ea; have := HO.out a ea; omega) (fun b _ e => e) (fun b hb => ⟨by
          rcases hblk b hb with h1 | h1
          · exact .inl h1
          · exact .inr (by omega), (own_lo hown9 b hb).2⟩)
        have CP := cpl_any S9 HR.out.2.2.dv HR.out.2.2.ok (by have := HR.out.2.2.ns; omega) (0)
        have CI := Lib.hid (HR.out.2.2.cpl (0) (by rw [hp2.out]; exact List.cons_ne_nil _ _))
        rw [hL2] at CP
        have HC9 : Hid (Chg (fun b => w.heap.size ≤ b) w w9) := (hC3.out.trans (Chg.of_below hb4 _)).trans ((Chg.of_grown hgr).mono (fun b _ e => by have := hlo7 b e; omega))
        obtain ⟨A9, c9, rfl, -⟩ := fl_of_own hown9 (by rw [List.length_append, List.length_singleton]; omega)
        have HW9 := Lib.hid hown9
        clear hown9 hgr hblk OWN NEW ONE S9 hb4
        go_wp2_with fail
        refine CP.mono ?_
        clear CP
        rintro e w10 ⟨rfl, hS10, hC10⟩
        rw [hL2, hM2] at hC10
        have CL := cpl_L s2 (0)
        have RT : Hid (trF m rs (8 * n + 1 - (ops ++ [(ph, d)]).length) (cplS s2 (0)).1 (ops ++ [(ph, d)]) = RR) := by
          show _ = _
          rw [← HT.out]
          rw [List.length_append, List.length_singleton, show 8 * n + 1 - ops.length = (8 * n + 1 - (ops.length + 1)) + 1 by omega]
          show _ = trF m rs (_ + 1) s ops
          rw [trF, hs2.out, hp2.out]
          simp only
          rw [if_neg hlt]
        have ROW : Hid (w10.ownsRow BB 30 2 (.slice A9 (ops ++ [(ph, d)]).length c9) (ops ++ [(ph, d)]).length (vsL (oV (ops ++ [(ph, d)])) ((ops ++ [(ph, d)]).length * 2))) := own_chg HW9.out hC10 (fun k hk e => by have h1 := own_lo HW9.out k hk; omega)
        have REL : Hid (Tr w w10 m rs n BB L M OA RR (.slice A9 (ops ++ [(ph, d)]).length c9)) := ⟨(cplS s2 (0)).1, ops ++ [(ph, d)], ROW.out, hS10, by rw [List.length_append, List.length_singleton]; exact CI.out, CL.1.trans hL2, CL.2.1.trans hM2, CL.2.2.2.2.trans hO2, CL.2.2.1.trans hn2, HC9.out.trans (hC10.mono (fun b _ e => by omega)), by have := hC10.size; omega, RT.out⟩
        have MEAS : Hid (8 * n + 2 - lenOf (.slice A9 (ops ++ [(ph, d)]).length c9) < 8 * n + 2 - ops.length) := by
          show 8 * n + 2 - (ops ++ [(ph, d)]).length < _
          rw [List.length_append, List.length_singleton]; omega
        clear hS10 hC10 CL RT ROW CI HW9
        go_wp2
        go_roundw
        case rel => have := REL.out; rw [List.length_append, List.length_singleton] at this; exact this
        case measure => have := MEAS.out; rw [List.length_append, List.length_singleton] at this; exact this
end Go.Proofs.Ytcmklipifhpgmaa
