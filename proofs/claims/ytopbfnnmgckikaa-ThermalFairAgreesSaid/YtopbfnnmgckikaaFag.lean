/- ThermalFairAgrees. -/
import Derived.Test.YtopbfnnmgckikaaRfa
import Derived.Test.YtopbfnnmgckikaaAfp
namespace Go.Proofs.Ytopbfnnmgckikaa
open Go.RowKit

theorem rl_of_ns {w : World} {A : Option Addr} {n : Nat} {Z : Nat → Int} (h : Ns .u64 w A n Z) : ∃ l : List Int, l.length = n ∧ RLU w A l ∧ ∀ i, i < l.length → 0 ≤ l.getD i 0 ∧ l.getD i 0 < 18446744073709551616 := by
  have e : ∀ i, i < n → ((List.range n).map Z).getD i 0 = Z i := fun i hi => by simp [List.getD_eq_getElem?_getD, hi]
  refine ⟨(List.range n).map Z, by simp, ⟨by simp; exact h.len, ?_⟩, fun i hi => ?_⟩
  · rcases h.row with h0 | ⟨b, off, hA, hlt, hc⟩
    · left; subst h0; rfl
    · right
      refine ⟨b, off, hA, hlt, fun i hi => ?_⟩
      have hi : i < n := by simpa using hi
      rw [e i hi]; exact hc i hi
  · have hi : i < n := by simpa using hi
    rw [e i hi]
    exact wf_u64 (h.wf i hi)
def someL (l : List Int) (k : Nat) : List Int := (List.range k).map fun i => l.getD i 0 % 40
theorem someL_succ (l : List Int) (k : Nat) : someL l (k + 1) = someL l k ++ [l.getD k 0 % 40] := by simp [someL, List.range_succ]
theorem someL_len (l : List Int) (k : Nat) : (someL l k).length = k := by simp [someL]
theorem someL_nn (l : List Int) (k i : Nat) (h : i < (someL l k).length) : 0 ≤ (someL l k).getD i 0 := by
  have hi : i < k := by rw [someL_len] at h; exact h
  have e : (someL l k).getD i 0 = l.getD i 0 % 40 := by simp [someL, List.getD_eq_getElem?_getD, hi]
  rw [e]; exact Int.emod_nonneg _ (by omega)
theorem nl_at {K : IntKind} {B : Nat} {w : World} {g i : Nat} {l : List Int} (h : NL K B w (some ⟨g, 0, none⟩) l) (hi : i < l.length) : w.cell? ⟨g, i, none⟩ = some (.int K (l.getD i 0)) ∧ w.frozen? ⟨g, i, none⟩ = false := by
  rcases h with rfl | ⟨g', e, _, _, hc, hf⟩
  · simp at hi
  · injection e with e; injection e with e; subst e
    exact ⟨hc i hi, hf i⟩
theorem set_all {P : Int → Prop} {l : List Int} {i : Nat} {x : Int} (hx : P x) (h : ∀ t, t < l.length → P (l.getD t 0)) : ∀ t, t < (l.set i x).length → P ((l.set i x).getD t 0) := fun t ht => by
  rw [List.length_set] at ht
  by_cases e : i = t
  · subst e
    have : (l.set i x).getD i 0 = x := by simp [List.getD_eq_getElem?_getD, ht]
    rw [this]; exact hx
  · have : (l.set i x).getD t 0 = l.getD t 0 := by simp [List.getD_eq_getElem?_getD, e]
    rw [this]; exact h t ht
theorem bool_same {r s : Bool} {F : Prop} (h1 : r = true ↔ F) (h2 : s = true ↔ F) : r = s := by
  cases r <;> cases s <;> simp_all
theorem fag_rn {w w9 w4 W0 : World} {B k : Nat} {o : Obj} {u v' : Value} {l : List Int} (e : w9.alloc o = W0) (hb : Below B w w9) (hB : B ≤ w9.heap.size) (ho : w9.ownsRow B 23 1 u k ((someL l k).map (Value.int .u64))) (hg : W0.grownBy w4 u.ownBlock) (h4 : w4.ownsRow B 23 1 v' (k + 1) ((someL l k).map (Value.int .u64) ++ [.int .u64 (l.getD k 0 % 40)])) : w4.ownsRow B 23 1 v' (k + 1) ((someL l (k + 1)).map (Value.int .u64)) ∧ Below B w w4 := by
  refine ⟨by rw [someL_succ]; simpa using h4, ?_⟩
  have b0 : Below B w W0 := by rw [← e]; exact hb.alloc hB o
  exact b0.grown hg (by rw [← e]; simp; omega) (fun j hj => (ho.lt j hj).1)
theorem open_u64s {H : Type} {enc : TypeId × Value → H} {w : World} {a : Option Addr} {len cap : Nat} {d : DataW H} {p : List MemPlace}
    (h : DataW.Trod enc Try.prog w 0 (fun _ => true) true 56 (.slice a len cap) d p) : ∃ Z, Ns .u64 w a len Z ∧ len ≤ cap ∧ cap ≤ 9223372036854775807 := open_ns Try.underlying56 Try.underlying23 (by kernel_rfl) h
set_option maxRecDepth 100000 in
set_option maxHeartbeats 8000000 in
theorem fag_any (bud : Int) (A : Option Addr) (m c : Nat) (g : Nat → St) (G : Option Addr) (ng d : Nat) (Z : Nat → Int) (ki mi : Int) (w : World) (hb0 : (Lit.int .u64 bud).wf = true) (h : SlS .u64 w A m g ∧ m ≤ c ∧ c ≤ 9223372036854775807 ∧ (A = none → c = 0)) (hz : Ns .u64 w G ng Z ∧ ng ≤ d ∧ d ≤ 9223372036854775807) (_ : (Lit.int .i64 ki).wf = true) (_ : (Lit.int .i64 mi).wf = true) : Calls Try.prog 9 #[.int .u64 bud, .slice A m c, .slice G ng d, .int .i64 ki, .int .i64 mi] w (LawPost w) := by
  obtain ⟨h, _, _, _⟩ := h
  obtain ⟨hz, _, _⟩ := hz
  obtain ⟨lg, rfl, hlg, hlw⟩ := rl_of_ns hz
  obtain ⟨bu0, bu1⟩ := wf_u64 hb0
  have hm0 : 0 ≤ bud % 200 := Int.emod_nonneg _ (by omega)
  have hm1 : bud % 200 < 200 := Int.emod_lt_of_pos _ (by omega)
  have hl := h.len
  have hlg1 := hlg.1
  clear hz
  by_cases h40 : 40 < m
  · clear h hlg hlw
    go_enter Try.func9, Try.ntmps9
    go_wp2_with fail
    refine (awake_any w).mono ?_
    rintro e w10 ⟨rfl, hb⟩
    have B10 := Lib.hid (bel2 (Below.refl _ _) hb)
    clear hb
    go_wp2
    go_ret
    exact ⟨rfl, B10.out⟩
  by_cases h41 : 40 < lg.length
  · clear h hlg hlw
    go_enter Try.func9, Try.ntmps9
    go_wp2_with fail
    refine (awake_any w).mono ?_
    rintro e w10 ⟨rfl, hb⟩
    have B10 := Lib.hid (bel2 (Below.refl _ _) hb)
    clear hb
    go_wp2
    go_ret
    exact ⟨rfl, B10.out⟩
  have P := actors_q A m c g w h
  have HV : Hid (vA (acN m) (acF g) = true) := acF_ok g m
  obtain ⟨i0, hi0, hz0, hs0, hb0⟩ := info_parts info23
  have HI := Lib.hid (And.intro hi0 (And.intro hz0 (And.intro hs0 hb0)))
  have SR := Lib.hid h
  have LG := Lib.hid hlg
  have LW := Lib.hid hlw
  clear h hlg hlw hi0 hz0 hs0 hb0
  go_enter Try.func9, Try.ntmps9
  go_wp2_with fail
  refine P.mono ?_
  clear P
  rintro e w1 ⟨A2, c2, rfl, hS, hb⟩
  have T1 := Lib.hid hS
  have B1 := Lib.hid hb
  clear hb hS
  generalize acN m = n2 at *
  generalize acF g = f2 at *
  have hn2 := vA_len HV.out
  have HG := Lib.hid (ga_of T1.out HV.out)
  have HZ : Hid (w.heap.size ≤ w1.heap.size) := B1.out.size
  go_wp2_with fail
  generalize bud % 200 = bx at *
  go_loopw [14, 13] (fun i o wr => ∃ k : Nat, k ≤ n2 ∧ k ≤ lg.length ∧ i = .int .i64 k ∧ wr.ownsRow w1.heap.size 23 1 o k ((someL lg k).map (Value.int .u64)) ∧ Below w1.heap.size w1 wr) (fun i _ _ => n2 - (intOf i).toNat)
  case atStart => exact ⟨0, Nat.zero_le _, Nat.zero_le _, rfl, World.ownsRow_nil _ _ _ _, Below.refl _ _⟩
  case round =>
    obtain ⟨k, hk, hkl, rfl, OW, HB⟩ := hrel
    by_cases hlt : k < n2 ∧ k < lg.length
    case pos =>
      obtain ⟨hlt, hlt2⟩ := hlt
      rcases LG.out.2 with h0 | ⟨bg, og, rfl, hbg, hgc⟩
      · rw [h0] at hlt2; simp at hlt2
      have cg := hgc k hlt2
      rw [← B1.out.cell (p := ⟨bg, og + k, none⟩) hbg, ← HB.cell (p := ⟨bg, og + k, none⟩) (by have := HZ.out; show bg < _; omega)] at cg
      obtain ⟨x0, x1⟩ := LW.out k hlt2
      have hz9 := HB.size
      have RN : Hid (∀ (w4 W0 : World) (o : Obj) (v' : Value), wr.alloc o = W0 → W0.grownBy w4 u13.ownBlock → w4.ownsRow w1.heap.size 23 1 v' (k + 1) ((someL lg k).map (Value.int .u64) ++ [.int .u64 (lg.getD k 0 % 40)]) → w4.ownsRow w1.heap.size 23 1 v' (k + 1) ((someL lg (k + 1)).map (Value.int .u64)) ∧ Below w1.heap.size w1 w4) := fun w4 W0 o v' e hg h4 => fag_rn e HB hz9 OW hg h4
      clear hgc
      generalize lg.getD k 0 = x at *
      have OW := Lib.hid OW
      have HB := Lib.hid HB
      have y0 : 0 ≤ x % 40 := Int.emod_nonneg _ (by omega)
      have y1 : x % 40 < 40 := Int.emod_lt_of_pos _ (by omega)
      go_wp2_with (at_builtin; refine wpList_append_own _ rfl (.tmp 44) (.tmp 50) 56 rfl w1.heap.size 23 i0 _ 1 8 Try.underlying56 HI.out.1 HI.out.2.1 HI.out.2.2.1 HI.out.2.2.2 rfl (by decide) _ k ((someL lg k).map (Value.int .u64)) rfl (OW.out.alloc _) ⟨wr.heap.size, 0, none⟩ 1 1 [.int .u64 (x % 40)] rfl rfl ?c1 ?c2 (by unfold maxLen; omega) (by omega) (by simp; omega) ?_)
      case c1 => intro j u hu; match j, hu with | 0, hu => simp at hu; subst hu; simp [Addr.add, go_sem]
      case c2 => intro u hu; simp at hu; subst hu; rfl
      intro v' w4 hown hgr _
      have FIN := Lib.hid (RN.out w4 _ _ v' rfl hgr hown)
      clear hown hgr HB OW RN
      go_wp2
      go_roundw
      case rel => exact ⟨k + 1, by omega, by omega, by go_num, FIN.out.1, FIN.out.2⟩
      case measure => simp [intOf]; omega
    case neg =>
    obtain ⟨A3, c3, he3, hN3, hc3⟩ := nl_of_own OW (Nat.le_refl _)
    have B2 := Lib.hid (bel2 B1.out HB)
    have T2 := Lib.hid (T1.out.below HB (Nat.le_refl _))
    have SR2 := Lib.hid (SR.out.below B2.out (Nat.le_refl _))
    have LG2 := Lib.hid (LG.out.below B2.out)
    have LS2 := Lib.hid (hN3.rl (by rw [someL_len]; omega))
    subst he3
    have LWN : Hid (∀ i, i < lg.length → 0 ≤ lg.getD i 0) := fun i hi => (LW.out i hi).1
    clear HB OW hN3 T1 B1 SR LG
    have P := fair_any bud A m c g G d lg wr (by omega) SR2.out LG2.out LWN.out
    have hlt2 : k = n2 ∨ k = lg.length := by omega
    have hcond : Hid (k = n2 ∨ k = lg.length) := hlt2
    clear hlt2
    by_cases hk2 : k < n2
    case' pos => have hk3 : lg.length ≤ k := by omega
    all_goals
      go_wp2_with fail
      refine P.mono ?_
      clear P
      rintro e w3 ⟨r1, rfl, hr1, hb⟩
      have B3 := Lib.hid (bel2 B2.out hb)
      have T3 := Lib.hid (T2.out.below hb (Nat.le_refl _))
      have SR3 := Lib.hid (SR2.out.below hb (Nat.le_refl _))
      have LG3 := Lib.hid (LG2.out.below hb)
      have LS3 := Lib.hid (LS2.out.below hb)
      have H1 := Lib.hid hr1
      clear hb hr1 B2 T2 SR2 LG2 LS2
      have P := rfair_any bud A m c g G d lg w3 (by omega) SR3.out LG3.out LWN.out
      go_wp2_with fail
      refine P.mono ?_
      clear P
      rintro e w4 ⟨r2, rfl, hr2, hb⟩
      obtain rfl := bool_same H1.out hr2
      have B4 := Lib.hid (bel2 B3.out hb)
      have T4 := Lib.hid (T3.out.below hb (Nat.le_refl _))
      have LS4 := Lib.hid (LS3.out.below hb)
      have he : (r1 != r1) = false := by simp
      clear hb hr2 H1 B3 T3 SR3 LG3 LS3
      have P := fair_any bx A2 n2 c2 f2 A3 c3 (someL lg k) w4 (by omega) T4.out LS4.out (someL_nn lg k)
      rw [someL_len] at P
      go_wp2_with fail
      refine P.mono ?_
      clear P
      rintro e w5 ⟨r3, rfl, hr3, hb⟩
      have B5 := Lib.hid (bel2 B4.out hb)
      have T5 := Lib.hid (T4.out.below hb (Nat.le_refl _))
      have LS5 := Lib.hid (LS4.out.below hb)
      have H3 := Lib.hid hr3
      clear hb hr3 B4 T4 LS4
      have P := rfair_any bx A2 n2 c2 f2 A3 c3 (someL lg k) w5 (by omega) T5.out LS5.out (someL_nn lg k)
      rw [someL_len] at P
      go_wp2_with fail
      refine P.mono ?_
      clear P
      rintro e w6 ⟨r4, rfl, hr4, hb⟩
      obtain rfl := bool_same H3.out hr4
      have B6 := Lib.hid (bel2 B5.out hb)
      have T6 := Lib.hid (T5.out.below hb (Nat.le_refl _))
      have he3 : (r3 != r3) = false := by simp
      clear hb hr4 H3 B5 T5 LS5
      have P := ralc_any bx A2 n2 c2 f2 w6 (by omega) T6.out
      go_wp2_with fail
      refine P.mono ?_
      clear P
      rintro e w7 ⟨l7, k7, A7, c7, rfl, hR, hN, hb, hlc⟩
      have B7 := Lib.hid (bel2 B6.out hb)
      have BK := Lib.hid hb
      have NN7 := Lib.hid hN
      have T7 := Lib.hid (T6.out.below hb (Nat.le_refl _))
      have Z6 : Hid (w.heap.size ≤ w6.heap.size) := B6.out.size
      rcases alloc_fair hR HV.out HG.out with ⟨rfl, _⟩ | ⟨rfl, _, F⟩
      · clear hR hN hb hlc
        go_wp2_with fail
        refine (awake_any w7).mono ?_
        rintro e w10 ⟨rfl, hb⟩
        have B10 := Lib.hid (bel2 B7.out hb)
        clear hb
        go_wp2
        go_ret
        exact ⟨rfl, B10.out⟩
      · have hlen := (alloc_len hR).2.1 rfl
        have BD : Hid (∀ i, i < l7.length → 0 ≤ l7.getD i 0 ∧ l7.getD i 0 ≤ 4294967296) := fun i hi => by
          have a := F.2.2.1 i (by omega)
          have b := HG.out.ok i (by omega)
          have cc := atG_bd (lv := 0) b
          have e : wI (f2 i) = wantI (f2 i).a (f2 i).b (f2 i).c := rfl
          omega
        have HLEN := Lib.hid hlen
        rw [hlen]
        clear hR hN hb hlc F hlen
        by_cases hn0 : n2 = 0
        · have hq : ((n2 : Int) == 0) = true := by simp; omega
          clear hn0
          go_wp2_with fail
          refine (awake_any w7).mono ?_
          rintro e w10 ⟨rfl, hb⟩
          have B10 := Lib.hid (bel2 B7.out hb)
          clear hb
          go_wp2
          go_ret
          exact ⟨rfl, B10.out⟩
        · have hq : ((n2 : Int) == 0) = false := by simp; omega
          have hn1 : 1 ≤ n2 := by omega
          clear hn0
          have hmi := (modOf_spec ki n2 hn1 (by omega)).2
          have hmj := (modOf_spec mi n2 hn1 (by omega)).2
          go_wp2_with fail
          refine (mod_any ki n2 hn1 (by omega) _).mono ?_
          rintro e w8 ⟨rfl, rfl⟩
          go_wp2_with fail
          refine (mod_any mi n2 hn1 (by omega) _).mono ?_
          rintro e w8 ⟨rfl, rfl⟩
          generalize modOf ki n2 = i at *
          generalize modOf mi n2 = j at *
          rcases NN7.out with h0 | ⟨g9, rfl, hB9, hlt9, _, _⟩
          · have := HLEN.out; rw [h0] at this; simp at this; omega
          obtain ⟨ci, fi⟩ := nl_at NN7.out (i := i) (by rw [HLEN.out]; exact hmi)
          obtain ⟨xi0, xi1⟩ := BD.out i (by rw [HLEN.out]; exact hmi)
          have N1 := Lib.hid (nl_set (l7.getD i 0 - 1) NN7.out (i := i) (by rw [HLEN.out]; exact hmi))
          have BD1 : Hid (0 < l7.getD i 0 → ∀ t, t < (l7.set i (l7.getD i 0 - 1)).length → 0 ≤ (l7.set i (l7.getD i 0 - 1)).getD t 0 ∧ (l7.set i (l7.getD i 0 - 1)).getD t 0 ≤ 4294967296) := fun hp => set_all (P := fun v => 0 ≤ v ∧ v ≤ 4294967296) (by omega) BD.out
          have LEN1 : Hid ((l7.set i (l7.getD i 0 - 1)).length = n2) := by show _ = _; rw [List.length_set]; exact HLEN.out
          generalize l7.set i (l7.getD i 0 - 1) = l8 at *
          generalize l7.getD i 0 = xi at *
          by_cases hp : 0 < xi
          · have BD8 := Lib.hid (BD1.out hp)
            have hd : decide (0 < xi) = true := decide_eq_true hp
            have hw1 : IntKind.u64.wrap (xi - 1) = xi - 1 := by rw [IntKind.wrap_u64]; omega
            have B8 := Lib.hid (B7.out.setCell (p := ⟨g9, i, none⟩) (by have := Z6.out; show _ ≤ g9; omega) (.int .u64 (xi - 1)))
            have BK8 := Lib.hid (BK.out.setCell (p := ⟨g9, i, none⟩) hB9 (.int .u64 (xi - 1)))
            clear BD BD1 HLEN NN7 T7 B7 BK
            go_upto_region 18 with fail
            clear ci fi hd hw1
            generalize w7.setCell ⟨g9, i, none⟩ (.int .u64 (xi - 1)) = W1 at *
            obtain ⟨cj, fj⟩ := nl_at N1.out (i := j) (by rw [LEN1.out]; exact hmj)
            obtain ⟨xj0, xj1⟩ := BD8.out j (by rw [LEN1.out]; exact hmj)
            have N2 := Lib.hid (nl_set (l8.getD j 0 + 1) N1.out (i := j) (by rw [LEN1.out]; exact hmj))
            have BD9 : Hid (∀ t, t < (l8.set j (l8.getD j 0 + 1)).length → 0 ≤ (l8.set j (l8.getD j 0 + 1)).getD t 0) := set_all (P := fun v => 0 ≤ v) (by omega) (fun t ht => (BD8.out t ht).1)
            have LEN2 : Hid ((l8.set j (l8.getD j 0 + 1)).length = n2) := by show _ = _; rw [List.length_set]; exact LEN1.out
            generalize l8.set j (l8.getD j 0 + 1) = l9 at *
            generalize l8.getD j 0 = xj at *
            have hw2 : IntKind.u64.wrap (xj + 1) = xj + 1 := by rw [IntKind.wrap_u64]; omega
            have B9 := Lib.hid (B8.out.setCell (p := ⟨g9, j, none⟩) (by have := Z6.out; show _ ≤ g9; omega) (.int .u64 (xj + 1)))
            have BK9 := Lib.hid (BK8.out.setCell (p := ⟨g9, j, none⟩) hB9 (.int .u64 (xj + 1)))
            clear BD8 LEN1 B8 BK8 N1
            go_upto_region 19 with fail
            clear cj fj hw2
            generalize W1.setCell ⟨g9, j, none⟩ (.int .u64 (xj + 1)) = W2 at *
            have T9 := Lib.hid (T6.out.below BK9.out (Nat.le_refl _))
            have L9 := Lib.hid (N2.out.rl (by rw [LEN2.out]; omega))
            have hL9 := LEN2
            have P := fair_any bx A2 n2 c2 f2 (some ⟨g9, 0, none⟩) c7 l9 W2 (by omega) T9.out L9.out BD9.out
            rw [hL9.out] at P
            go_wp2_with fail
            refine P.mono ?_
            clear P
            rintro e w18 ⟨q1, rfl, hr1, hb⟩
            have T18 := Lib.hid ((T9.out).below hb (Nat.le_refl _))
            have L18 := Lib.hid ((L9.out).below hb)
            have B18 := Lib.hid (bel2 B9.out hb)
            have Q1 := Lib.hid hr1
            clear hb hr1
            have P := rfair_any bx A2 n2 c2 f2 (some ⟨g9, 0, none⟩) c7 l9 w18 (by omega) T18.out L18.out BD9.out
            rw [hL9.out] at P
            go_wp2_with fail
            refine P.mono ?_
            clear P
            rintro e w19 ⟨q2, rfl, hr2, hb⟩
            obtain rfl := bool_same Q1.out hr2
            have B19 := Lib.hid (bel2 B18.out hb)
            have heq : (q1 == q1) = true := by simp
            clear hb hr2 Q1
            go_wp2_with fail
            refine (awake_any w19).mono ?_
            rintro e w10 ⟨rfl, hb⟩
            have B10 := Lib.hid (bel2 B19.out hb)
            clear hb
            go_wp2
            go_ret
            exact ⟨rfl, B10.out⟩
          · have hd : decide (0 < xi) = false := decide_eq_false hp
            have L7 := Lib.hid (NN7.out.rl (by rw [HLEN.out]; omega))
            have BD9 : Hid (∀ t, t < l7.length → 0 ≤ l7.getD t 0) := fun t ht => (BD.out t ht).1
            have hL7 := HLEN
            clear BD BD1 N1 LEN1
            have P := fair_any bx A2 n2 c2 f2 (some ⟨g9, 0, none⟩) c7 l7 w7 (by omega) T7.out L7.out BD9.out
            rw [hL7.out] at P
            go_wp2_with fail
            refine P.mono ?_
            clear P
            rintro e w18 ⟨q1, rfl, hr1, hb⟩
            have T18 := Lib.hid ((T7.out).below hb (Nat.le_refl _))
            have L18 := Lib.hid ((L7.out).below hb)
            have B18 := Lib.hid (bel2 B7.out hb)
            have Q1 := Lib.hid hr1
            clear hb hr1
            have P := rfair_any bx A2 n2 c2 f2 (some ⟨g9, 0, none⟩) c7 l7 w18 (by omega) T18.out L18.out BD9.out
            rw [hL7.out] at P
            go_wp2_with fail
            refine P.mono ?_
            clear P
            rintro e w19 ⟨q2, rfl, hr2, hb⟩
            obtain rfl := bool_same Q1.out hr2
            have B19 := Lib.hid (bel2 B18.out hb)
            have heq : (q1 == q1) = true := by simp
            clear hb hr2 Q1
            go_wp2_with fail
            refine (awake_any w19).mono ?_
            rintro e w10 ⟨rfl, hb⟩
            have B10 := Lib.hid (bel2 B19.out hb)
            clear hb
            go_wp2
            go_ret
            exact ⟨rfl, B10.out⟩
end Go.Proofs.Ytopbfnnmgckikaa
