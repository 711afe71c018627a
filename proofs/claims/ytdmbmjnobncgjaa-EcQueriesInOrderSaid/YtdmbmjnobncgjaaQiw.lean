/- EcQueriesInOrder: the walk. -/
import Derived.Test.YtdmbmjnobncgjaaQio
namespace Go.Proofs.Ytdmbmjnobncgjaa
open Go.RowKit

theorem add0 (g j : Nat) : (⟨g, 0, none⟩ : Addr).add j = ⟨g, j, none⟩ := by
  unfold Addr.add
  split <;> simp_all
theorem bq_1 : (bits BinOp.and IntKind.u8 32 32 != 0) = true := by decide
theorem bq_2 : (bits BinOp.and IntKind.u8 0 32 != 0) = false := by decide
theorem own_len {w : World} {base t size n : Nat} {v : Value} {xs : List Value} (h : w.ownsRow base t size v n xs) : ∃ (_ : Unit) (A : Option Addr) (c : Nat), v = .slice A n c := by
  rcases h.2 with ⟨rfl, rfl⟩ | ⟨g, cap, cur, rfl, _⟩
  · exact ⟨(), none, 0, rfl⟩
  · exact ⟨(), _, cap, rfl⟩
set_option maxRecDepth 100000 in
set_option maxHeartbeats 8000000 in
theorem qio_any (de : Int) (A : Option Addr) (len cap : Nat) (Z : Nat → Int) (w : World) (hde : (Lit.int .u64 de).wf = true) (hz : Ns .u8 w A len Z ∧ len ≤ cap ∧ cap ≤ 9223372036854775807) : Calls Try.prog 7 #[.int .u64 de, .slice A len cap] w (LawPost w) := by
  obtain ⟨hd0, hd1⟩ := u64_of_wf hde
  have hm0 : 0 ≤ de % 8 := Int.emod_nonneg _ (by omega)
  have hm1 : de % 8 < 8 := Int.emod_lt_of_pos _ (by omega)
  have HZ := Lib.hid hz.1
  have hlen := hz.1.len
  obtain ⟨i0, hi0, hz0, hs0, hb0⟩ := info_parts info5
  have HI := Lib.hid (And.intro hi0 (And.intro hz0 (And.intro hs0 hb0)))
  clear hz hde hi0 hz0 hs0 hb0
  go_enter Try.func7, Try.ntmps7
  go_wp2_with fail
  generalize de % 8 = d at *
  refine (new_good w d (by omega) (by omega)).mono ?_
  rintro e w1 ⟨rfl, k1, b1'⟩
  have K1 := Lib.hid k1
  have B1 := Lib.hid b1'
  have hlt1 : w.heap.size < w1.heap.size := by obtain ⟨A, c, k⟩ := k1; exact k.row.lt
  clear k1 b1'
  generalize hL : w.heap.size = L at *
  have HL := Lib.hid hL
  clear hL
  go_wp2_with fail
  refine (awake_any w1).mono ?_
  rintro e w2 ⟨rfl, b2'⟩
  have K2 := Lib.hid (K1.out.below b2')
  have B2 := Lib.hid (bel2 (HL.out ▸ B1.out : Below w.heap.size w w1) b2')
  have HLB : Hid (w.heap.size ≤ L) := by show _ ≤ _; rw [HL.out]; exact Nat.le_refl _
  have START : Hid (QI1 w L d 30 (.slice none 0 0) (.int .i64 0) w2) := ⟨0, [], { ({ e0 with dl := d } : EcS) with xq := fun j => (Value.slice none 0 0).ownBlock = some j }, rfl, rfl, by simp, (fun x hx => by cases hx), rfl, ⟨rfl, rfl, rfl, rfl⟩, rfl, rfl,
    ecq_X K2.out (Chg.refl (fun _ => False) w2) (fun _ _ _ x => x) (fun x => x) (fun b hb => by cases hb) (fun b _ hb => by cases hb), World.ownsRow_nil _ _ _ _, B2.out⟩
  clear b2' K1 B1 hlt1 HL K2 B2
  go_wp2_with fail
  go_loopg [7, 8] 30 (fun k vw vi wr => QI1 w L d k vw vi wr)
  case atStart => exact START.out
  case round =>
    clear START
    obtain ⟨i, WL, s, rfl, hik, hlw, hWu, hql, hR, hck, hxq, hE, hown, hB⟩ := hrel
    by_cases hin : i < len ∧ i < 30
    · obtain ⟨hil, hi30⟩ := hin
      obtain ⟨g, rfl⟩ : ∃ g, gk = g + 1 := ⟨gk - 1, by omega⟩
      obtain ⟨b, off, hA, hc⟩ := HZ.out.at hB (Nat.le_refl _) hil
      subst hA
      have hu := bounds_u8 (HZ.out.wf i hil)
      have HC2 : Hid (∀ w2, Below w.heap.size w w2 → w2.cell? ⟨b, off + i, none⟩ = some (.int .u8 (Z i))) := fun w2 h2 => by
        obtain ⟨b2, off2, e, hc2⟩ := HZ.out.at h2 (Nat.le_refl _) hil
        injection e with e
        injection e with e1 e2
        subst e1 e2
        exact hc2
      generalize Z i = q at *
      by_cases hq0 : q = 0
      · subst hq0
        have P := raise_0 wr L
        have NXT : Hid (QI1 w L d g u7 (.int .i64 (i + 1 : Nat)) wr) := ⟨i + 1, WL, s, rfl, by omega, hlw, hWu, hql, hR, hck, hxq, hE, hown, hB⟩
        clear hWu hql hR hck hxq hE hown hB hu HC2
        go_wp2_with fail
        refine P.mono ?_
        rintro e w3 ⟨rfl, rfl⟩
        go_wp2
        go_roundg g
        case measure => omega
        case rel => exact NXT.out
      · have hqb := beq_f hq0
        have hqn : (q != 0) = true := by simp [hq0]
        by_cases hfull : WL.length < 16
        · have P := raise_any wr L s q hE hq0 hu (by rw [hql]; exact hfull)
          have N : Hid (∀ w3 o W0 W v' , EcQ w3 L { s with ql := s.ql ++ [q] } → Chg (RB L s) wr w3 → w3.alloc o = W0 → W0.grownBy W u7.ownBlock → (v'.ownBlock = u7.ownBlock ∨ v'.ownBlock = some W0.heap.size) → W.ownsRow (L + 1) 5 1 v' (WL.length + 1) (WL.map (Value.int .u8) ++ [.int .u8 q]) → QI1 w L d g v' (.int .i64 (i + 1 : Nat)) W) := fun w3 o W0 W v' k3 c3 hW0 hg hat hown' => by
            have o3 := rb_want hown c3 hxq
            have b3 := rb_below hB c3 HLB.out
            refine ⟨i + 1, WL ++ [q], { ({ s with ql := s.ql ++ [q] } : EcS) with xq := fun j => v'.ownBlock = some j }, rfl, by omega, by simp; omega, fun x hx => ?_, by show s.ql ++ [q] = _; rw [hql], hR, hck, rfl, want_step k3 hxq o3 hW0 hg hat hown', by simpa using hown', ?_⟩
            · rcases List.mem_append.1 hx with hx | hx
              · exact hWu x hx
              · rw [List.mem_singleton.1 hx]; exact hu
            · have b4 : Below w.heap.size w W0 := by rw [← hW0]; exact bal b3 o
              exact b4.grown hg b4.size (fun j hj => by have := (o3.lt j hj).1; have := HLB.out; omega)
          have O : Hid (∀ w3, Chg (RB L s) wr w3 → w3.ownsRow (L + 1) 5 1 u7 WL.length (WL.map (Value.int .u8)) ∧ Below w.heap.size w w3) := fun w3 c3 => ⟨rb_want hown c3 hxq, rb_below hB c3 HLB.out⟩
          obtain ⟨_, la, lc, hlv⟩ := own_len hown
          have hLs : L < wr.heap.size := by obtain ⟨A, c, k⟩ := hE; exact k.row.lt
          clear hWu hql hR hck hxq hE hown hB
          go_wp2_with fail
          refine P.mono ?_
          rintro e w3 ⟨rfl, k3, c3⟩
          have OW3 := Lib.hid (O.out w3 c3).1
          have hc := HC2.out w3 (O.out w3 c3).2
          have N3 := Lib.hid (fun o W0 W v' => N.out w3 o W0 W v' k3 c3)
          have hs3 : L < w3.heap.size := Nat.lt_of_lt_of_le hLs c3.size
          clear P N O k3 c3 HC2
          subst hlv
          generalize hn : WL.length = n at *
          go_wp2_with (at_builtin; refine wpList_append_own_at _ rfl (.tmp 69) (.tmp 74) 42 rfl (L + 1) 5 i0 _ 1 1 Try.underlying42 HI.out.1 HI.out.2.1 HI.out.2.2.1 HI.out.2.2.2 rfl (by decide) _ n (WL.map (Value.int .u8)) rfl (OW3.out.alloc _) ⟨w3.heap.size, 0, none⟩ 1 1 [.int .u8 q] rfl rfl ?c1 ?c2 ?c3 ?c4 ?c5 ?_)
          case c1 => intro j u hu; match j, hu with | 0, hu => simp at hu; subst hu; simp [Addr.add, go_sem]
          case c2 => intro u hu; simp at hu; subst hu; rfl
          case c3 => unfold maxLen; omega
          case c4 => omega
          case c5 => simp; omega
          intro v' w4 hown4 hg4 _ hat4
          have NXT := Lib.hid (N3.out _ _ w4 v' rfl hg4 (hat4.imp id (fun e => by simpa using e)) hown4)
          clear hown4 hg4 hat4 N3 OW3 hn
          go_wp2
          go_roundg g
          case measure => omega
          case rel => exact NXT.out
        · have hf16 : WL.length = 16 := by omega
          have P := raise_full wr L s q hE hq0 (by rw [hql]; omega)
          have NXT : Hid (QI1 w L d g u7 (.int .i64 (i + 1 : Nat)) wr) := ⟨i + 1, WL, s, rfl, by omega, hlw, hWu, hql, hR, hck, hxq, hE, hown, hB⟩
          obtain ⟨_, la, lc, hlv⟩ := own_len hown
          rw [hf16] at hlv
          clear hWu hql hR hck hxq hE hown hB hu HC2
          subst hlv
          go_wp2_with fail
          refine P.mono ?_
          rintro e w3 ⟨rfl, rfl⟩
          go_wp2
          go_roundg g
          case measure => omega
          case rel => exact NXT.out
    · have ST2 : Hid (QI2 w L d WL u7 (WL.length + 1) (.int .u64 0) (.int .i64 0) wr) := ⟨0, 0, s, rfl, rfl, by omega, by omega, by omega, by simpa using hql, hR, by omega, hE, hown, hB⟩
      clear hWu hql hR hck hxq hE hown hB
      have hb1 := bq_1
      have hb2 := bq_2
      have hin : ¬ i < len ∨ (i < len ∧ i = 30) := by omega
      rcases hin with hin | ⟨hin, rfl⟩
      all_goals
        go_wp2_with fail
        go_loopg [10, 11] (WL.length + 1) (fun k vn vi wr => QI2 w L d WL u7 k vn vi wr)
        case atStart => exact ST2.out
        case round =>
          clear ST2
          obtain ⟨i, n, s, rfl, rfl, hik, hn0, hn8, hql, hR, hck, hE, hown, hB⟩ := hrel
          by_cases hiw : i ≤ WL.length
          · obtain ⟨g, rfl⟩ : ∃ g, gk = g + 1 := ⟨gk - 1, by omega⟩
            have hadv : sAdv s n = { s with ck := max s.ck n } := by unfold sAdv; rw [if_pos (.inl hR.1)]
            have hmx : max s.ck n = n := by omega
            rw [hmx] at hadv
            have P := stat_any wr L s n hE (by unfold U64; omega)
            rw [hadv] at P
            have hst : sStat { s with ck := n } = if i < WL.length then 32 else 0 := by
              unfold sStat
              show (if s.un = true then (1 : Int) else 0) + (if s.us = true then 2 else 0) + (if s.ql = [] then 0 else 32) = _
              rw [hR.1, hR.2.1, hql]
              by_cases h : i < WL.length
              · have e2 : WL.drop i ≠ [] := fun e => by have := congrArg List.length e; simp at this; omega
                simp only [e2, h, if_true, if_false]
                rfl
              · have e2 : WL.drop i = [] := List.drop_eq_nil_of_le (by omega)
                simp only [e2, h, if_true, if_false]
                rfl
            rw [hst] at P
            have hR2 : Rest { s with ck := n } d (fun _ => 0) := hR
            have hql2 : ({ s with ck := n } : EcS).ql = WL.drop i := hql
            have hck2 : ({ s with ck := n } : EcS).ck ≤ n := Int.le_refl n
            clear hadv hmx hck hst hE
            generalize ({ s with ck := n } : EcS) = s1 at *
            have HQL := Lib.hid hql2
            have HR := Lib.hid hR2
            have HCK := Lib.hid hck2
            have HOWN := Lib.hid hown
            have HB := Lib.hid hB
            have HCELL : Hid (i < WL.length → ∃ gg, u7.ownBlock = some gg ∧ wr.cell? ⟨gg, i, none⟩ = some (.int .u8 (WL.getD i 0))) := fun h => by
              obtain ⟨gg, cap, e⟩ := own_form hown (by omega)
              refine ⟨gg, by rw [e]; rfl, ?_⟩
              have := hown.cells (by rw [e]; rfl : u7.ownBlock = some gg) i (.int .u8 (WL.getD i 0)) (by rw [List.getElem?_map, List.getD_eq_getElem?_getD, List.getElem?_eq_getElem h]; rfl)
              rw [add0] at this; exact this
            have HLV : Hid (i < WL.length → ∃ gg cap, u7 = .slice (some ⟨gg, 0, none⟩) WL.length cap) := fun h => own_form hown (by omega)
            clear hql hR hql2 hR2 hck2 hown hB
            by_cases hil : i < WL.length
            · rw [if_pos hil] at P
              obtain ⟨gg, cw, rfl⟩ := HLV.out hil
              clear HLV
              go_wp2_with fail
              refine P.mono ?_
              rintro e w2 ⟨rfl, k2, g2⟩
              have K2 := Lib.hid k2
              have B2 := Lib.hid (bel_only HB.out g2 HLB.out)
              have OWN2 : Hid (w2.ownsRow (L + 1) 5 1 (Value.slice (some ⟨gg, 0, none⟩) WL.length cw) WL.length (WL.map (Value.int .u8))) := own_chg HOWN.out (Chg.of_grown g2) (fun j hj e => by have := (HOWN.out.lt j hj).1; injection e with e; omega)
              have hlt2 : L < w2.heap.size := by obtain ⟨A, c, k⟩ := k2; exact k.row.lt
              clear P k2 g2 HB HOWN
              go_wp2_with fail
              refine (query_new w2 n 1000 (by unfold U64; omega) (u64_lit 1000 (by omega))).mono ?_
              rintro e w3 ⟨rfl, t3, b3'⟩
              have hl3 : lat n 1000 = n + 1000 := by unfold lat; rw [if_pos (by omega)]
              rw [hl3] at t3
              have hlt3 : w2.heap.size < w3.heap.size := blk_lt t3
              have TT3 : Hid (TrW w3 w2.heap.size ⟨132, 0, 0, n + 1000, 0, 0⟩) := trw_of t3 (u8_lit _ (by omega)) (u8_lit _ (by omega)) (u8_lit _ (by omega)) (by show 0 ≤ n + 1000 ∧ n + 1000 < 18446744073709551616; omega) (u8_lit _ (by omega))
              have K3 := Lib.hid (ecq_add K2.out b3' (Nat.le_refl _) hlt3)
              have B3 : Hid (Below w.heap.size w w3) := bel2 B2.out b3'
              have OWN3 : Hid (w3.ownsRow (L + 1) 5 1 (Value.slice (some ⟨gg, 0, none⟩) WL.length cw) WL.length (WL.map (Value.int .u8)) ∧ ∀ j, (Value.slice (some ⟨gg, 0, none⟩) WL.length cw).ownBlock = some j → L + 1 ≤ j ∧ j < w2.heap.size) := ⟨own_chg OWN2.out (Chg.of_below b3' (fun _ => False)) (fun _ _ x => x), OWN2.out.lt⟩
              generalize hT : w2.heap.size = T at *
              have hX : Hid ((addX s1 T).xq T) := .inr rfl
              have hne : T ≠ L := by omega
              have hTB : w.heap.size ≤ T := by have := HLB.out; omega
              have R3 : Hid (Rest (addX s1 T) d (fun _ => 0) ∧ (addX s1 T).ql = WL.drop i ∧ (addX s1 T).ck ≤ n) := ⟨HR.out, HQL.out, HCK.out⟩
              generalize addX s1 T = s3 at *
              clear t3 b3' hT K2 B2 OWN2 hl3 HR HQL HCK
              go_wp2_with fail
              obtain ⟨t5, s5, n5, f1, f2, f3, f4, f5, f6⟩ := fin_query d (fun _ => 0) (WL.drop i) (fun _ => 0) 0 n (by omega) (by omega) hm0 hm1 ⟨132, 0, 0, n + 1000, 0, 0⟩ s3 rfl R3.out.1 R3.out.2.1 R3.out.2.2
              refine (fin_any w3 L T _ t5 s3 s5 n n5 w none 0 0 (fun _ => 0) (ns_nil w) B3.out hTB HLB.out K3.out TT3.out hne hX.out (by omega) (by omega) (by show (0 : Int) ≤ 0; omega) (by show (0 : Int) ≤ 6; omega) f1 f3).mono ?_
              rintro e w5 ⟨rfl, k5, t5', c5⟩
              obtain ⟨f2a, f2b, f2c⟩ := f2
              have hv5 : t5.vl = WL.getD i 0 := f2c.trans (drop_head WL i)
              rw [hv5]
              have OWN5 : w5.ownsRow (L + 1) 5 1 (Value.slice (some ⟨gg, 0, none⟩) WL.length cw) WL.length (WL.map (Value.int .u8)) := own_chg OWN3.out.1 c5 (fun j hj e => by
                have := OWN3.out.2 j hj
                rcases e with rfl | rfl <;> omega)
              have NXT : Hid (QI2 w L d WL (.slice (some ⟨gg, 0, none⟩) WL.length cw) g (.int .u64 n5) (.int .i64 (i + 1 : Nat)) w5) := ⟨i + 1, n5, s5, rfl, rfl, by omega, by omega, by omega, by rw [f2b, List.tail_drop], f2a, by omega, k5, OWN5, tl_below B3.out c5 hTB HLB.out⟩
              have CELL : w5.cell? ⟨gg, i, none⟩ = some (.int .u8 (WL.getD i 0)) := by
                have := OWN5.cells (rfl : (Value.slice (some ⟨gg, 0, none⟩) WL.length cw).ownBlock = some gg) i (.int .u8 (WL.getD i 0)) (by rw [List.getElem?_map, List.getD_eq_getElem?_getD, List.getElem?_eq_getElem hil]; rfl)
                rw [add0] at this; exact this
              clear f1 f2a f2b f2c f3 f4 k5 t5' c5 K3 TT3 B3 R3 hX hne hTB hlt3 hlt2 hv5 OWN5 OWN3 HCELL
              generalize WL.getD i 0 = x at *
              go_wp2
              go_roundg g
              case measure => omega
              case rel => exact NXT.out
            · rw [if_neg hil] at P
              clear HLV
              have hlw : i = WL.length := by omega
              obtain ⟨_, la, lc, hlv⟩ := own_len HOWN.out
              subst hlv
              go_wp2_with fail
              refine P.mono ?_
              rintro e w2 ⟨rfl, k2, g2⟩
              have K2 := Lib.hid k2
              have B2 := Lib.hid (bel_only HB.out g2 HLB.out)
              have OWN2 : Hid (w2.ownsRow (L + 1) 5 1 (Value.slice la WL.length lc) WL.length (WL.map (Value.int .u8))) := own_chg HOWN.out (Chg.of_grown g2) (fun j hj e => by have := (HOWN.out.lt j hj).1; injection e with e; omega)
              have hlt2 : L < w2.heap.size := by obtain ⟨A, c, k⟩ := k2; exact k.row.lt
              clear P k2 g2 HB HOWN
              go_wp2_with fail
              refine (query_new w2 n 1000 (by unfold U64; omega) (u64_lit 1000 (by omega))).mono ?_
              rintro e w3 ⟨rfl, t3, b3'⟩
              have hl3 : lat n 1000 = n + 1000 := by unfold lat; rw [if_pos (by omega)]
              rw [hl3] at t3
              have hlt3 : w2.heap.size < w3.heap.size := blk_lt t3
              have TT3 : Hid (TrW w3 w2.heap.size ⟨132, 0, 0, n + 1000, 0, 0⟩) := trw_of t3 (u8_lit _ (by omega)) (u8_lit _ (by omega)) (u8_lit _ (by omega)) (by show 0 ≤ n + 1000 ∧ n + 1000 < 18446744073709551616; omega) (u8_lit _ (by omega))
              have K3 := Lib.hid (ecq_add K2.out b3' (Nat.le_refl _) hlt3)
              have B3 : Hid (Below w.heap.size w w3) := bel2 B2.out b3'
              have OWN3 : Hid (w3.ownsRow (L + 1) 5 1 (Value.slice la WL.length lc) WL.length (WL.map (Value.int .u8)) ∧ ∀ j, (Value.slice la WL.length lc).ownBlock = some j → L + 1 ≤ j ∧ j < w2.heap.size) := ⟨own_chg OWN2.out (Chg.of_below b3' (fun _ => False)) (fun _ _ x => x), OWN2.out.lt⟩
              generalize hT : w2.heap.size = T at *
              have hX : Hid ((addX s1 T).xq T) := .inr rfl
              have hne : T ≠ L := by omega
              have hTB : w.heap.size ≤ T := by have := HLB.out; omega
              have R3 : Hid (Rest (addX s1 T) d (fun _ => 0) ∧ (addX s1 T).ql = WL.drop i ∧ (addX s1 T).ck ≤ n) := ⟨HR.out, HQL.out, HCK.out⟩
              generalize addX s1 T = s3 at *
              clear t3 b3' hT K2 B2 OWN2 hl3 HR HQL HCK
              go_wp2_with fail
              obtain ⟨t5, s5, n5, f1, f2, f3, f4, f5, f6⟩ := fin_query d (fun _ => 0) (WL.drop i) (fun _ => 0) 0 n (by omega) (by omega) hm0 hm1 ⟨132, 0, 0, n + 1000, 0, 0⟩ s3 rfl R3.out.1 R3.out.2.1 R3.out.2.2
              refine (fin_any w3 L T _ t5 s3 s5 n n5 w none 0 0 (fun _ => 0) (ns_nil w) B3.out hTB HLB.out K3.out TT3.out hne hX.out (by omega) (by omega) (by show (0 : Int) ≤ 0; omega) (by show (0 : Int) ≤ 6; omega) f1 f3).mono ?_
              rintro e w5 ⟨rfl, k5, t5', c5⟩
              obtain ⟨f2a, f2b, f2c⟩ := f2
              have hv5 : t5.vl = WL.getD i 0 := f2c.trans (drop_head WL i)
              rw [hv5]
              have OWN5 : w5.ownsRow (L + 1) 5 1 (Value.slice la WL.length lc) WL.length (WL.map (Value.int .u8)) := own_chg OWN3.out.1 c5 (fun j hj e => by
                have := OWN3.out.2 j hj
                rcases e with rfl | rfl <;> omega)
              have NXT : Hid (QI2 w L d WL (Value.slice la WL.length lc) g (.int .u64 n5) (.int .i64 (i + 1 : Nat)) w5) := ⟨i + 1, n5, s5, rfl, rfl, by omega, by omega, by omega, by rw [f2b, List.tail_drop], f2a, by omega, k5, OWN5, tl_below B3.out c5 hTB HLB.out⟩
              have hx0 : WL.getD i 0 = 0 := by rw [List.getD_eq_getElem?_getD, List.getElem?_eq_none (by omega)]; rfl
              rw [hx0]
              clear f1 f2a f2b f2c f3 f4 k5 t5' c5 K3 TT3 B3 R3 hX hne hTB hlt3 hlt2 hv5 OWN5 OWN3 HCELL hx0
              go_wp2
              go_roundg g
              case measure => omega
              case rel => exact (by have := NXT.out; rw [hlw] at this; exact this)
          · have HB := Lib.hid hB
            obtain ⟨lv, la, lc, hlv⟩ := own_len hown
            subst hlv
            clear hql hR hck hE hown hB
            go_wp2
            go_ret
            exact ⟨rfl, HB.out⟩
end Go.Proofs.Ytdmbmjnobncgjaa
