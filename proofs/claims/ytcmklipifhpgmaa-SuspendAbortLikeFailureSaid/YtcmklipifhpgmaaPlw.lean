/- plan: the walk. -/
import Derived.Test.YtcmklipifhpgmaaPln
import Derived.Test.YtcmklipifhpgmaaApb
namespace Go.Proofs.Ytcmklipifhpgmaa
open Go.ChangeShapes Go.WideShapes Go.ChangeAt Go.RowKit Go.Deep Go.Joins

theorem Fl.below' {w w' : World} {A : Option Addr} {k n : Nat} {V : Nat → Value} (h : Fl w A k n V) (hb : Below w.heap.size w w') : Fl w' A k n V := h.below hb (Nat.le_refl _)
set_option maxRecDepth 20000 in
set_option maxHeartbeats 8000000 in
theorem plan_any {w : World} {s : SQ} {BB : Nat} {v : Value} (h : Pl w s BB v) (ph : Int) (rev : Bool) (hn : s.n ≤ 64) (hp : s.p.length ≤ 1000) : Calls Try.prog 31 #[.pointer (some ⟨s.L, 0, none⟩), .int .i64 ph, .bool rev] w (PlP w s BB (planL ph rev s.n s.o)) := by
  have CL := clo_any s.OA s.n s.oc (eV s.o) w h.b.od h.b.on (by omega) (eV_one s.o)
  obtain ⟨i0, hi0, hzz⟩ := Option.map_eq_some_iff.1 info30
  simp only [Prod.mk.injEq] at hzz
  have HI0 := Lib.hid (And.intro hi0 (And.intro hzz.1 (And.intro hzz.2.1 hzz.2.2)))
  clear hi0 hzz
  have c0 := h.b.c0
  have lL0 := h.b.lL
  have HO := Lib.hid h
  clear h
  go_enter Try.func31, Try.ntmps31
  go_wp2_with fail
  refine CL.mono ?_
  clear CL
  rintro e w1 ⟨A, c, rfl, hF, hAb, hAn, -, -, hfz, hb1⟩
  have P1 := Lib.hid (HO.out.below hb1)
  have B1 := Lib.hid hb1
  clear c0 lL0
  cases A with
  | none =>
    have s0n : s.n = 0 := (hAn rfl).1
    obtain ⟨T, hT⟩ : ∃ T, T = s.o := ⟨_, rfl⟩
    have HT : Hid (∀ r : Bool, planL ph r s.n s.o = (List.range s.n).map fun i => (ph, T i)) := fun r => by rw [s0n]; rfl
    have S0 := Lib.hid s0n
    have P2 := P1
    have D2 : Hid (Fl w1 none 1 s.n (eV T)) := by rw [hT]; exact hF
    have B2 := B1
    clear hF hAb hAn hfz hb1 P1 B1 hT s0n
    cases rev with
    | false =>
      go_wp2_with fail
      go_loopw [19] (fun vi wr => ∃ (k : Nat) (v' : Value), vi = .int .i64 k ∧ k ≤ s.n ∧ Pl wr { s with p := s.p ++ (List.range k).map fun i => (ph, T i) } BB v' ∧ Fl wr none 1 s.n (eV T) ∧ (∀ b, v'.ownBlock = some b → True) ∧ Chg (fun b => b = s.L ∨ BB ≤ b) w wr) (fun vi _ => s.n - (intOf vi).toNat)
      case atStart => exact ⟨0, v, rfl, Nat.zero_le _, (by simpa using P2.out), D2.out, (fun b hb => trivial), Chg.of_below B2.out _⟩
      case round =>
        clear P2 D2
        obtain ⟨k, v', rfl, hk, hP, hD, hvY, hC⟩ := hrel
        by_cases hlt : k < s.n
        · have := S0.out; omega
        · obtain rfl : k = s.n := by omega
          have hq : ¬ (s.n : Int) < (s.n : Int) := by omega
          have F : Hid (PlP w s BB (planL ph false s.n s.o) (.returned (.tuple #[])) wr) := ⟨rfl, v', (by rw [HT.out false]; exact hP), hC⟩
          clear hP hD hvY hC
          go_wp2
          refine bodyPost_ret (results_none rfl _ _ _) rfl ?_
          exact F.out
    | true =>
      have RVN : Calls Try.prog 38 #[.slice none s.n c] w1 (NoP w1) := by rw [S0.out]; exact rev_none c w1
      go_wp2_with fail
      refine RVN.mono ?_
      clear RVN
      rintro e w2 ⟨rfl, rfl⟩
      go_wp2_with fail
      go_loopw [19] (fun vi wr => ∃ (k : Nat) (v' : Value), vi = .int .i64 k ∧ k ≤ s.n ∧ Pl wr { s with p := s.p ++ (List.range k).map fun i => (ph, T i) } BB v' ∧ Fl wr none 1 s.n (eV T) ∧ (∀ b, v'.ownBlock = some b → True) ∧ Chg (fun b => b = s.L ∨ BB ≤ b) w wr) (fun vi _ => s.n - (intOf vi).toNat)
      case atStart => exact ⟨0, v, rfl, Nat.zero_le _, (by simpa using P2.out), D2.out, (fun b hb => trivial), Chg.of_below B2.out _⟩
      case round =>
        clear P2 D2
        obtain ⟨k, v', rfl, hk, hP, hD, hvY, hC⟩ := hrel
        by_cases hlt : k < s.n
        · have := S0.out; omega
        · obtain rfl : k = s.n := by omega
          have hq : ¬ (s.n : Int) < (s.n : Int) := by omega
          have F : Hid (PlP w s BB (planL ph true s.n s.o) (.returned (.tuple #[])) wr) := ⟨rfl, v', (by rw [HT.out true]; exact hP), hC⟩
          clear hP hD hvY hC
          go_wp2
          refine bodyPost_ret (results_none rfl _ _ _) rfl ?_
          exact F.out
  | some a =>
    obtain ⟨Y, off, sp⟩ := a
    have hY := (hAb _ rfl).1
    have hY2 := (hAb _ rfl).2
    have hY : w.heap.size ≤ Y := hY
    have hY2 : Y < w1.heap.size := hY2
    have hspt := (hfz _ 0 rfl).2
    injection hspt with _ hoff hsp
    have hoff : off = 0 := hoff
    have hsp : sp = none := hsp
    subst hoff hsp
    have hfr : ∀ j, w1.frozen? ⟨Y, j, none⟩ = false := fun j => (hfz _ j rfl).1
    cases rev with
    | false =>
      obtain ⟨T, hT⟩ : ∃ T, T = s.o := ⟨_, rfl⟩
      have HT : Hid (planL ph false s.n s.o = (List.range s.n).map fun i => (ph, T i)) := by rw [hT]; rfl
      have P2 := P1
      have D2 : Hid (Fl w1 (some ⟨Y, 0, none⟩) 1 s.n (eV T)) := by rw [hT]; exact hF
      have B2 := B1
      clear hF hAb hAn hfz hb1 P1 B1 hT hfr
      go_wp2_with fail
      go_loopw [19] (fun vi wr => ∃ (k : Nat) (v' : Value), vi = .int .i64 k ∧ k ≤ s.n ∧ Pl wr { s with p := s.p ++ (List.range k).map fun i => (ph, T i) } BB v' ∧ Fl wr (some ⟨Y, 0, none⟩) 1 s.n (eV T) ∧ (∀ b, v'.ownBlock = some b → b ≠ Y) ∧ Chg (fun b => b = s.L ∨ BB ≤ b) w wr) (fun vi _ => s.n - (intOf vi).toNat)
      case atStart => exact ⟨0, v, rfl, Nat.zero_le _, (by simpa using P2.out), D2.out, (fun b hb => by have := (own_lo HO.out.own b hb).2; omega), Chg.of_below B2.out _⟩
      case round =>
        clear P2 D2
        obtain ⟨k, v', rfl, hk, hP, hD, hvY, hC⟩ := hrel
        by_cases hlt : k < s.n
        · obtain ⟨ylt, y0⟩ := hD.eat' rfl hlt
          rw [Nat.zero_add] at y0
          have x2 := hP.b.c2
          have fz2 := hP.b.fz 2
          have lL := hP.b.lL
          have NS : (s.p ++ (List.range (k + 1)).map fun i => ((ph, T i) : Op)) = (s.p ++ (List.range k).map fun i => ((ph, T i) : Op)) ++ [(ph, T k)] := by rw [List.range_succ, List.map_append, ← List.append_assoc]; rfl
          have NSH := Lib.hid NS
          have LEN : (s.p ++ (List.range k).map fun i => ((ph, T i) : Op)).length = s.p.length + k := by simp
          have x2 : wr.cell? ⟨s.L, 2, none⟩ = some v' := x2
          have fz2 : wr.frozen? ⟨s.L, 2, none⟩ = false := fz2
          have lL : s.L < wr.heap.size := lL
          generalize hpk : (s.p ++ (List.range k).map fun i => ((ph, T i) : Op)) = pk at *
          generalize hTk : T k = d at *
          have hx : Below wr.heap.size wr (wr.alloc (.cells #[.int .i64 ph, .int .i64 d] 30)) := bal (Below.refl _ _) _
          have P3 := hP.below hx
          have OWN : (wr.alloc (.cells #[.int .i64 ph, .int .i64 d] 30)).ownsRow BB 30 2 v' pk.length (vsL (oV pk) (pk.length * 2)) := P3.own
          have NEW : Hid (∀ j u, [Value.int .i64 ph, .int .i64 d][j]? = some u → (wr.alloc (.cells #[.int .i64 ph, .int .i64 d] 30)).cell? (Addr.add ⟨wr.heap.size, 0, none⟩ j) = some u) := fun j u hu => by
            rw [add_plain, Nat.zero_add, new_c]
            simpa using hu
          have ONE : Hid (∀ u, u ∈ [Value.int .i64 ph, .int .i64 d] → u.oneCell' = true) := fun u hu => by
            simp only [List.mem_cons, List.not_mem_nil, or_false] at hu
            rcases hu with rfl | rfl <;> rfl
          have hbs0 : BB ≤ wr.heap.size := hP.BW
          have BWW : BB ≤ w.heap.size := HO.out.BW
          have hbs : BB ≤ (wr.alloc (.cells #[.int .i64 ph, .int .i64 d] 30)).heap.size := P3.BW
          have HP3 := Lib.hid P3
          have HD3 := Lib.hid (hD.below' hx)
          have HV := Lib.hid hvY
          have HC := Lib.hid (hC.trans (Chg.of_below hx _))
          have x3 := (hx.cell (p := ⟨s.L, 2, none⟩) lL).trans x2
          have hszx : (wr.alloc (.cells #[.int .i64 ph, .int .i64 d] 30)).heap.size = wr.heap.size + 1 := by simp
          have HSZ := Lib.hid hszx
          have hk64 : k < 64 := by omega
          have LENH := Lib.hid LEN
          clear NS hP hD hvY hC P3 hx hszx hpk hTk LEN
          go_wp2_with (at_builtin; refine wpList_append_blk rfl (.tmp 27) (.tmp 31) 31 rfl BB 30 i0 _ 2 16 Try.underlying31 HI0.out.1 HI0.out.2.1 HI0.out.2.2.1 HI0.out.2.2.2 rfl (by decide) v' pk.length (vsL (oV pk) (pk.length * 2)) rfl OWN ⟨wr.heap.size, 0, none⟩ 1 1 [.int .i64 ph, .int .i64 d] rfl rfl NEW.out ONE.out ?c3 ?c4 ?c5 ?_)
          case c3 => have := LENH.out; unfold maxLen; omega
          case c4 => have := LENH.out; omega
          case c5 => first | exact hbs | omega
          intro v9 w9 hown hgr hblk
          have hown2 : w9.ownsRow BB 30 2 v9 (pk.length + 1) (vsL (oV (pk ++ [(ph, d)])) ((pk.length + 1) * 2)) := by rw [vsL_app]; exact hown
          obtain ⟨A9, c9, rfl, -⟩ := fl_of_own hown2 (by have := LENH.out; omega)
          clear hown2
          have NP : Hid (Pl (w9.setCell ⟨s.L, 2, none⟩ (.slice A9 (pk.length + 1) c9)) { s with p := s.p ++ (List.range (k + 1)).map fun i => ((ph, T i) : Op) } BB (.slice A9 (pk.length + 1) c9)) := by
            rw [NSH.out]
            exact HP3.out.app hgr hown
          have hlo : ∀ b, v'.ownBlock = some b → BB ≤ b := fun b hb => (own_lo HP3.out.own b hb).1
          have LBB : s.L < BB := HP3.out.LB
          have hcs := (Chg.of_grown hgr).size
          have D9 : Hid (Fl (w9.setCell ⟨s.L, 2, none⟩ (.slice A9 (pk.length + 1) c9)) (some ⟨Y, 0, none⟩) 1 s.n (eV T)) := (HD3.out.chg (Chg.of_grown hgr) (fun a e _ => by injection e with e; subst e; exact fun e2 => HV.out Y e2 rfl)).chg (Chg.set w9 s.L 2 (.slice A9 (pk.length + 1) c9)) (fun a e _ => by injection e with e; subst e; show ¬ Y = s.L; omega)
          have V9 : Hid (∀ b, (Value.slice A9 (pk.length + 1) c9).ownBlock = some b → b ≠ Y) := fun b hb => by
            rcases hblk b hb with h1 | h1
            · exact HV.out b h1
            · have := HSZ.out
              omega
          have C9 : Hid (Chg (fun b => b = s.L ∨ BB ≤ b) w (w9.setCell ⟨s.L, 2, none⟩ (.slice A9 (pk.length + 1) c9))) := (HC.out.trans ((Chg.of_grown hgr).mono (fun b _ e => .inr (hlo b e)))).trans ((Chg.set w9 s.L 2 (.slice A9 (pk.length + 1) c9)).mono (fun b _ e => .inl e))
          have L9 : s.L < w9.heap.size := by have := HSZ.out; omega
          have eL9 := (Chg.of_grown hgr).block s.L (by have := HSZ.out; omega) (fun e => by have := hlo _ e; omega)
          have z2 := (blk_cell eL9 2).trans x3
          have zf := (blk_frz eL9 2).trans (HP3.out.b.fz 2)
          clear hown hgr hblk HP3 HD3 HC OWN NEW ONE eL9 x2 fz2 hcs
          go_wp2
          go_roundw
          case rel => exact ⟨k + 1, (.slice A9 (pk.length + 1) c9), by go_num, by omega, NP.out, D9.out, V9.out, C9.out⟩
          case measure => simp [intOf]; omega
        · obtain rfl : k = s.n := by omega
          have hq : ¬ (s.n : Int) < (s.n : Int) := by omega
          have F : Hid (PlP w s BB (planL ph false s.n s.o) (.returned (.tuple #[])) wr) := ⟨rfl, v', (by rw [HT.out]; exact hP), hC⟩
          clear hP hD hvY hC
          go_wp2
          refine bodyPost_ret (results_none rfl _ _ _) rfl ?_
          exact F.out
    | true =>
      obtain ⟨T, hT⟩ : ∃ T : Nat → Int, T = fun i => s.o (s.n - 1 - i) := ⟨_, rfl⟩
      have HT : Hid (planL ph true s.n s.o = (List.range s.n).map fun i => (ph, T i)) := by rw [hT]; rfl
      have LR : Lr w w1 Y s.n s.o := ⟨hb1, hY2, hY, fun j hj => by have := (hF.eat' rfl hj).2; rw [Nat.zero_add] at this; exact this, hfr⟩
      · have RV := rev_any LR c (by omega)
        have C1 := Lib.hid hY
        clear hF hAb hAn hfz hb1 hfr LR
        go_wp2_with fail
        refine RV.mono ?_
        clear RV
        rintro e w2 ⟨rfl, hL2⟩
        rw [← hT] at hL2
        have B2 := Lib.hid hL2.bel
        have D2 := Lib.hid (hL2.fl (by omega))
        have P2 := Lib.hid (HO.out.below hL2.bel)
        have hY : w.heap.size ≤ Y := C1.out
        have hY2 : Y < w2.heap.size := hL2.lY
        clear hL2 hT P1 B1
        go_wp2_with fail
        go_loopw [19] (fun vi wr => ∃ (k : Nat) (v' : Value), vi = .int .i64 k ∧ k ≤ s.n ∧ Pl wr { s with p := s.p ++ (List.range k).map fun i => (ph, T i) } BB v' ∧ Fl wr (some ⟨Y, 0, none⟩) 1 s.n (eV T) ∧ (∀ b, v'.ownBlock = some b → b ≠ Y) ∧ Chg (fun b => b = s.L ∨ BB ≤ b) w wr) (fun vi _ => s.n - (intOf vi).toNat)
        case atStart => exact ⟨0, v, rfl, Nat.zero_le _, (by simpa using P2.out), D2.out, (fun b hb => by have := (own_lo HO.out.own b hb).2; omega), Chg.of_below B2.out _⟩
        case round =>
          clear P2 D2
          obtain ⟨k, v', rfl, hk, hP, hD, hvY, hC⟩ := hrel
          by_cases hlt : k < s.n
          · obtain ⟨ylt, y0⟩ := hD.eat' rfl hlt
            rw [Nat.zero_add] at y0
            have x2 := hP.b.c2
            have fz2 := hP.b.fz 2
            have lL := hP.b.lL
            have NS : (s.p ++ (List.range (k + 1)).map fun i => ((ph, T i) : Op)) = (s.p ++ (List.range k).map fun i => ((ph, T i) : Op)) ++ [(ph, T k)] := by rw [List.range_succ, List.map_append, ← List.append_assoc]; rfl
            have NSH := Lib.hid NS
            have LEN : (s.p ++ (List.range k).map fun i => ((ph, T i) : Op)).length = s.p.length + k := by simp
            have x2 : wr.cell? ⟨s.L, 2, none⟩ = some v' := x2
            have fz2 : wr.frozen? ⟨s.L, 2, none⟩ = false := fz2
            have lL : s.L < wr.heap.size := lL
            generalize hpk : (s.p ++ (List.range k).map fun i => ((ph, T i) : Op)) = pk at *
            generalize hTk : T k = d at *
            have hx : Below wr.heap.size wr (wr.alloc (.cells #[.int .i64 ph, .int .i64 d] 30)) := bal (Below.refl _ _) _
            have P3 := hP.below hx
            have OWN : (wr.alloc (.cells #[.int .i64 ph, .int .i64 d] 30)).ownsRow BB 30 2 v' pk.length (vsL (oV pk) (pk.length * 2)) := P3.own
            have NEW : Hid (∀ j u, [Value.int .i64 ph, .int .i64 d][j]? = some u → (wr.alloc (.cells #[.int .i64 ph, .int .i64 d] 30)).cell? (Addr.add ⟨wr.heap.size, 0, none⟩ j) = some u) := fun j u hu => by
              rw [add_plain, Nat.zero_add, new_c]
              simpa using hu
            have ONE : Hid (∀ u, u ∈ [Value.int .i64 ph, .int .i64 d] → u.oneCell' = true) := fun u hu => by
              simp only [List.mem_cons, List.not_mem_nil, or_false] at hu
              rcases hu with rfl | rfl <;> rfl
            have hbs0 : BB ≤ wr.heap.size := hP.BW
            have BWW : BB ≤ w.heap.size := HO.out.BW
            have hbs : BB ≤ (wr.alloc (.cells #[.int .i64 ph, .int .i64 d] 30)).heap.size := P3.BW
            have HP3 := Lib.hid P3
            have HD3 := Lib.hid (hD.below' hx)
            have HV := Lib.hid hvY
            have HC := Lib.hid (hC.trans (Chg.of_below hx _))
            have x3 := (hx.cell (p := ⟨s.L, 2, none⟩) lL).trans x2
            have hszx : (wr.alloc (.cells #[.int .i64 ph, .int .i64 d] 30)).heap.size = wr.heap.size + 1 := by simp
            have HSZ := Lib.hid hszx
            have hk64 : k < 64 := by omega
            have LENH := Lib.hid LEN
            clear NS hP hD hvY hC P3 hx hszx hpk hTk LEN
            go_wp2_with (at_builtin; refine wpList_append_blk rfl (.tmp 27) (.tmp 31) 31 rfl BB 30 i0 _ 2 16 Try.underlying31 HI0.out.1 HI0.out.2.1 HI0.out.2.2.1 HI0.out.2.2.2 rfl (by decide) v' pk.length (vsL (oV pk) (pk.length * 2)) rfl OWN ⟨wr.heap.size, 0, none⟩ 1 1 [.int .i64 ph, .int .i64 d] rfl rfl NEW.out ONE.out ?c3 ?c4 ?c5 ?_)
            case c3 => have := LENH.out; unfold maxLen; omega
            case c4 => have := LENH.out; omega
            case c5 => first | exact hbs | omega
            intro v9 w9 hown hgr hblk
            have hown2 : w9.ownsRow BB 30 2 v9 (pk.length + 1) (vsL (oV (pk ++ [(ph, d)])) ((pk.length + 1) * 2)) := by rw [vsL_app]; exact hown
            obtain ⟨A9, c9, rfl, -⟩ := fl_of_own hown2 (by have := LENH.out; omega)
            clear hown2
            have NP : Hid (Pl (w9.setCell ⟨s.L, 2, none⟩ (.slice A9 (pk.length + 1) c9)) { s with p := s.p ++ (List.range (k + 1)).map fun i => ((ph, T i) : Op) } BB (.slice A9 (pk.length + 1) c9)) := by
              rw [NSH.out]
              exact HP3.out.app hgr hown
            have hlo : ∀ b, v'.ownBlock = some b → BB ≤ b := fun b hb => (own_lo HP3.out.own b hb).1
            have LBB : s.L < BB := HP3.out.LB
            have hcs := (Chg.of_grown hgr).size
            have D9 : Hid (Fl (w9.setCell ⟨s.L, 2, none⟩ (.slice A9 (pk.length + 1) c9)) (some ⟨Y, 0, none⟩) 1 s.n (eV T)) := (HD3.out.chg (Chg.of_grown hgr) (fun a e _ => by injection e with e; subst e; exact fun e2 => HV.out Y e2 rfl)).chg (Chg.set w9 s.L 2 (.slice A9 (pk.length + 1) c9)) (fun a e _ => by injection e with e; subst e; show ¬ Y = s.L; omega)
            have V9 : Hid (∀ b, (Value.slice A9 (pk.length + 1) c9).ownBlock = some b → b ≠ Y) := fun b hb => by
              rcases hblk b hb with h1 | h1
              · exact HV.out b h1
              · have := HSZ.out
                omega
            have C9 : Hid (Chg (fun b => b = s.L ∨ BB ≤ b) w (w9.setCell ⟨s.L, 2, none⟩ (.slice A9 (pk.length + 1) c9))) := (HC.out.trans ((Chg.of_grown hgr).mono (fun b _ e => .inr (hlo b e)))).trans ((Chg.set w9 s.L 2 (.slice A9 (pk.length + 1) c9)).mono (fun b _ e => .inl e))
            have L9 : s.L < w9.heap.size := by have := HSZ.out; omega
            have eL9 := (Chg.of_grown hgr).block s.L (by have := HSZ.out; omega) (fun e => by have := hlo _ e; omega)
            have z2 := (blk_cell eL9 2).trans x3
            have zf := (blk_frz eL9 2).trans (HP3.out.b.fz 2)
            clear hown hgr hblk HP3 HD3 HC OWN NEW ONE eL9 x2 fz2 hcs
            go_wp2
            go_roundw
            case rel => exact ⟨k + 1, (.slice A9 (pk.length + 1) c9), by go_num, by omega, NP.out, D9.out, V9.out, C9.out⟩
            case measure => simp [intOf]; omega
          · obtain rfl : k = s.n := by omega
            have hq : ¬ (s.n : Int) < (s.n : Int) := by omega
            have F : Hid (PlP w s BB (planL ph true s.n s.o) (.returned (.tuple #[])) wr) := ⟨rfl, v', (by rw [HT.out]; exact hP), hC⟩
            clear hP hD hvY hC
            go_wp2
            refine bodyPost_ret (results_none rfl _ _ _) rfl ?_
            exact F.out
end Go.Proofs.Ytcmklipifhpgmaa
