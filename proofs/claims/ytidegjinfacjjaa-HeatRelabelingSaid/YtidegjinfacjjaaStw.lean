/- Step: the walk. -/
import Derived.Test.YtidegjinfacjjaaStp
namespace Go.Proofs.Ytidegjinfacjjaa
open Go.ChangeShapes Go.WideShapes Go.ChangeAt Go.RowKit Go.Deep Go.Joins

/-- What a step leaves. -/
def StP (w : World) (h h' : Mo) (e : Ending) (w' : World) : Prop := ∃ v, e = .returned (.tuple #[v, .int .i64 0]) ∧ TmP w h.n h'.T v w' ∧ Hm w' h' ∧ Chg h.wr w w'
theorem TmP.chg {S : Nat → Prop} {w w' w2 : World} {n : Nat} {T : Nat → Int} {v : Value} (h : TmP w n T v w') (hc : Chg S w' w2) (hs : ∀ b, w.heap.size ≤ b → ¬ S b) : TmP w n T v w2 := by
  obtain ⟨A, c, rfl, hf, ha⟩ := h
  exact ⟨A, c, rfl, hf.chg hc (fun a e _ => hs _ (ha a e).1), fun a e => ⟨(ha a e).1, Nat.lt_of_lt_of_le (ha a e).2 hc.size⟩⟩
theorem stp_bad {w : World} {h : Mo} (k : Hm w h) (P : Option Addr) (l c : Nat) (Z : Nat → Int) (hp : Fl w P 1 l (eV Z)) (hv : vpB l h.n Z = false) : Calls Try.prog 19 #[.pointer (some ⟨h.L, 0, none⟩), .slice P l c] w (PuP w (.tuple #[.slice none 0 0, .int .i64 1])) := by
  have V := Lib.hid (vp_any h.A h.n h.ca P l c Z w hp)
  rw [hv] at V
  have c0 := k.c0
  have lL := k.lL
  clear k hv hp
  go_enter Try.func19, Try.ntmps19
  go_wp2_with (go_at_call 33; refine V.out.mono ?_; rintro e w' ⟨rfl, rfl⟩)
  go_ret2
  exact ⟨rfl, rfl⟩
set_option maxRecDepth 20000 in
set_option maxHeartbeats 16000000 in
theorem stp_any {w : World} {h : Mo} (k : Hm w h) (P : Option Addr) (c : Nat) (Z : Nat → Int) (hp : Fl w P 1 h.n (eV Z)) (r : Rg h Z) (hP : ∀ a, P = some a → ¬ h.wr a.block) : Calls Try.prog 19 #[.pointer (some ⟨h.L, 0, none⟩), .slice P h.n c] w (StP w h (h.stp Z)) := by
  have V := Lib.hid (vp_any h.A h.n h.ca P h.n c Z w hp)
  rw [vp_of rfl r.z] at V
  have R := Lib.hid r
  have n1 := k.n1
  have n2 := k.n2
  have m1 := k.m1
  obtain ⟨pb, po, hPA, -⟩ := hp.addr k.n1
  obtain ⟨b, off, hA, -⟩ := k.dm.addr k.n1
  have HA := Lib.hid hA
  have hPb : pb ≠ h.L ∧ pb ≠ h.X := by
    have := hP _ hPA
    unfold Mo.wr at this
    simp only at this
    omega
  subst hPA
  have HP := Lib.hid hp
  have TM := tmp_any k r.sz
  have c0 := k.c0
  have lL := k.lL
  rw [hA] at c0
  rw [hA] at V
  have K0 := Lib.hid k
  clear k hp r hP hA
  go_enter Try.func19, Try.ntmps19
  go_upto_region 3 with (go_at_call 33; refine V.out.mono ?_; rintro e w' ⟨rfl, rfl⟩)
  go_wp2_with fail
  refine TM.mono ?_
  clear TM V
  rintro e w1 ⟨v, rfl, hT, hb1⟩
  have K1 := Lib.hid (K0.out.below hb1)
  have c0 := K1.out.c0
  have lL := K1.out.lL
  rw [HA.out] at c0
  obtain ⟨A, c2, rfl, hF, hTa⟩ := hT
  obtain ⟨tb, tf, rfl, -⟩ := hF.addr n1
  have tb0 : w.heap.size ≤ tb := (hTa _ rfl).1
  have tL : tb ≠ h.L ∧ tb ≠ h.X := by
    have := K0.out.lL
    have := K0.out.lX
    omega
  have HF := Lib.hid hF
  have G0 := Lib.hid (Chg.of_below hb1 h.wr)
  have P1 := Lib.hid (HP.out.below hb1 (Nat.le_refl _))
  have K1 : Hid (Hm w1 (h.h1 Z 0)) := by rw [h1_zero]; exact K1
  clear hF hTa hb1 HP
  go_wp2_with fail
  go_loopw [27] (fun vi wr => ∃ i : Nat, vi = .int .i64 i ∧ i ≤ h.n ∧ Hm wr (h.h1 Z i) ∧ Chg h.wr w1 wr) (fun vi _ => h.n - (intOf vi).toNat)
  case atStart => exact ⟨0, rfl, Nat.zero_le _, K1.out, Chg.refl _ _⟩
  case round =>
    clear K1 c0 lL
    obtain ⟨i, rfl, hi, hK, hC⟩ := hrel
    have K := Lib.hid hK
    have C := Lib.hid hC
    by_cases hlt : i < h.n
    · obtain ⟨hb, d0', d1'⟩ := hK.dm.dat' HA.out hlt
      have d0 : wr.cell? ⟨b, off + i * 2, none⟩ = some (.int .i64 (h.D i).c) := d0'
      have d1 : wr.cell? ⟨b, off + i * 2 + 1, none⟩ = some (.int .i64 (h.D i).a) := d1'
      clear d0' d1'
      have ein : wr.cell? ⟨h.X, i, none⟩ = some (.int .i64 (h.E i)) := by
        have ein := hK.en i hlt
        rw [show (h.h1 Z i).E i = h.E i from if_neg (Nat.lt_irrefl i)] at ein
        exact ein
      have c2 : wr.cell? ⟨h.L, 2, none⟩ = some (.int .i64 h.s) := hK.c2
      have c3 : wr.cell? ⟨h.L, 3, none⟩ = some (.slice (some ⟨h.X, 0, none⟩) h.n h.ce) := hK.c3
      have c4 : wr.cell? ⟨h.L, 4, none⟩ = some (.int .i64 (h.o + h.ouK i)) := hK.c4
      have lL : h.L < wr.heap.size := hK.lL
      have lX : h.X < wr.heap.size := hK.lX
      have fX : wr.frozen? ⟨h.X, i, none⟩ = false := hK.fX i
      have fL : wr.frozen? ⟨h.L, 4, none⟩ = false := hK.fL 4
      have LX : h.L ≠ h.X := hK.LX
      have tF := HF.out.chg hC (fun a e _ => by injection e with e; subst e; unfold Mo.wr; show ¬ (tb = h.L ∨ tb = h.X); omega)
      have pF := P1.out.chg hC (fun a e _ => by injection e with e; subst e; unfold Mo.wr; show ¬ (pb = h.L ∨ pb = h.X); omega)
      obtain ⟨tl, t0⟩ := tF.eat' rfl hlt
      obtain ⟨pl, p0⟩ := pF.eat' rfl hlt
      obtain ⟨u, hu⟩ : ∃ u, u = h.T i - h.s := ⟨_, rfl⟩
      obtain ⟨zo, hzo⟩ : ∃ zo, zo = Z i - h.ou i := ⟨_, rfl⟩
      obtain ⟨o1, ho1⟩ : ∃ o1, o1 = h.o + h.ouK i := ⟨_, rfl⟩
      obtain ⟨o2, ho2⟩ : ∃ o2, o2 = o1 + h.ou i := ⟨_, rfl⟩
      rw [← ho1] at c4
      obtain ⟨W1, W1w⟩ := both (x := h.T i - h.s) (y := u) (by have := R.out.d i hlt; omega) hu.symm
      obtain ⟨W2, W2w⟩ := both (x := (h.D i).a * u) (y := h.ou i) (by have := R.out.u i hlt; unfold Mo.ou at this; rw [← hu] at this; omega) (by rw [hu]; rfl)
      obtain ⟨W3, W3w⟩ := both (x := Z i - h.ou i) (y := zo) (by have := R.out.u i hlt; have := R.out.z i hlt; omega) hzo.symm
      obtain ⟨W4, W4w⟩ := both (x := h.E i + zo) (y := h.e1 Z i) (by have := R.out.e1 hlt; unfold Mo.e1 at this; rw [← hzo] at this; omega) (by rw [hzo]; rfl)
      have W5 : wrap64 (o1 + h.ou i) = o2 := by
        rw [ho2]
        exact IntWalk.wrap64_in _ (by rw [ho1]; have := R.out.o; have := R.out.ouK i (by omega); have := R.out.u i hlt; omega)
      have KE : Hid (∀ W, Hm W (h.h1 Z i) → Hm (W.setCell ⟨h.X, i, none⟩ (.int .i64 (h.e1 Z i))) ((h.h1 Z i).setE i (h.e1 Z i))) := fun W kk => kk.setE i hlt _
      have KO : Hid (∀ W, Hm W ((h.h1 Z i).setE i (h.e1 Z i)) → Hm (W.setCell ⟨h.L, 4, none⟩ (.int .i64 o2)) (h.h1 Z (i + 1))) := fun W kk => by rw [← h1_succ, ho2, ho1]; exact kk.setO _
      generalize (h.h1 Z i).setE i (h.e1 Z i) = him at *
      generalize h.h1 Z i = hi1 at *
      generalize h.e1 Z i = ee at *
      clear hu hzo ho1 ho2
      generalize h.ou i = oo at *
      generalize h.E i = ei at *
      generalize h.T i = ti at *
      generalize Z i = zi at *
      generalize (h.D i).c = dc at *
      generalize (h.D i).a = da at *
      clear hK hC tF pF
      have hx : Below wr.heap.size wr (wr.alloc (.cells #[.int .i64 dc, .int .i64 da] 31)) := bal (Below.refl _ wr) _
      have z1 : (wr.alloc (.cells #[.int .i64 dc, .int .i64 da] 31)).cell? ⟨wr.heap.size, 1, none⟩ = some (.int .i64 da) := by simp [go_sem]
      have K2 := Lib.hid (K.out.below hx)
      have C2 := Lib.hid (C.out.trans (Chg.of_below hx _))
      go_upto_region 7 with fail
      rw [← hx.cell (p := ⟨h.L, 2, none⟩) lL] at c2
      rw [← hx.cell (p := ⟨h.L, 3, none⟩) lL] at c3
      rw [← hx.cell (p := ⟨h.L, 4, none⟩) lL] at c4
      rw [← hx.cell (p := ⟨h.X, i, none⟩) lX] at ein
      rw [← hx.cell (p := ⟨tb, tf + i, none⟩) tl] at t0
      rw [← hx.cell (p := ⟨pb, po + i, none⟩) pl] at p0
      rw [← hx.frozen (p := ⟨h.X, i, none⟩) lX] at fX
      rw [← hx.frozen (p := ⟨h.L, 4, none⟩) lL] at fL
      have lL' := Nat.lt_of_lt_of_le lL hx.size
      have lX' := Nat.lt_of_lt_of_le lX hx.size
      have tl' := Nat.lt_of_lt_of_le tl hx.size
      have pl' := Nat.lt_of_lt_of_le pl hx.size
      clear d0 d1 hb hx K C lL lX tl pl
      have lL := lL'
      have lX := lX'
      have tl := tl'
      have pl := pl'
      clear lL' lX' tl' pl'
      generalize wr.alloc (.cells #[.int .i64 dc, .int .i64 da] 31) = w2 at *
      generalize wr.heap.size = Q at *
      go_quiet (fail)
      have hq := bel_drewN (Below.refl w2.heap.size w2) nq
      have K2 := Lib.hid (K2.out.below hq)
      have C2 := Lib.hid (C2.out.trans (Chg.of_below hq _))
      have c3q : (w2.drewN nq).cell? ⟨h.L, 3, none⟩ = _ := c3
      have c4q : (w2.drewN nq).cell? ⟨h.L, 4, none⟩ = _ := c4
      have einq : (w2.drewN nq).cell? ⟨h.X, i, none⟩ = _ := ein
      have p0q : (w2.drewN nq).cell? ⟨pb, po + i, none⟩ = _ := p0
      have fXq : (w2.drewN nq).frozen? ⟨h.X, i, none⟩ = _ := fX
      have fLq : (w2.drewN nq).frozen? ⟨h.L, 4, none⟩ = _ := fL
      have lLq : h.L < (w2.drewN nq).heap.size := lL
      have lXq : h.X < (w2.drewN nq).heap.size := lX
      have plq : pb < (w2.drewN nq).heap.size := pl
      clear c2 t0 z1 W1 W2 W1w W2w hq tl c3 c4 ein p0 fX fL lL lX pl
      go_upto_region 8 with fail
      generalize w2.drewN nq = w3 at *
      go_still_tail 15, (by kernel_rfl)
      have K4 := Lib.hid ((KE.out _ K2.out).below (Below.refl _ _).drew)
      have C4 := Lib.hid (C2.out.trans ((Chg.set w3 h.X i (.int .i64 ee)).mono (fun _ _ e => .inr e) |>.drew))
      have c4 : (w3.setCell ⟨h.X, i, none⟩ (.int .i64 ee)).drew.cell? ⟨h.L, 4, none⟩ = some (.int .i64 o1) := (World.cell?_setCell_other w3 _ _ _ (fun e => LX (by injection e with e2 _; exact e2.symm))).trans c4q
      have fL : (w3.setCell ⟨h.X, i, none⟩ (.int .i64 ee)).drew.frozen? ⟨h.L, 4, none⟩ = false := (set_frz ..).trans fLq
      have lL : h.L < (w3.setCell ⟨h.X, i, none⟩ (.int .i64 ee)).drew.heap.size := by show _ < (w3.setCell ⟨h.X, i, none⟩ (.int .i64 ee)).heap.size; simp; exact lLq
      clear KE K2 C2 c3q W3 W4 W3w W4w
      go_upto_region 9 with fail
      generalize (w3.setCell ⟨h.X, i, none⟩ (.int .i64 ee)).drew = w4 at *
      clear c4q einq p0q fXq fLq lLq lXq plq
      have K5 := Lib.hid (KO.out _ K4.out)
      have C5 := Lib.hid (C4.out.trans ((Chg.set w4 h.L 4 (.int .i64 o2)).mono (fun _ _ e => .inl e)))
      clear K4 C4
      go_wp2
      go_roundw
      case rel => exact ⟨i + 1, by go_num, by omega, K5.out, C5.out⟩
      case measure => simp [intOf]; omega
    · obtain rfl : i = h.n := by omega
      have hq : ¬ (h.n : Int) < (h.n : Int) := by omega
      have C0 := Lib.hid (G0.out.trans C.out)
      have K0 := Lib.hid (h12 K.out)
      have tF := HF.out.chg hC (fun a e _ => by injection e with e; subst e; unfold Mo.wr; show ¬ (tb = h.L ∨ tb = h.X); omega)
      have HF := Lib.hid tF
      have c1 : wr.cell? ⟨h.L, 1, none⟩ = some (.slice h.B h.m h.cb) := hK.c1
      have lL : h.L < wr.heap.size := hK.lL
      clear hK hC K C tF P1
      generalize hBv : h.B = Bv at *
      have HB := Lib.hid hBv
      clear hBv
      have RF := Lib.hid (fun (W : World) (kk : Hm W (h.stp Z)) => tmp_any kk (R.out.szf m1))
      go_wp2_with fail
      clear c1 lL
      generalize wr = w5 at *
      go_loopw [73] (fun vi wr => ∃ k : Nat, vi = .int .i64 k ∧ k ≤ h.m ∧ Hm wr (h.h2 Z k) ∧ Chg h.wr w5 wr) (fun vi _ => h.m - (intOf vi).toNat)
      case atStart => exact ⟨0, rfl, Nat.zero_le _, K0.out, Chg.refl _ _⟩
      case round =>
        clear K0
        obtain ⟨k, rfl, hk, hK, hC⟩ := hrel
        have K := Lib.hid hK
        have C := Lib.hid hC
        by_cases hlt : k < h.m
        · obtain ⟨lb, lo, hBs, -⟩ := hK.lk.addr (show 0 < h.m by omega)
          have hBs : h.B = some ⟨lb, lo, none⟩ := hBs
          rw [HB.out] at hBs
          subst hBs
          obtain ⟨p, q, ep, eq, hp, hq, hpq⟩ := R.out.l k hlt
          obtain ⟨hb, l0', l1', l2'⟩ := hK.lk.lat' HB.out hlt
          have l0 : wr.cell? ⟨lb, lo + k * 3, none⟩ = some (.int .i64 (p : Nat)) := by rw [← ep]; exact l0'
          have l1 : wr.cell? ⟨lb, lo + k * 3 + 1, none⟩ = some (.int .i64 (q : Nat)) := by rw [← eq]; exact l1'
          have l2 : wr.cell? ⟨lb, lo + k * 3 + 2, none⟩ = some (.int .i64 (h.K k).c) := l2'
          have enp : wr.cell? ⟨h.X, p, none⟩ = some (.int .i64 (h.e1 Z p + h.flK k p)) := hK.en p hp
          have enq : wr.cell? ⟨h.X, q, none⟩ = some (.int .i64 (h.e1 Z q + h.flK k q)) := hK.en q hq
          have c3 : wr.cell? ⟨h.L, 3, none⟩ = some (.slice (some ⟨h.X, 0, none⟩) h.n h.ce) := hK.c3
          have lL : h.L < wr.heap.size := hK.lL
          have lX : h.X < wr.heap.size := hK.lX
          have fX : ∀ j, wr.frozen? ⟨h.X, j, none⟩ = false := hK.fX
          have fXp := fX p
          have fXq := fX q
          have LX : h.L ≠ h.X := hK.LX
          have tF := HF.out.chg hC (fun a e _ => by injection e with e; subst e; unfold Mo.wr; show ¬ (tb = h.L ∨ tb = h.X); omega)
          obtain ⟨tl, tp⟩ := tF.eat' rfl hp
          obtain ⟨-, tq⟩ := tF.eat' rfl hq
          have hfl : h.fl k = (h.K k).c * (h.T p - h.T q) := by unfold Mo.fl; rw [ep, eq, Int.toNat_natCast, Int.toNat_natCast]
          have bt := R.out.t k hlt
          have bf := R.out.f k hlt
          have be := R.out.e1 hp
          have be2 := R.out.e1 hq
          have bl := R.out.flK k p (by omega)
          have bl2 := R.out.flK k q (by omega)
          rw [ep, eq, Int.toNat_natCast, Int.toNat_natCast] at bt
          obtain ⟨u, hu⟩ : ∃ u, u = h.T p - h.T q := ⟨_, rfl⟩
          obtain ⟨xp, hxp⟩ : ∃ xp, xp = h.e1 Z p + h.flK k p := ⟨_, rfl⟩
          obtain ⟨xq, hxq⟩ : ∃ xq, xq = h.e1 Z q + h.flK k q := ⟨_, rfl⟩
          obtain ⟨yp, hyp⟩ : ∃ yp, yp = xp - h.fl k := ⟨_, rfl⟩
          obtain ⟨yq, hyq⟩ : ∃ yq, yq = xq + h.fl k := ⟨_, rfl⟩
          obtain ⟨W1, W1w⟩ := both (x := h.T p - h.T q) (y := u) (by omega) hu.symm
          obtain ⟨W2, W2w⟩ := both (x := (h.K k).c * u) (y := h.fl k) (by rw [hu, ← hfl]; omega) (by rw [hu, hfl])
          obtain ⟨W3, W3w⟩ := both (x := xp - h.fl k) (y := yp) (by omega) hyp.symm
          obtain ⟨W4, W4w⟩ := both (x := xq + h.fl k) (y := yq) (by omega) hyq.symm
          rw [← hxp] at enp
          rw [← hxq] at enq
          have KE : Hid (∀ W, Hm W (h.h2 Z k) → Hm (W.setCell ⟨h.X, p, none⟩ (.int .i64 yp)) ((h.h2 Z k).setE p yp)) := fun W kk => kk.setE p hp _
          have KO : Hid (∀ W, Hm W ((h.h2 Z k).setE p yp) → Hm (W.setCell ⟨h.X, q, none⟩ (.int .i64 yq)) (h.h2 Z (k + 1))) := fun W kk => by
            rw [← h2_succ k p q ep eq hpq, ← hxp, ← hxq, ← hyp, ← hyq]
            exact kk.setE q hq _
          clear hu hxp hxq hyp hyq hfl bt bf be be2 bl bl2 l0' l1' l2' ep eq fX
          generalize (h.h2 Z k).setE p yp = him at *
          generalize h.h2 Z k = hi1 at *
          generalize h.fl k = ff at *
          generalize h.T p = Tp at *
          generalize h.T q = Tq at *
          generalize (h.K k).c = lc at *
          clear hK hC tF
          have hx : Below wr.heap.size wr (wr.alloc (.cells #[.int .i64 (p : Nat), .int .i64 (q : Nat), .int .i64 lc] 34)) := bal (Below.refl _ wr) _
          have z0 : (wr.alloc (.cells #[.int .i64 (p : Nat), .int .i64 (q : Nat), .int .i64 lc] 34)).cell? ⟨wr.heap.size, 0, none⟩ = some (.int .i64 (p : Nat)) := by simp [go_sem]
          have z1 : (wr.alloc (.cells #[.int .i64 (p : Nat), .int .i64 (q : Nat), .int .i64 lc] 34)).cell? ⟨wr.heap.size, 1, none⟩ = some (.int .i64 (q : Nat)) := by simp [go_sem]
          have z2 : (wr.alloc (.cells #[.int .i64 (p : Nat), .int .i64 (q : Nat), .int .i64 lc] 34)).cell? ⟨wr.heap.size, 2, none⟩ = some (.int .i64 lc) := by simp [go_sem]
          have hQ : wr.heap.size < (wr.alloc (.cells #[.int .i64 (p : Nat), .int .i64 (q : Nat), .int .i64 lc] 34)).heap.size := by simp
          have hQX : wr.heap.size ≠ h.X := by omega
          have K2 := Lib.hid (K.out.below hx)
          have C2 := Lib.hid (C.out.trans (Chg.of_below hx _))
          go_upto_region 14 with fail
          rw [← hx.cell (p := ⟨h.L, 3, none⟩) lL] at c3
          rw [← hx.cell (p := ⟨h.X, p, none⟩) lX] at enp
          rw [← hx.cell (p := ⟨h.X, q, none⟩) lX] at enq
          rw [← hx.cell (p := ⟨tb, tf + p, none⟩) tl] at tp
          rw [← hx.cell (p := ⟨tb, tf + q, none⟩) tl] at tq
          rw [← hx.frozen (p := ⟨h.X, p, none⟩) lX] at fXp
          rw [← hx.frozen (p := ⟨h.X, q, none⟩) lX] at fXq
          have lL' := Nat.lt_of_lt_of_le lL hx.size
          have lX' := Nat.lt_of_lt_of_le lX hx.size
          have tl' := Nat.lt_of_lt_of_le tl hx.size
          clear l0 l1 l2 hb hx K C lL lX tl
          generalize wr.alloc (.cells #[.int .i64 (p : Nat), .int .i64 (q : Nat), .int .i64 lc] 34) = w2 at *
          generalize wr.heap.size = Q at *
          go_quiet (fail)
          have hq2 := bel_drewN (Below.refl w2.heap.size w2) nq
          have K2 := Lib.hid (K2.out.below hq2)
          have C2 := Lib.hid (C2.out.trans (Chg.of_below hq2 _))
          have c3q : (w2.drewN nq).cell? ⟨h.L, 3, none⟩ = _ := c3
          have enpq : (w2.drewN nq).cell? ⟨h.X, p, none⟩ = _ := enp
          have enqq : (w2.drewN nq).cell? ⟨h.X, q, none⟩ = _ := enq
          have z0q : (w2.drewN nq).cell? ⟨Q, 0, none⟩ = _ := z0
          have z1q : (w2.drewN nq).cell? ⟨Q, 1, none⟩ = _ := z1
          have fXpq : (w2.drewN nq).frozen? ⟨h.X, p, none⟩ = _ := fXp
          have fXqq : (w2.drewN nq).frozen? ⟨h.X, q, none⟩ = _ := fXq
          have lLq : h.L < (w2.drewN nq).heap.size := lL'
          have lXq : h.X < (w2.drewN nq).heap.size := lX'
          have hQq : Q < (w2.drewN nq).heap.size := hQ
          clear c3 enp enq z0 z1 z2 fXp fXq lL' lX' hQ tp tq W1 W2 W1w W2w hq2 tl'
          go_upto_region 15 with fail
          generalize w2.drewN nq = w3 at *
          go_still_tail 10, (by kernel_rfl)
          have K4 := Lib.hid ((KE.out _ K2.out).below (Below.refl _ _).drew)
          have C4 := Lib.hid (C2.out.trans ((Chg.set w3 h.X p (.int .i64 yp)).mono (fun _ _ e => .inr e) |>.drew))
          have c3 : (w3.setCell ⟨h.X, p, none⟩ (.int .i64 yp)).drew.cell? ⟨h.L, 3, none⟩ = _ := (World.cell?_setCell_other w3 _ _ _ (fun e => LX (by injection e with e2 _; exact e2.symm))).trans c3q
          have z1 : (w3.setCell ⟨h.X, p, none⟩ (.int .i64 yp)).drew.cell? ⟨Q, 1, none⟩ = _ := (World.cell?_setCell_other w3 _ _ _ (fun e => hQX (by injection e with e2 _; exact e2.symm))).trans z1q
          have enq : (w3.setCell ⟨h.X, p, none⟩ (.int .i64 yp)).drew.cell? ⟨h.X, q, none⟩ = _ := (set_off _ _ _ _ _ (fun e => hpq e.symm)).trans enqq
          have fXq : (w3.setCell ⟨h.X, p, none⟩ (.int .i64 yp)).drew.frozen? ⟨h.X, q, none⟩ = false := (set_frz ..).trans fXqq
          have lL : h.L < (w3.setCell ⟨h.X, p, none⟩ (.int .i64 yp)).drew.heap.size := by show _ < (w3.setCell ⟨h.X, p, none⟩ (.int .i64 yp)).heap.size; simp; exact lLq
          have lX : h.X < (w3.setCell ⟨h.X, p, none⟩ (.int .i64 yp)).drew.heap.size := by show _ < (w3.setCell ⟨h.X, p, none⟩ (.int .i64 yp)).heap.size; simp; exact lXq
          have hQ : Q < (w3.setCell ⟨h.X, p, none⟩ (.int .i64 yp)).drew.heap.size := by show _ < (w3.setCell ⟨h.X, p, none⟩ (.int .i64 yp)).heap.size; simp; exact hQq
          clear KE K2 C2 W3 W3w
          go_upto_region 16 with fail
          generalize (w3.setCell ⟨h.X, p, none⟩ (.int .i64 yp)).drew = w4 at *
          clear c3q enpq enqq z0q z1q fXpq fXqq lLq lXq hQq
          go_still_tail 10, (by kernel_rfl)
          have K5 := Lib.hid ((KO.out _ K4.out).below (Below.refl _ _).drew)
          have C5 := Lib.hid (C4.out.trans ((Chg.set w4 h.X q (.int .i64 yq)).mono (fun _ _ e => .inr e) |>.drew))
          clear K4 C4 KO
          go_wp2
          go_roundw
          case rel => exact ⟨k + 1, by go_num, by omega, K5.out, C5.out⟩
          case measure => simp [intOf]; omega
        · obtain rfl : k = h.m := by omega
          have hq : ¬ (h.m : Int) < (h.m : Int) := by omega
          have P1 := RF.out wr hK
          have FIN := Lib.hid (fun (wx : World) (v : Value) (hT : TmP wr h.n (h.stp Z).T v wx) (hb : Below wr.heap.size wr wx) => show StP w h (h.stp Z) (.returned (.tuple #[v, .int .i64 0])) wx from
            ⟨v, rfl, by
              obtain ⟨A, c, e, hf, ha⟩ := hT
              exact ⟨A, c, e, hf, fun a e => ⟨by have := (ha a e).1; have := C0.out.size; have := C.out.size; omega, (ha a e).2⟩⟩, K.out.below hb, C0.out.trans (C.out.trans (Chg.of_below hb _))⟩)
          clear hK hC C0 C K
          go_wp2_with fail
          refine P1.mono ?_
          clear P1
          rintro e wx ⟨v, rfl, hT, hb⟩
          have F := Lib.hid (FIN.out wx v hT hb)
          clear hT hb FIN
          go_wp2
          go_ret2
          exact F.out
end Go.Proofs.Ytidegjinfacjjaa
