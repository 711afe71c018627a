/- Step. -/
import Derived.Test.YtdmbmjnobncgjaaStp
namespace Go.Proofs.Ytdmbmjnobncgjaa
open Go.RowKit

theorem act_false (t : TrS) (s : EcS) (now : Int) (h : (sAct t s now).1 = false) : (sAct t s now).2.1 = t := by
  revert h
  unfold sAct
  split
  · exact fun _ => rfl
  split
  · split
    · exact fun _ => rfl
    · intro h; cases h
  split
  · intro h; cases h
  split
  · intro h; cases h
  split
  · split
    · intro h; cases h
    · exact fun _ => rfl
  split
  · intro h; cases h
  · exact fun _ => rfl
def sFin (R : TrS × EcS) (now : Int) : TrS × EcS := if R.1.st < 5 ∧ R.1.dl ≤ now then ({ R.1 with st := 6 }, R.2) else R
def SInv (w : World) (T L : Nat) (t : TrS) (s : EcS) (now : Int) (k : Nat) (wr : World) : Prop :=
  ∃ t' s', mu t' s' ≤ k ∧ 0 ≤ t'.st ∧ t'.st ≤ 6 ∧ s'.xq T ∧ EcQ wr L s' ∧ TrW wr T t' ∧ Chg (TL T L) w wr ∧ sRun k t' s' now = sRun 18 t s now
/-- What Step leaves. -/
def SP (w : World) (L T : Nat) (r : TrS × EcS) (e : Ending) (w' : World) : Prop := e = .returned (stVal r.1) ∧ EcQ w' L r.2 ∧ TrW w' T r.1 ∧ Chg (TL T L) w w'
theorem u64_le {a b : Int} (h : b ≤ a) : decide (b ≤ a) = true := decide_eq_true h
set_option maxRecDepth 100000 in
set_option maxHeartbeats 4000000 in
theorem step_any (w : World) (L T : Nat) (s : EcS) (t : TrS) (now : Int) (h : EcQ w L s) (hn : U64 now) (ht : TrW w T t) (hne : T ≠ L) (hx : s.xq T) (h0 : 0 ≤ t.st) (h6 : t.st ≤ 6) :
    Calls Try.prog 34 #[.pointer (some ⟨T, 0, none⟩), .pointer (some ⟨L, 0, none⟩), .int .u64 now] w (SP w L T (sStep t s now)) := by
  have START : Hid (SInv w T L t s now 18 w) := ⟨t, s, mu_le t s h0, h0, h6, hx, h, ht, Chg.refl _ _, rfl⟩
  clear h hx h0 h6
  have HT := Lib.hid ht
  clear ht
  have hQ : sStep t s now = sFin (sRun 18 t s now) now := rfl
  generalize sStep t s now = Q at *
  generalize hR : sRun 18 t s now = R at *
  have HQ := Lib.hid hQ
  clear hQ
  have RR := Lib.hid hR
  clear hR
  go_enter Try.func34, Try.ntmps34
  go_wp2
  go_loopg [] 18 (fun k wr => SInv w T L t s now k wr)
  case atStart => exact START.out
  case round =>
    clear START
    obtain ⟨t', s', hmu, h0, h6, hx, hE, hT, hC, hr⟩ := hrel
    rw [RR.out] at hr
    have hlt := hT.row.lt
    have c4 : wr.cell? ⟨T, 4, none⟩ = some (.int .i64 t'.st) := hT.row.cell (show 4 < 6 by omega)
    have c5 : wr.cell? ⟨T, 5, none⟩ = some (.int .u8 t'.vl) := hT.row.cell (show 5 < 6 by omega)
    by_cases h5 : t'.st < 5
    · have hk : 1 ≤ gk := by
        have : mu t' s' = 3 * (5 - t'.st).toNat + muB s' := rfl
        omega
      obtain ⟨g, rfl⟩ : ∃ g, gk = g + 1 := ⟨gk - 1, by omega⟩
      have P := act_any wr L T s' t' now hE hn hT hne hx h0 h5
      have hs : sRun (g + 1) t' s' now = if (sAct t' s' now).1 = true then sRun g (sAct t' s' now).2.1 (sAct t' s' now).2.2 now else (sAct t' s' now).2 := by
        show (if t'.st < 5 then _ else _) = _
        rw [if_pos h5]
      rw [hs] at hr
      have hmm := act_mu t' s' now h0 h5
      have hff := act_false t' s' now
      have hkk := act_keep t' s' now
      clear hs
      generalize sAct t' s' now = A at *
      obtain ⟨b, t2, s2⟩ := A
      cases b with
      | true =>
        have hmm := hmm rfl
        have N : Hid (∀ w2, EcQ w2 L s2 → TrW w2 T t2 → Chg (TL T L) wr w2 → SInv w T L t s now g w2) := fun w2 a b c =>
          ⟨t2, s2, by have := hmm.1; show mu t2 s2 ≤ g; have : mu t2 s2 < mu t' s' := this; omega, hmm.2.1, by have := hmm.2.2; show t2.st ≤ 6; have : t2.st ≤ 5 := this; omega, by rw [hkk.1]; exact hx, a, b, hC.trans c, by rw [RR.out]; exact hr⟩
        clear hr hmm hff hkk hE hT hC hmu
        go_wp2_with fail
        refine P.mono ?_
        rintro e w2 ⟨rfl, k1, k2, k3⟩
        have D := Lib.hid (N.out w2 k1 k2 k3)
        clear P N k1 k2 k3 c4 c5
        go_wp2
        go_roundg g
        case measure => omega
        case rel => exact D.out
      | false =>
        have hff : t2 = t' := hff rfl
        subst hff
        have hr : (t2, s2) = R := hr
        have HX2 : Hid (s2.xq T) := by show s2.xq T; rw [show s2.xq = s'.xq from hkk.1]; exact hx
        have HR := Lib.hid hr
        clear hr hmm hkk hE hT hmu
        have HC := Lib.hid hC
        clear hC
        go_wp2_with fail
        refine P.mono ?_
        rintro e w2 ⟨rfl, k1, k2, k3⟩
        clear c4 c5 hlt
        have hlt := k2.row.lt
        have c4 : w2.cell? ⟨T, 4, none⟩ = some (.int .i64 t2.st) := k2.row.cell (show 4 < 6 by omega)
        have c3 : w2.cell? ⟨T, 3, none⟩ = some (.int .u64 t2.dl) := k2.row.cell (show 3 < 6 by omega)
        have z4 := k2.row.frozen 4
        have K1 := Lib.hid k1
        have K2 := Lib.hid k2
        have K3 := Lib.hid k3
        have hX := Lib.hid hx
        have e1 : (t2.st == 5) = false := beq_f (by omega)
        have e2 : (t2.st == 6) = false := beq_f (by omega)
        clear P k1 k2 k3 hx
        by_cases hd : t2.dl ≤ now
        · have FIN : Hid (SP w L T Q (.returned (.tuple #[.int .u8 0, .bool true, .int .i64 14])) (w2.setCell ⟨T, 4, none⟩ (.int .i64 6))) := by
            show SP _ _ _ _ _ _
            rw [HQ.out, ← HR.out]
            unfold sFin
            rw [if_pos ⟨h5, hd⟩]
            exact ⟨rfl, tw_set K1.out (show s2.xq T from HX2.out) hne, tw_st K2.out 6, (HC.out.trans K3.out).trans (tl_t (g_store w2 T 4 _))⟩
          have hdb : decide (t2.dl ≤ now) = true := decide_eq_true hd
          clear HR K1 K2 K3 HC RR HT HQ
          go_wp2
          go_ret3
          exact FIN.out
        · have FIN : Hid (SP w L T Q (.returned (.tuple #[.int .u8 0, .bool false, .int .i64 0])) w2) := by
            show SP _ _ _ _ _ _
            rw [HQ.out, ← HR.out]
            unfold sFin
            rw [if_neg (fun x => hd x.2)]
            exact ⟨by unfold stVal; rw [if_neg (show ¬ t2.st = 5 by omega), if_neg (show ¬ t2.st = 6 by omega)], K1.out, K2.out, HC.out.trans K3.out⟩
          have hdb : decide (t2.dl ≤ now) = false := decide_eq_false hd
          clear HR K1 K2 K3 HC RR HT HQ
          go_wp2
          go_ret3
          exact FIN.out
    · have hr : (t', s') = R := by
        rw [← hr]
        cases gk with
        | zero => rfl
        | succ g => show _ = (if t'.st < 5 then _ else _); rw [if_neg h5]
      have FIN : Hid (SP w L T Q (.returned (stVal t')) wr) := by
        show SP _ _ _ _ _ _
        rw [HQ.out, ← hr]
        unfold sFin
        rw [if_neg (fun x => h5 x.1)]
        exact ⟨rfl, hE, hT, hC⟩
      clear hr hE hT hC hmu RR HT HQ hx
      rcases (show t'.st = 5 ∨ t'.st = 6 by omega) with h5 | h5
      · rw [h5] at c4
        have ev : stVal t' = .tuple #[.int .u8 t'.vl, .bool true, .int .i64 0] := by unfold stVal; rw [if_pos h5]
        rw [ev] at FIN
        clear h0 h6 h5 ev
        go_wp2
        go_ret3
        exact FIN.out
      · rw [h5] at c4
        have ev : stVal t' = .tuple #[.int .u8 0, .bool true, .int .i64 14] := by unfold stVal; rw [if_neg (by omega), if_pos h5]
        rw [ev] at FIN
        clear h0 h6 h5 ev
        go_wp2
        go_ret3
        exact FIN.out
end Go.Proofs.Ytdmbmjnobncgjaa
