/- finish; EcReadsBack. -/
import Derived.Test.YtdmbmjnobncgjaaFip
namespace Go.Proofs.Ytdmbmjnobncgjaa
open Go.RowKit

theorem results_tmp4 {fn : Func} {t u v x : Tmp} (h : fn.results = #[.tmp t, .tmp u, .tmp v, .tmp x]) (tmps : Array Value) (P : Program) (w : World) :
    (results fn tmps).run P w = .ok (.tuple #[tmps.getD t undef, tmps.getD u undef, tmps.getD v undef, tmps.getD x undef]) w := by
  simp [results, h]
theorem finP_xq : ∀ (k i : Nat) (t : TrS) (s : EcS) (n : Int) (Z : Nat → Int) (len : Nat), (finP k i t s n Z len).2.1.xq = s.xq := by
  intro k
  induction k with
  | zero => exact fun _ _ _ _ _ _ => rfl
  | succ k ih =>
    intro i t s n Z len
    show (if 5 ≤ (sStep t s n).1.st then _ else _ : TrS × EcS × Int × Bool).2.1.xq = _
    split
    · exact sStep_T t s n
    · rw [ih]; exact sStep_T t s n
theorem sRun_st (k : Nat) (t : TrS) (s : EcS) (n : Int) (h0 : 0 ≤ t.st) (h6 : t.st ≤ 6) : 0 ≤ (sRun k t s n).1.st ∧ (sRun k t s n).1.st ≤ 6 := by
  induction k generalizing t s with
  | zero => exact ⟨h0, h6⟩
  | succ k ih =>
    have key : ∀ r, sRun (k + 1) t s n = r → 0 ≤ r.1.st ∧ r.1.st ≤ 6 := by
      intro r hr
      by_cases h5 : t.st < 5
      · have e : sRun (k + 1) t s n = if (sAct t s n).1 = true then sRun k (sAct t s n).2.1 (sAct t s n).2.2 n else (sAct t s n).2 := by
          show (if t.st < 5 then _ else _) = _
          rw [if_pos h5]
        rw [e] at hr
        by_cases hb : (sAct t s n).1 = true
        · rw [if_pos hb] at hr
          have := act_mu t s n h0 h5 hb
          rw [← hr]
          exact ih _ _ this.2.1 (by omega)
        · rw [if_neg hb] at hr
          have := act_false t s n (by simpa using hb)
          rw [← hr, this]
          exact ⟨h0, h6⟩
      · have e := run_end (k + 1) t s n (by omega)
        rw [← hr, e]
        exact ⟨h0, h6⟩
    exact key _ rfl
theorem sStep_st (t : TrS) (s : EcS) (n : Int) (h0 : 0 ≤ t.st) (h6 : t.st ≤ 6) : 0 ≤ (sStep t s n).1.st ∧ (sStep t s n).1.st ≤ 6 := by
  show 0 ≤ (if _ then _ else _ : TrS × EcS).1.st ∧ (if _ then _ else _ : TrS × EcS).1.st ≤ 6
  split
  · exact ⟨by show (0 : Int) ≤ 6; omega, by show (6 : Int) ≤ 6; omega⟩
  · exact sRun_st 18 t s n h0 h6
def FInv (w0 : World) (L T : Nat) (Z : Nat → Int) (len : Nat) (r : TrS × EcS × Int × Bool) (n0 : Int) (k : Nat) (vn vi : Value) (wr : World) : Prop :=
  ∃ (i : Nat) (n : Int) (t : TrS) (s : EcS), vi = .int .i64 i ∧ vn = .int .u64 n ∧ i + k = 200 ∧ 0 ≤ n ∧ n ≤ n0 + 4 * i ∧ 0 ≤ t.st ∧ t.st ≤ 6 ∧ finP k i t s n Z len = r ∧ EcQ wr L s ∧ TrW wr T t ∧ s.xq T ∧ Chg (TL T L) w0 wr
/-- What finish leaves when it ends well. -/
def FP (w : World) (L T : Nat) (t : TrS) (s : EcS) (n : Int) (e : Ending) (w' : World) : Prop := e = .returned (.tuple #[.int .u8 t.vl, .int .i64 0, .int .u64 n, .bool true]) ∧ EcQ w' L s ∧ TrW w' T t ∧ Chg (TL T L) w w'
set_option maxRecDepth 100000 in
set_option maxHeartbeats 4000000 in
theorem fin_any (w : World) (L T : Nat) (t t' : TrS) (s s' : EcS) (n0 n' : Int) (W0 : World) (A : Option Addr) (len cap : Nat) (Z : Nat → Int) (hz : Ns .u8 W0 A len Z) (hZB : Below W0.heap.size W0 w) (hB1 : W0.heap.size ≤ T) (hB2 : W0.heap.size ≤ L) (h : EcQ w L s) (ht : TrW w T t) (hne : T ≠ L) (hx : s.xq T)
    (h0 : 0 ≤ n0) (h1 : n0 < 100000) (hs0 : 0 ≤ t.st) (hs6 : t.st ≤ 6) (hf : finP 200 0 t s n0 Z len = (t', s', n', true)) (h5 : t'.st = 5) :
    Calls Try.prog 36 #[.pointer (some ⟨T, 0, none⟩), .pointer (some ⟨L, 0, none⟩), .int .u64 n0, .slice A len cap] w (FP w L T t' s' n') := by
  have START : Hid (FInv w L T Z len (t', s', n', true) n0 200 (.int .u64 n0) (.int .i64 0) w) := ⟨0, n0, t, s, rfl, rfl, rfl, h0, by omega, hs0, hs6, hf, h, ht, hx, Chg.refl _ _⟩
  have HZ := Lib.hid hz
  have hlen := hz.len
  have HB := Lib.hid hZB
  have H5 := Lib.hid h5
  clear hz hZB h ht hx hf h5 hs0 hs6
  go_enter Try.func36, Try.ntmps36
  go_wp2
  go_loopg [2, 12] 200 (fun k vn vi wr => FInv w L T Z len (t', s', n', true) n0 k vn vi wr)
  case atStart => exact START.out
  case round =>
    clear START
    obtain ⟨i, n, t1, s1, rfl, rfl, hik, hn0, hn4, hs0, hs6, hf, hE, hW, hX, hC⟩ := hrel
    by_cases hi : i < 200
    · obtain ⟨g, rfl⟩ : ∃ g, gk = g + 1 := ⟨gk - 1, by omega⟩
      have P := step_any wr L T s1 t1 n hE (by unfold U64; omega) hW hne hX hs0 hs6
      have hst := sStep_st t1 s1 n hs0 hs6
      have hx2 := sStep_T t1 s1 n
      have hf : (if 5 ≤ (sStep t1 s1 n).1.st then ((sStep t1 s1 n).1, (sStep t1 s1 n).2, n, true) else finP g (i + 1) (sStep t1 s1 n).1 (sStep t1 s1 n).2 (n + if i < len ∧ i < 40 then Z i % 5 else 1) Z len) = (t', s', n', true) := hf
      generalize sStep t1 s1 n = R at *
      have hX : R.2.xq T := by rw [hx2]; exact hX
      by_cases h5 : 5 ≤ R.1.st
      · rw [if_pos h5] at hf
        injection hf with e1 hf
        injection hf with e2 hf
        injection hf with e3 _
        obtain ⟨Rt, Rs⟩ := R
        have e1 : Rt = t' := e1
        have e2 : Rs = s' := e2
        subst e1 e2 e3
        have FIN : Hid (∀ w2, EcQ w2 L Rs → TrW w2 T Rt → Chg (TL T L) wr w2 → FP w L T Rt Rs n (.returned (.tuple #[.int .u8 Rt.vl, .int .i64 0, .int .u64 n, .bool true])) w2) := fun w2 a b c => ⟨rfl, a, b, hC.trans c⟩
        have ev : Hid (stVal Rt = .tuple #[.int .u8 Rt.vl, .bool true, .int .i64 0]) := by show _ = _; unfold stVal; rw [if_pos H5.out]
        clear hE hW hX hx2 hC hst
        go_wp2_with fail
        refine P.mono ?_
        rintro e w2 ⟨rfl, k1, k2, k3⟩
        have D := Lib.hid (FIN.out w2 k1 k2 k3)
        clear P FIN k1 k2 k3
        rw [ev.out]
        clear ev
        go_wp2
        (try simp only [Exit.inBlock, Exit.then])
        refine bodyPost_ret (results_tmp4 rfl _ _ _) rfl ?_
        exact D.out
      · rw [if_neg h5] at hf
        have ev : Hid (stVal R.1 = .tuple #[.int .u8 0, .bool false, .int .i64 0]) := by show _ = _; unfold stVal; rw [if_neg (show ¬ R.1.st = 5 by omega), if_neg (show ¬ R.1.st = 6 by omega)]
        have N : Hid (∀ w2 m, m = n + (if i < len ∧ i < 40 then Z i % 5 else 1) → 0 ≤ m → m ≤ n + 4 → EcQ w2 L R.2 → TrW w2 T R.1 → Chg (TL T L) wr w2 → FInv w L T Z len (t', s', n', true) n0 g (.int .u64 m) (.int .i64 (i + 1 : Nat)) w2) := fun w2 m hm m0 m1 a b c =>
          ⟨i + 1, m, R.1, R.2, rfl, rfl, by omega, m0, by omega, hst.1, hst.2, by rw [hm]; exact hf, a, b, hX, hC.trans c⟩
        have CB : Hid (∀ w2, Chg (TL T L) wr w2 → Below W0.heap.size W0 w2) := fun w2 c => tl_below HB.out (hC.trans c) hB1 hB2
        clear hE hW hX hx2 hC hst hf
        go_wp2_with fail
        refine P.mono ?_
        rintro e w2 ⟨rfl, k1, k2, k3⟩
        have D := Lib.hid (fun m hm m0 m1 => N.out w2 m hm m0 m1 k1 k2 k3)
        have C2 := Lib.hid (CB.out w2 k3)
        clear P N CB k1 k2 k3
        rw [ev.out]
        clear ev
        by_cases hil : i < len
        · obtain ⟨b, off, hA, hc⟩ := HZ.out.at C2.out (Nat.le_refl _) hil
          subst hA
          obtain ⟨z0, z1⟩ := bounds_u8 (HZ.out.wf i hil)
          by_cases h40 : i < 40
          · have D : Hid (∀ m, m = n + Z i % 5 → 0 ≤ m → m ≤ n + 4 → _) := fun m hm m0 m1 => D.out m (by rw [if_pos ⟨hil, h40⟩]; exact hm) m0 m1
            generalize Z i = z at *
            have hz5 : 0 ≤ z % 5 ∧ z % 5 < 5 := ⟨Int.emod_nonneg _ (by omega), Int.emod_lt_of_pos _ (by omega)⟩
            obtain ⟨hz50, hz51⟩ := hz5
            go_wp2
            go_roundg g
            case measure => omega
            case rel => exact D.out _ rfl (by omega) (by omega)
          · have D : Hid (∀ m, m = n + 1 → 0 ≤ m → m ≤ n + 4 → _) := fun m hm m0 m1 => D.out m (by rw [if_neg (fun x => h40 x.2)]; exact hm) m0 m1
            go_wp2
            go_roundg g
            case measure => omega
            case rel => exact D.out _ rfl (by omega) (by omega)
        · have D : Hid (∀ m, m = n + 1 → 0 ≤ m → m ≤ n + 4 → _) := fun m hm m0 m1 => D.out m (by rw [if_neg (fun x => hil x.1)]; exact hm) m0 m1
          go_wp2
          go_roundg g
          case measure => omega
          case rel => exact D.out _ rfl (by omega) (by omega)
    · exfalso
      have : gk = 0 := by omega
      subst this
      have hf : (t1, s1, n, false) = (t', s', n', true) := hf
      injection hf with _ hf
      injection hf with _ hf
      injection hf with _ hf
      cases hf
end Go.Proofs.Ytdmbmjnobncgjaa
