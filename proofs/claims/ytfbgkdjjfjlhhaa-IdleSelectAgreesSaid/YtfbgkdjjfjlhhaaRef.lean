/- The reference's Check, Select and Energy return what the program's do. -/
import Derived.Test.YtfbgkdjjfjlhhaaEng
namespace Go.Proofs.Ytfbgkdjjfjlhhaa
open Go.RowKit

theorem rchk_none (A : Option Addr) (c : Nat) (f : Nat → St) (w : World) :
    Calls Try.prog 19 #[.slice A 0 c] w (ChkPost w 0 f) := by
  go_enter Try.func19, Try.ntmps19
  go_wp2
  go_ret
  exact ⟨rfl, Below.refl _ _⟩
set_option maxRecDepth 100000 in
theorem rchk_long (A : Option Addr) (n c : Nat) (f : Nat → St) (w : World) (h : 10 < n) (hn : n ≤ 9223372036854775807) :
    Calls Try.prog 19 #[.slice A n c] w (ChkPost w n f) := by
  have h1 : ¬ ((n : Int) < 1) := by omega
  have h2 : (10 : Int) < n := by omega
  go_enter Try.func19, Try.ntmps19
  go_wp2
  go_ret
  refine ⟨?_, Below.refl _ _⟩
  have : vld n f = false := by simp [vld]; omega
  rw [this]; rfl

set_option maxRecDepth 100000 in
set_option maxHeartbeats 2000000 in
theorem rchk_mid (b off n c : Nat) (f : Nat → St) (w : World) (h : 1 ≤ n) (hn : n ≤ 10) (hb : b < w.heap.size) (hc : Sts w b off n f) :
    Calls Try.prog 19 #[.slice (some ⟨b, off, none⟩) n c] w (ChkPost w n f) := by
  have h1 : ¬ ((n : Int) < 1) := by omega
  have h2 : ¬ (10 : Int) < n := by omega
  have hc0 := hc 0 (by omega)
  obtain ⟨c0, c1, c2⟩ := hc0
  simp only [Nat.zero_mul, Nat.add_zero] at c0 c1 c2
  by_cases hl : (f 0).l = 0
  · by_cases hr : (f 0).r = 0
    · have hl' : ((f 0).l != 0) = false := by simp [hl]
      have hr' : ((f 0).r != 0) = false := by simp [hr]
      have Hl := Lib.hid hl; clear hl
      have Hr := Lib.hid hr; clear hr
      go_enter Try.func19, Try.ntmps19
      go_wp2
      go_loopw [3] (fun i wr => ∃ k : Nat, k ≤ n ∧ i = .int .i64 k ∧ Below w.heap.size w wr ∧ Hid (okTo f k = true)) (fun i _ => n - (intOf i).toNat)
      case atStart => exact ⟨0, Nat.zero_le _, rfl, Below.refl _ _, rfl⟩
      case round =>
        obtain ⟨k, hk, rfl, hbel, Ho⟩ := hrel
        by_cases hlt : k < n
        · obtain ⟨d0, d1, d2⟩ := hc k hlt
          rw [← hbel.cell hb] at d0 d1 d2
          by_cases a1 : 1073741824 < (f k).l
          · go_wp2
            go_ret
            exact post_bad (vld_bad hlt (bad_l a1)) (hbel.alloc hbel.size _)
          by_cases a2 : 1073741824 < (f k).r
          · go_wp2
            go_ret
            exact post_bad (vld_bad hlt (bad_r a2)) (hbel.alloc hbel.size _)
          by_cases a3 : 1048576 < (f k).p
          · go_wp2
            go_ret
            exact post_bad (vld_bad hlt (bad_p a3)) (hbel.alloc hbel.size _)
          rcases Nat.eq_zero_or_pos k with hk0 | hk0
          · subst hk0
            simp only [Nat.zero_mul, Nat.add_zero] at d0 d1 d2
            go_wp2_with fail
            go_quiet (fail)
            go_wp2
            go_roundw
            case rel => exact ⟨1, by omega, by go_num, below_drewN (hbel.alloc hbel.size _) _, ok_0 (by omega) (by omega) (by omega)⟩
            case measure => simp [intOf]; omega
          · obtain ⟨j, rfl⟩ : ∃ j, k = j + 1 := ⟨k - 1, by omega⟩
            obtain ⟨e0, e1, e2⟩ := hc j (by omega)
            rw [← hbel.cell hb] at e0 e1 e2
            have g : (0 : Int) < (j : Int) + 1 := by omega
            have w1 : IntKind.i64.wrap (j : Int) = (j : Int) := IntWalk.i64_in _ (by omega)
            have w2 : (j : Int) < n := by omega
            have hbw : b < wr.heap.size := by have := hbel.size; omega
            go_wp2_with fail
            generalize hX : f (j + 1) = X at *
            generalize hY : f j = Y at *
            obtain ⟨xl, xr, xp⟩ := X
            obtain ⟨yl, yr, yp⟩ := Y
            simp only at *
            have HX := Lib.hid hX; clear hX
            have HY := Lib.hid hY; clear hY
            have bel2 := hbel.alloc hbel.size (Obj.cells #[Value.int IntKind.u64 xl, Value.int IntKind.u64 xr, Value.int IntKind.u64 xp] 25)
            rw [← World.cell?_alloc_lt wr (Obj.cells #[Value.int IntKind.u64 xl, Value.int IntKind.u64 xr, Value.int IntKind.u64 xp] 25) _ hbw] at e0 e1 e2
            obtain ⟨g0, g1, g2⟩ := box3 wr xl xr xp
            generalize hW : wr.alloc (Obj.cells #[Value.int IntKind.u64 xl, Value.int IntKind.u64 xr, Value.int IntKind.u64 xp] 25) = W at *
            generalize hB : wr.heap.size = B at *
            clear hW hB hbel d0 d1 d2 c0 c1 c2 hc hb hbw h1 h2 hl' hr'
            have BL := Lib.hid bel2; clear bel2
            by_cases b1 : xl ≤ yl
            · go_quiet (fail)
              go_wp2
              go_ret
              exact post_bad (vld_bad hlt (bad_l2 (by rw [HX.out, HY.out]; exact b1))) (below_drewN BL.out _)
            by_cases b2 : xr ≤ yr
            · go_quiet (fail)
              go_wp2
              go_ret
              exact post_bad (vld_bad hlt (bad_r2 (by rw [HX.out, HY.out]; exact b2))) (below_drewN BL.out _)
            by_cases b3 : yp ≤ xp
            · go_quiet (fail)
              go_wp2
              go_ret
              exact post_bad (vld_bad hlt (bad_p2 (by rw [HX.out, HY.out]; exact b3))) (below_drewN BL.out _)
            go_quiet (fail)
            go_wp2
            go_roundw
            case rel => exact ⟨j + 1 + 1, by omega, by go_num, below_drewN BL.out _, ok_s Ho.out (by rw [HX.out]; simpa using a1) (by rw [HX.out]; simpa using a2) (by rw [HX.out]; simpa using a3) (by rw [HX.out, HY.out]; simpa using b1) (by rw [HX.out, HY.out]; simpa using b2) (by rw [HX.out, HY.out]; simpa using b3)⟩
            case measure => simp [intOf]; omega
        · have : k = n := by omega
          subst this
          go_wp2
          go_ret
          exact post_good (by simp [vld, Ho.out, Hl.out, Hr.out]; omega) hbel
    · have hl' : ((f 0).l != 0) = false := by simp [hl]
      have hr' : ((f 0).r != 0) = true := by simp [hr]
      have Hl := Lib.hid hl; clear hl
      have Hr := Lib.hid hr; clear hr
      go_enter Try.func19, Try.ntmps19
      go_wp2
      go_ret
      exact post_bad (by simp [vld, Hr.out]) (Below.refl _ _)
  · have hl' : ((f 0).l != 0) = true := by simp [hl]
    have Hl := Lib.hid hl; clear hl
    go_enter Try.func19, Try.ntmps19
    go_wp2
    go_ret
    exact post_bad (by simp [vld, Hl.out]) (Below.refl _ _)
theorem rchk_any (A : Option Addr) (n c : Nat) (f : Nat → St) (w : World) (h : SlS w A n f) : Calls Try.prog 19 #[.slice A n c] w (ChkPost w n f) := by
  rcases Nat.eq_zero_or_pos n with h0 | h0
  · subst h0; exact rchk_none A c f w
  rcases Nat.lt_or_ge 10 n with h1 | h1
  · exact rchk_long A n c f w h1 h.len
  · rcases h.row with h2 | ⟨b, off, rfl, hlt, hc⟩
    · omega
    · exact rchk_mid b off n c f w h0 h1 hlt hc

theorem rsel_bad (A : Option Addr) (n c : Nat) (f : Nat → St) (x l : Int) (w : World) (h : SlS w A n f) (hv : vld n f = false) :
    Calls Try.prog 17 #[.slice A n c, .int .u64 x, .int .u64 l] w (SelPost w n f x l) := by
  have C := rchk_any A n c f w h
  have HV := Lib.hid hv; clear hv
  go_enter Try.func17, Try.ntmps17
  go_wp2_with fail
  refine C.mono ?_
  rintro e w' ⟨rfl, hb⟩
  rw [HV.out]
  go_wp2
  go_ret2
  exact ⟨by rw [HV.out]; rfl, hb⟩
set_option maxRecDepth 100000 in
set_option maxHeartbeats 1000000 in
theorem rsel_good (b off n c : Nat) (f : Nat → St) (x l : Int) (w : World) (h : SlS w (some ⟨b, off, none⟩) n f) (hb : b < w.heap.size) (hc : Sts w b off n f) (hv : vld n f = true) :
    Calls Try.prog 17 #[.slice (some ⟨b, off, none⟩) n c, .int .u64 x, .int .u64 l] w (SelPost w n f x l) := by
  have C := rchk_any _ n c f w h
  have hn : n ≤ 10 := by simp [vld] at hv; omega
  have HV := Lib.hid hv; clear hv
  go_enter Try.func17, Try.ntmps17
  go_wp2_with fail
  refine C.mono ?_
  rintro e w0 ⟨rfl, hb0⟩
  rw [HV.out]
  go_wp2
  go_loopw [9, 10] (fun s i wr => ∃ k : Nat, k ≤ n ∧ i = .int .i64 k ∧ Below w.heap.size w wr ∧ s = .int .i64 (selTo f x l k : Nat)) (fun _ i _ => n - (intOf i).toNat)
  case atStart => exact ⟨0, Nat.zero_le _, rfl, hb0, rfl⟩
  case round =>
    obtain ⟨k, hk, rfl, hbel, rfl⟩ := hrel
    by_cases hlt : k < n
    · obtain ⟨d0, d1, d2⟩ := hc k hlt
      rw [← hbel.cell hb] at d0 d1 d2
      by_cases a1 : (f k).l ≤ l
      · by_cases a2 : (f k).r ≤ x
        · have E : Hid (selTo f x l (k + 1) = k) := by show _ = _; simp [selTo, a1, a2]
          go_wp2
          go_roundw
          case rel => exact ⟨k + 1, by omega, by go_num, hbel, by rw [E.out]⟩
          case measure => simp [intOf]; omega
        · have E : Hid (selTo f x l (k + 1) = selTo f x l k) := by show _ = _; simp [selTo, a2]
          go_wp2
          go_roundw
          case rel => exact ⟨k + 1, by omega, by go_num, hbel, by rw [E.out]⟩
          case measure => simp [intOf]; omega
      · have E : Hid (selTo f x l (k + 1) = selTo f x l k) := by show _ = _; simp [selTo, a1]
        go_wp2
        go_roundw
        case rel => exact ⟨k + 1, by omega, by go_num, hbel, by rw [E.out]⟩
        case measure => simp [intOf]; omega
    · have : k = n := by omega
      subst this
      go_wp2
      go_ret2
      exact ⟨by rw [HV.out]; rfl, hbel⟩
theorem rsel_any (A : Option Addr) (n c : Nat) (f : Nat → St) (x l : Int) (w : World) (h : SlS w A n f) : Calls Try.prog 17 #[.slice A n c, .int .u64 x, .int .u64 l] w (SelPost w n f x l) := by
  cases hv : vld n f
  · exact rsel_bad A n c f x l w h hv
  · rcases h.row with h0 | ⟨b, off, rfl, hlt, hc⟩
    · subst h0; simp [vld] at hv
    · exact rsel_good b off n c f x l w h hlt hc hv
theorem reng_bad (A : Option Addr) (n c : Nat) (f : Nat → St) (s d : Int) (w : World) (h : SlS w A n f) (hv : vld n f = false) :
    Calls Try.prog 21 #[.slice A n c, .int .i64 s, .int .u64 d] w (EngPost w n f s d) := by
  have C := rchk_any A n c f w h
  have HV := Lib.hid hv; clear hv
  go_enter Try.func21, Try.ntmps21
  go_wp2_with fail
  refine C.mono ?_
  rintro e w' ⟨rfl, hb⟩
  rw [HV.out]
  go_wp2
  go_ret2
  exact ⟨by simp [engOk, HV.out], hb⟩
set_option maxHeartbeats 1000000 in
theorem reng_out (A : Option Addr) (n c : Nat) (f : Nat → St) (s d : Int) (w : World) (h : SlS w A n f) (hv : vld n f = true) (ho : s < 0 ∨ n ≤ s ∨ 1099511627776 < d) :
    Calls Try.prog 21 #[.slice A n c, .int .i64 s, .int .u64 d] w (EngPost w n f s d) := by
  have C := rchk_any A n c f w h
  have hn := (vld_len hv).2.1
  have E : Hid (engOk n f s d = false) := by show _ = _; simp [engOk]; omega
  have HV := Lib.hid hv; clear hv
  have HO := Lib.hid ho; clear ho
  by_cases h1 : s < 0
  · clear HO
    go_enter Try.func21, Try.ntmps21
    go_wp2_with fail
    refine C.mono ?_
    rintro e w' ⟨rfl, hb⟩
    rw [HV.out]
    go_wp2
    go_ret2
    exact ⟨by rw [E.out]; rfl, hb⟩
  by_cases h2 : (n : Int) ≤ s
  · clear HO
    go_enter Try.func21, Try.ntmps21
    go_wp2_with fail
    refine C.mono ?_
    rintro e w' ⟨rfl, hb⟩
    rw [HV.out]
    go_wp2
    go_ret2
    exact ⟨by rw [E.out]; rfl, hb⟩
  have h3 : 1099511627776 < d := by have := HO.out; omega
  go_enter Try.func21, Try.ntmps21
  go_wp2_with fail
  refine C.mono ?_
  rintro e w' ⟨rfl, hb⟩
  rw [HV.out]
  go_wp2
  go_ret2
  exact ⟨by rw [E.out]; rfl, hb⟩
set_option maxRecDepth 100000 in
set_option maxHeartbeats 1000000 in
theorem reng_good (b off n c : Nat) (f : Nat → St) (s : Nat) (d : Int) (w : World) (h : SlS w (some ⟨b, off, none⟩) n f) (hb : b < w.heap.size) (hc : Sts w b off n f) (hv : vld n f = true) (hs : s < n) (hd0 : 0 ≤ d) (hd : d ≤ 1099511627776) :
    Calls Try.prog 21 #[.slice (some ⟨b, off, none⟩) n c, .int .i64 s, .int .u64 d] w (EngPost w n f s d) := by
  have C := rchk_any _ n c f w h
  have hn := (vld_len hv).2.1
  have E : Hid (engOk n f s d = true) := by show _ = _; simp [engOk, hv]; omega
  have BD := Lib.hid (fun k hk => eng_bd hv h.wf k hk d hd0 hd)
  have ST := Lib.hid (fun k (hk : k + 1 < n) => vld_step hv hk)
  have WF := Lib.hid h.wf
  have TP := Lib.hid (fun k (hk : k < n) => vld_top hv hk)
  have HC := Lib.hid hc
  obtain ⟨q0, q1, q2, q3⟩ := BD.out s hs
  have d2 := (hc s hs).2.2
  have HV := Lib.hid hv; clear hv hc
  generalize hP : (f s).p = P at *
  have HP := Lib.hid hP; clear hP
  clear q2 q3
  go_enter Try.func21, Try.ntmps21
  go_wp2_with fail
  refine C.mono ?_
  rintro e w0 ⟨rfl, hb0⟩
  rw [HV.out]
  rw [← hb0.cell hb] at d2
  go_wp2
  go_loopw [9, 10] (fun en i wr => ∃ j : Nat, j ≤ s ∧ i = .int .i64 (j + 1 : Int) ∧ en = .int .u64 (P * d + engTo f j) ∧ Below w.heap.size w wr) (fun _ i _ => s + 1 - (intOf i).toNat)
  case atStart => exact ⟨0, Nat.zero_le _, rfl, by simp [engTo], hb0⟩
  case round =>
    obtain ⟨j, hj, rfl, rfl, hbel⟩ := hrel
    by_cases hlt : j < s
    · have e2 := (HC.out j (by omega)).2.2
      obtain ⟨-, e4, e5⟩ := HC.out (j + 1) (by omega)
      rw [← hbel.cell hb] at e2 e4 e5
      have b1 := BD.out j (by omega)
      have b2 := BD.out (j + 1) (by omega)
      have b3 := ST.out j (by omega)
      have b4 := WF.out (j + 1) (by omega)
      have b5 := TP.out (j + 1) (by omega)
      have b6 := TP.out j (by omega)
      have EN : Hid (engTo f (j + 1) = engTo f j + ((f j).p - (f (j + 1)).p) * (f (j + 1)).r) := rfl
      have M1 : 0 ≤ ((f j).p - (f (j + 1)).p) * (f (j + 1)).r := Int.mul_nonneg (by omega) (by have := b4.2.1.1; omega)
      have M2 : P * d + (engTo f j + ((f j).p - (f (j + 1)).p) * (f (j + 1)).r) < 18446744073709551616 := by rw [← EN.out]; omega
      have M0 : 0 ≤ engTo f j := b1.2.2.1
      unfold U64 at b4
      generalize (f j).p = y at *
      generalize (f (j + 1)).p = x at *
      generalize (f (j + 1)).r = r at *
      generalize engTo f j = T at *
      have w3 : IntKind.u64.wrap (y - x) = y - x := IntWalk.u64_in _ (by omega)
      have w4 : IntKind.u64.wrap ((y - x) * r) = (y - x) * r := IntWalk.u64_in _ (by omega)
      have w5 : IntKind.u64.wrap (P * d + T + (y - x) * r) = P * d + T + (y - x) * r := IntWalk.u64_in _ (by omega)
      have w1 : IntKind.i64.wrap (j : Int) = (j : Int) := IntWalk.i64_in _ (by omega)
      have w2 : (j : Int) + 1 < n := by omega
      have w6 : (j : Int) < n := by omega
      have w7 : (0 : Int) ≤ (j : Int) + 1 := by omega
      have w8 : ((j : Int) + 1).toNat = j + 1 := by omega
      clear b1 b2 b3 b4 b5 b6 M1 M2 M0 q0 q1
      have WZ : Hid (IntKind.u64.wrap (P * d + T + IntKind.u64.wrap (IntKind.u64.wrap (y - x) * r)) = P * d + (T + (y - x) * r)) := by
        show _ = _
        rw [w3, w4, w5, Int.add_assoc]
      clear w3 w4 w5
      go_wp2_with fail
      go_quiet (fail)
      clear w1 w2 w6 w7 w8
      go_wp2
      go_roundw
      case rel => exact ⟨j + 1, by omega, by go_num, by rw [EN.out, WZ.out], below_drewN hbel _⟩
      case measure => simp [intOf]; omega
    · have : j = s := by omega
      subst this
      go_wp2
      go_ret2
      exact ⟨by rw [E.out]; simp [eng, HP.out], hbel⟩
theorem reng_any (A : Option Addr) (n c : Nat) (f : Nat → St) (s d : Int) (w : World) (h : SlS w A n f) (hd0 : 0 ≤ d) : Calls Try.prog 21 #[.slice A n c, .int .i64 s, .int .u64 d] w (EngPost w n f s d) := by
  cases hv : vld n f
  · exact reng_bad A n c f s d w h hv
  · by_cases ho : s < 0 ∨ n ≤ s ∨ 1099511627776 < d
    · exact reng_out A n c f s d w h hv ho
    · rcases h.row with h0 | ⟨b, off, rfl, hlt, hc⟩
      · subst h0; simp [vld] at hv
      · obtain ⟨k, rfl⟩ : ∃ k : Nat, s = k := ⟨s.toNat, by omega⟩
        exact reng_good b off n c f k d w h hlt hc hv (by omega) hd0 (by omega)
end Go.Proofs.Ytfbgkdjjfjlhhaa
