/- The walk of HotplugPowerBalance. -/
import Derived.Test.YtefciddekhmifaaBal
namespace Go.Proofs.Ytefciddekhmifaa
open Go.RowKit Go.ChangeShapes Go.WideShapes

theorem open_is {H : Type} {enc : TypeId × Value → H} {w : World} {a : Option Addr} {len cap : Nat} {d : DataW H} {p : List MemPlace}
    (h : DataW.Trod enc Try.prog w 0 (fun _ => true) true 23 (.slice a len cap) d p) : ∃ Z, Ns .i64 w a len Z ∧ len ≤ cap ∧ cap ≤ 9223372036854775807 := open_ns Try.underlying23 Try.underlying3 (by kernel_rfl) h
theorem open_us {H : Type} {enc : TypeId × Value → H} {w : World} {a : Option Addr} {len cap : Nat} {d : DataW H} {p : List MemPlace}
    (h : DataW.Trod enc Try.prog w 0 (fun _ => true) true 24 (.slice a len cap) d p) : ∃ Z, Ns .u64 w a len Z ∧ len ≤ cap ∧ cap ≤ 9223372036854775807 := open_ns Try.underlying24 Try.underlying22 (by kernel_rfl) h
theorem one_h {B : Nat} {w w0 : World} {st : Nat} {dl gd : Int} (h : SlB 43 w B st dl gd) (hs : okSt st) (hd : U64 dl) (ev now : Int) (hn : U64 now) (hB : Below B w0 w) (hBw : B ≤ w.heap.size) :
    Calls Try.prog 12 #[.pointer (some ⟨B, 0, none⟩), .int .i64 ev, .int .u64 now] w fun e w1 => ∃ A c, e = .returned (.tuple #[.slice A (hA st ev).length c, .int .i64 (hE st ev)]) ∧
      SlB 43 w1 B (hS st ev) dl (hG st ev dl gd now) ∧ IL .i64 B w1 A (hA st ev) ∧ Below B w0 w1 ∧ B ≤ w1.heap.size := by
  refine (hnd_a w B st dl gd ev now h hs hd hn).mono ?_
  rintro e w1 ⟨A, c, rfl, i1, s1, g1⟩
  exact ⟨A, c, rfl, s1, i1.mono hBw, hB.grown g1 hBw (fun j hj => by injection hj with hj; omega), by have := g1.size; omega⟩
theorem one_a {B : Nat} {w w0 : World} {st : Nat} {dl gd : Int} (h : SlB 43 w B st dl gd) (now : Int) (hB : Below B w0 w) (hBw : B ≤ w.heap.size) :
    Calls Try.prog 10 #[.pointer (some ⟨B, 0, none⟩), .int .u64 now] w fun e w1 => ∃ A c, e = .returned (.slice A (aA st gd now).length c) ∧
      SlB 43 w1 B (aS st gd now) dl gd ∧ IL .i64 B w1 A (aA st gd now) ∧ Below B w0 w1 ∧ B ≤ w1.heap.size := by
  refine (adv_a w B st dl gd now h).mono ?_
  rintro e w1 ⟨A, c, rfl, i1, s1, g1⟩
  exact ⟨A, c, rfl, s1, i1.mono hBw, hB.grown g1 hBw (fun j hj => by injection hj with hj; omega), by have := g1.size; omega⟩
set_option maxRecDepth 100000 in
set_option maxHeartbeats 8000000 in
theorem pb_walk (dlr : Int) (A : Option Addr) (n c : Nat) (Z : Nat → Int) (E : Option Addr) (m d : Nat) (Q : Nat → Int) (w : World) (wd : (Lit.int .u64 dlr).wf = true) (hZ' : Ns .i64 w A n Z ∧ n ≤ c ∧ c ≤ 9223372036854775807) (hQ' : Ns .u64 w E m Q ∧ m ≤ d ∧ d ≤ 9223372036854775807) :
    Calls Try.prog 4 #[.int .u64 dlr, .slice A n c, .slice E m d] w (LawPost w) := by
  have LP : Hid (∀ w', Below w.heap.size w w' → LawPost w (.returned (.bool true)) w') := fun _ h => ⟨rfl, h⟩
  obtain ⟨hZ, -⟩ := hZ'
  obtain ⟨hQ, -⟩ := hQ'
  have hdr := (u64_of_wf wd).1
  clear wd
  have hn := hZ.len
  have hm := hQ.len
  have HZ := Lib.hid hZ
  have HQ := Lib.hid hQ
  clear hZ hQ
  have hdm0 : 0 ≤ dlr % 6 := by omega
  have hdm1 : dlr % 6 ≤ 4294967296 := by omega
  have NEW := Lib.hid (new_a w false (dlr % 6) hdm1)
  go_enter Try.func4, Try.ntmps4
  go_wp2_with fail
  generalize dlr % 6 = dl0 at *
  refine NEW.out.mono ?_
  rintro e w1 ⟨rfl, S1, b1⟩
  have S1 : SlB 43 w1 w.heap.size 1 dl0 0 := S1
  have S1 := Lib.hid S1
  have B1 := Lib.hid b1
  clear b1 NEW
  go_wp2_with fail
  refine (awake_any _).mono ?_
  rintro e w3 ⟨rfl, b3⟩
  have P3 : Hid (SlB 43 w3 w.heap.size 1 dl0 0) := b_blk b3 S1.out
  have B3 := Lib.hid (bel2 B1.out b3)
  clear S1 B1 b3
  generalize hB : w.heap.size = B at *
  have HB := Lib.hid hB
  clear hB
  go_wp2_with fail
  go_loopw [12, 11, 9, 10] (fun i t on kn wr => ∃ (k st : Nat) (now gd : Int), k ≤ n ∧ k ≤ 90 ∧ i = .int .i64 k ∧ t = .int .u64 now ∧ on = .bool (onOf st) ∧ kn = .bool (knOf st) ∧ 0 ≤ now ∧ now ≤ 4 * k ∧ SlB 43 wr B st dl0 gd ∧ okSt st ∧ Below B w wr ∧ B ≤ wr.heap.size) (fun i _ _ _ _ => n - (intOf i).toNat)
  case atStart => exact ⟨0, 1, 0, 0, by omega, by omega, rfl, rfl, rfl, rfl, by omega, by omega, P3.out, by unfold okSt; omega, B3.out, by have := B3.out.size; have := HB.out; omega⟩
  case round =>
    clear P3 B3
    obtain ⟨k, st, now, gd, hk, hk9, rfl, rfl, rfl, rfl, t0, t1, PP, OK, BW, hsz⟩ := hrel
    by_cases hlt : k < n
    · by_cases h90 : k < 90
      · have _t : True := trivial
        have i9 : (k : Int) < 90 := by omega
        have i1 : (k : Int) < n := by omega
        obtain ⟨b, off, rfl, d0⟩ := HZ.out.at BW (by have := HB.out; omega) hlt
        generalize Z k = z at *
        by_cases hp : k < m
        · obtain ⟨b', off', rfl, d1⟩ := HQ.out.at BW (by have := HB.out; omega) hp
          have hq0 := (u64_of_wf (HQ.out.wf k hp)).1
          generalize Q k = q at *
          go_wp2_with fail
          refine (mod_any z 8 (by omega) (by omega) _).mono ?_
          rintro e w' ⟨rfl, rfl⟩
          go_upto_region 13 with fail
          have hv0 : 0 ≤ now + q % 5 := by omega
          have hv1 : now + q % 5 ≤ 4 * k + 4 := by omega
          generalize now + q % 5 = nv at *
          generalize ((modOf z 8 : Nat) : Int) = ev at *
          clear d0 d1 hq0
          have hU : U64 nv := ⟨by omega, by omega⟩
          have CH := Lib.hid (one_h PP OK ⟨hdm0, by omega⟩ ev nv hU BW hsz)
          have CA := Lib.hid (one_a PP nv BW hsz)
          have OKh := Lib.hid (okSt_h OK ev)
          have OKa := Lib.hid (okSt_a OK gd nv)
          have BLh := Lib.hid (bal_h OK ev)
          have BLa := Lib.hid (bal_a (st := st) gd nv)
          have LH := Lib.hid (len_h st ev)
          have LA := Lib.hid (len_a st gd nv)
          generalize hS st ev = sh at *
          generalize hG st ev dl0 gd nv = gh at *
          generalize hA st ev = lh at *
          generalize hE st ev = xh at *
          generalize aS st gd nv = sa at *
          generalize aA st gd nv = la at *
          generalize onOf st = on0 at *
          generalize knOf st = kn0 at *
          clear PP OK BW hsz
          by_cases h7 : ev = 7
          · have h7' : (ev == 7) = true := by simp [h7]
            have H7 := Lib.hid h7
            clear h7 CH OKh BLh LH
            go_wp2_with fail
            refine CA.out.mono ?_
            rintro e w4 ⟨A1, c1, rfl, P2, i1, B2, hs2⟩
            clear CA
            have P2 := Lib.hid P2
            have B2 := Lib.hid B2
            have S2 := Lib.hid hs2
            have CI : Hid (∀ i, i < la.length → ∃ b off, A1 = some ⟨b, off, none⟩ ∧ w4.cell? ⟨b, off + i, none⟩ = some (.int .i64 (la.getD i 0))) := fun i hi => by
              rcases i1 with h0 | ⟨b, off, hA, _, _, hc⟩
              · subst h0; simp at hi
              · exact ⟨b, off, hA, hc i hi⟩
            have hl2 : la.length ≤ 2 := LA.out
            clear i1 hs2
            obtain ⟨ll, hll⟩ : ∃ ll, la.length = ll := ⟨_, rfl⟩
            rw [hll] at hl2 CI ⊢
            have HLL := Lib.hid hll
            clear hll
            go_wp2_with fail
            go_loopw [15, 9, 10] (fun i on kn wr => ∃ (j : Nat) (a b : Bool), j ≤ ll ∧ i = .int .i64 j ∧ on = .bool a ∧ kn = .bool b ∧ Hid (brun (a, b) (la.drop j) = some (onOf sa, knOf sa)) ∧ wr = w4) (fun i _ _ _ => ll - (intOf i).toNat)
            case atStart => exact ⟨0, on0, kn0, by omega, rfl, rfl, rfl, BLa.out, rfl⟩
            case round =>
              obtain ⟨j, a, b, hj, rfl, rfl, rfl, BR, rfl⟩ := hrel
              by_cases hjl : j < ll
              · obtain ⟨bb, off, rfl, d0⟩ := CI.out j hjl
                obtain ⟨⟨a', b'⟩, e1, e2⟩ := brun_step BR.out (by rw [HLL.out]; exact hjl)
                have E2 := Lib.hid e2
                clear e2 BR
                have BC := bstep_cases e1
                clear e1
                generalize la.getD j 0 = x at *
                rcases BC with ⟨rfl, rfl, rfl, rfl⟩ | ⟨rfl, rfl, rfl, rfl, rfl⟩ | ⟨rfl, rfl, rfl, rfl, rfl⟩ | ⟨rfl, rfl, rfl, rfl⟩ | ⟨rfl, rfl, rfl, rfl⟩
                all_goals
                  go_wp2
                  go_roundw
                  case rel => exact ⟨j + 1, _, _, by omega, by go_num, rfl, rfl, E2, by first | rfl | trivial⟩
                  case measure => simp [intOf]; omega
              · have e := brun_end BR.out (by rw [HLL.out]; omega)
                injection e with ea eb
                clear BR
                have OS := on_kn OKa.out
                obtain ⟨os1, os2⟩ := OS
                have ST := Lib.hid (sta_any wr B sa dl0 gd P2.out)
                subst ea eb
                clear os1 os2
                have hk4 : k + 1 ≤ n := by omega
                have hk5 : k + 1 ≤ 90 := by omega
                have hv2 : nv ≤ 4 * ((k + 1 : Nat) : Int) := by omega
                have OS := OKa.out
                clear CI
                rcases OS with rfl | rfl | rfl | rfl | rfl | rfl
                · rw [show onOf 1 = false from rfl, show knOf 1 = false from rfl]
                  go_wp2_with (go_at_call 14; refine ST.out.mono ?_; rintro e w9 ⟨rfl, rfl⟩)
                  go_roundw
                  case rel => exact ⟨k + 1, 1, nv, gd, hk4, hk5, by go_num, rfl, rfl, rfl, hv0, hv2, P2.out, by unfold okSt; omega, B2.out, S2.out⟩
                  case measure => simp [intOf]; omega
                · rw [show onOf 2 = false from rfl, show knOf 2 = false from rfl]
                  go_wp2_with (go_at_call 14; refine ST.out.mono ?_; rintro e w9 ⟨rfl, rfl⟩)
                  go_roundw
                  case rel => exact ⟨k + 1, 2, nv, gd, hk4, hk5, by go_num, rfl, rfl, rfl, hv0, hv2, P2.out, by unfold okSt; omega, B2.out, S2.out⟩
                  case measure => simp [intOf]; omega
                · rw [show onOf 3 = true from rfl, show knOf 3 = false from rfl]
                  go_wp2_with (go_at_call 14; refine ST.out.mono ?_; rintro e w9 ⟨rfl, rfl⟩)
                  go_roundw
                  case rel => exact ⟨k + 1, 3, nv, gd, hk4, hk5, by go_num, rfl, rfl, rfl, hv0, hv2, P2.out, by unfold okSt; omega, B2.out, S2.out⟩
                  case measure => simp [intOf]; omega
                · rw [show onOf 4 = true from rfl, show knOf 4 = true from rfl]
                  go_wp2_with (go_at_call 14; refine ST.out.mono ?_; rintro e w9 ⟨rfl, rfl⟩)
                  go_roundw
                  case rel => exact ⟨k + 1, 4, nv, gd, hk4, hk5, by go_num, rfl, rfl, rfl, hv0, hv2, P2.out, by unfold okSt; omega, B2.out, S2.out⟩
                  case measure => simp [intOf]; omega
                · rw [show onOf 5 = true from rfl, show knOf 5 = true from rfl]
                  go_wp2_with (go_at_call 14; refine ST.out.mono ?_; rintro e w9 ⟨rfl, rfl⟩)
                  go_roundw
                  case rel => exact ⟨k + 1, 5, nv, gd, hk4, hk5, by go_num, rfl, rfl, rfl, hv0, hv2, P2.out, by unfold okSt; omega, B2.out, S2.out⟩
                  case measure => simp [intOf]; omega
                · rw [show onOf 6 = false from rfl, show knOf 6 = false from rfl]
                  go_wp2_with (go_at_call 14; refine ST.out.mono ?_; rintro e w9 ⟨rfl, rfl⟩)
                  go_roundw
                  case rel => exact ⟨k + 1, 6, nv, gd, hk4, hk5, by go_num, rfl, rfl, rfl, hv0, hv2, P2.out, by unfold okSt; omega, B2.out, S2.out⟩
                  case measure => simp [intOf]; omega
          · have h7' : (ev == 7) = false := by simp [h7]
            have H7 := Lib.hid h7
            clear h7 CA OKa BLa LA
            go_wp2_with fail
            refine CH.out.mono ?_
            rintro e w4 ⟨A1, c1, rfl, P2, i1, B2, hs2⟩
            clear CH
            have P2 := Lib.hid P2
            have B2 := Lib.hid B2
            have S2 := Lib.hid hs2
            have CI : Hid (∀ i, i < lh.length → ∃ b off, A1 = some ⟨b, off, none⟩ ∧ w4.cell? ⟨b, off + i, none⟩ = some (.int .i64 (lh.getD i 0))) := fun i hi => by
              rcases i1 with h0 | ⟨b, off, hA, _, _, hc⟩
              · subst h0; simp at hi
              · exact ⟨b, off, hA, hc i hi⟩
            have hl2 : lh.length ≤ 2 := LH.out
            clear i1 hs2
            obtain ⟨ll, hll⟩ : ∃ ll, lh.length = ll := ⟨_, rfl⟩
            rw [hll] at hl2 CI ⊢
            have HLL := Lib.hid hll
            clear hll
            go_wp2_with fail
            go_loopw [15, 9, 10] (fun i on kn wr => ∃ (j : Nat) (a b : Bool), j ≤ ll ∧ i = .int .i64 j ∧ on = .bool a ∧ kn = .bool b ∧ Hid (brun (a, b) (lh.drop j) = some (onOf sh, knOf sh)) ∧ wr = w4) (fun i _ _ _ => ll - (intOf i).toNat)
            case atStart => exact ⟨0, on0, kn0, by omega, rfl, rfl, rfl, BLh.out, rfl⟩
            case round =>
              obtain ⟨j, a, b, hj, rfl, rfl, rfl, BR, rfl⟩ := hrel
              by_cases hjl : j < ll
              · obtain ⟨bb, off, rfl, d0⟩ := CI.out j hjl
                obtain ⟨⟨a', b'⟩, e1, e2⟩ := brun_step BR.out (by rw [HLL.out]; exact hjl)
                have E2 := Lib.hid e2
                clear e2 BR
                have BC := bstep_cases e1
                clear e1
                generalize lh.getD j 0 = x at *
                rcases BC with ⟨rfl, rfl, rfl, rfl⟩ | ⟨rfl, rfl, rfl, rfl, rfl⟩ | ⟨rfl, rfl, rfl, rfl, rfl⟩ | ⟨rfl, rfl, rfl, rfl⟩ | ⟨rfl, rfl, rfl, rfl⟩
                all_goals
                  go_wp2
                  go_roundw
                  case rel => exact ⟨j + 1, _, _, by omega, by go_num, rfl, rfl, E2, by first | rfl | trivial⟩
                  case measure => simp [intOf]; omega
              · have e := brun_end BR.out (by rw [HLL.out]; omega)
                injection e with ea eb
                clear BR
                have OS := on_kn OKh.out
                obtain ⟨os1, os2⟩ := OS
                have ST := Lib.hid (sta_any wr B sh dl0 gh P2.out)
                subst ea eb
                clear os1 os2
                have hk4 : k + 1 ≤ n := by omega
                have hk5 : k + 1 ≤ 90 := by omega
                have hv2 : nv ≤ 4 * ((k + 1 : Nat) : Int) := by omega
                have OS := OKh.out
                clear CI
                rcases OS with rfl | rfl | rfl | rfl | rfl | rfl
                · rw [show onOf 1 = false from rfl, show knOf 1 = false from rfl]
                  go_wp2_with (go_at_call 14; refine ST.out.mono ?_; rintro e w9 ⟨rfl, rfl⟩)
                  go_roundw
                  case rel => exact ⟨k + 1, 1, nv, gh, hk4, hk5, by go_num, rfl, rfl, rfl, hv0, hv2, P2.out, by unfold okSt; omega, B2.out, S2.out⟩
                  case measure => simp [intOf]; omega
                · rw [show onOf 2 = false from rfl, show knOf 2 = false from rfl]
                  go_wp2_with (go_at_call 14; refine ST.out.mono ?_; rintro e w9 ⟨rfl, rfl⟩)
                  go_roundw
                  case rel => exact ⟨k + 1, 2, nv, gh, hk4, hk5, by go_num, rfl, rfl, rfl, hv0, hv2, P2.out, by unfold okSt; omega, B2.out, S2.out⟩
                  case measure => simp [intOf]; omega
                · rw [show onOf 3 = true from rfl, show knOf 3 = false from rfl]
                  go_wp2_with (go_at_call 14; refine ST.out.mono ?_; rintro e w9 ⟨rfl, rfl⟩)
                  go_roundw
                  case rel => exact ⟨k + 1, 3, nv, gh, hk4, hk5, by go_num, rfl, rfl, rfl, hv0, hv2, P2.out, by unfold okSt; omega, B2.out, S2.out⟩
                  case measure => simp [intOf]; omega
                · rw [show onOf 4 = true from rfl, show knOf 4 = true from rfl]
                  go_wp2_with (go_at_call 14; refine ST.out.mono ?_; rintro e w9 ⟨rfl, rfl⟩)
                  go_roundw
                  case rel => exact ⟨k + 1, 4, nv, gh, hk4, hk5, by go_num, rfl, rfl, rfl, hv0, hv2, P2.out, by unfold okSt; omega, B2.out, S2.out⟩
                  case measure => simp [intOf]; omega
                · rw [show onOf 5 = true from rfl, show knOf 5 = true from rfl]
                  go_wp2_with (go_at_call 14; refine ST.out.mono ?_; rintro e w9 ⟨rfl, rfl⟩)
                  go_roundw
                  case rel => exact ⟨k + 1, 5, nv, gh, hk4, hk5, by go_num, rfl, rfl, rfl, hv0, hv2, P2.out, by unfold okSt; omega, B2.out, S2.out⟩
                  case measure => simp [intOf]; omega
                · rw [show onOf 6 = false from rfl, show knOf 6 = false from rfl]
                  go_wp2_with (go_at_call 14; refine ST.out.mono ?_; rintro e w9 ⟨rfl, rfl⟩)
                  go_roundw
                  case rel => exact ⟨k + 1, 6, nv, gh, hk4, hk5, by go_num, rfl, rfl, rfl, hv0, hv2, P2.out, by unfold okSt; omega, B2.out, S2.out⟩
                  case measure => simp [intOf]; omega
        · go_wp2_with fail
          refine (mod_any z 8 (by omega) (by omega) _).mono ?_
          rintro e w' ⟨rfl, rfl⟩
          go_upto_region 13 with fail
          have hv0 : 0 ≤ now := by omega
          have hv1 : now ≤ 4 * k + 4 := by omega
          obtain ⟨nv, hnv⟩ : ∃ nv, now = nv := ⟨_, rfl⟩
          rw [hnv] at hv0 hv1 ⊢
          generalize ((modOf z 8 : Nat) : Int) = ev at *
          clear d0 hnv
          have hU : U64 nv := ⟨by omega, by omega⟩
          have CH := Lib.hid (one_h PP OK ⟨hdm0, by omega⟩ ev nv hU BW hsz)
          have CA := Lib.hid (one_a PP nv BW hsz)
          have OKh := Lib.hid (okSt_h OK ev)
          have OKa := Lib.hid (okSt_a OK gd nv)
          have BLh := Lib.hid (bal_h OK ev)
          have BLa := Lib.hid (bal_a (st := st) gd nv)
          have LH := Lib.hid (len_h st ev)
          have LA := Lib.hid (len_a st gd nv)
          generalize hS st ev = sh at *
          generalize hG st ev dl0 gd nv = gh at *
          generalize hA st ev = lh at *
          generalize hE st ev = xh at *
          generalize aS st gd nv = sa at *
          generalize aA st gd nv = la at *
          generalize onOf st = on0 at *
          generalize knOf st = kn0 at *
          clear PP OK BW hsz
          by_cases h7 : ev = 7
          · have h7' : (ev == 7) = true := by simp [h7]
            have H7 := Lib.hid h7
            clear h7 CH OKh BLh LH
            go_wp2_with fail
            refine CA.out.mono ?_
            rintro e w4 ⟨A1, c1, rfl, P2, i1, B2, hs2⟩
            clear CA
            have P2 := Lib.hid P2
            have B2 := Lib.hid B2
            have S2 := Lib.hid hs2
            have CI : Hid (∀ i, i < la.length → ∃ b off, A1 = some ⟨b, off, none⟩ ∧ w4.cell? ⟨b, off + i, none⟩ = some (.int .i64 (la.getD i 0))) := fun i hi => by
              rcases i1 with h0 | ⟨b, off, hA, _, _, hc⟩
              · subst h0; simp at hi
              · exact ⟨b, off, hA, hc i hi⟩
            have hl2 : la.length ≤ 2 := LA.out
            clear i1 hs2
            obtain ⟨ll, hll⟩ : ∃ ll, la.length = ll := ⟨_, rfl⟩
            rw [hll] at hl2 CI ⊢
            have HLL := Lib.hid hll
            clear hll
            go_wp2_with fail
            go_loopw [15, 9, 10] (fun i on kn wr => ∃ (j : Nat) (a b : Bool), j ≤ ll ∧ i = .int .i64 j ∧ on = .bool a ∧ kn = .bool b ∧ Hid (brun (a, b) (la.drop j) = some (onOf sa, knOf sa)) ∧ wr = w4) (fun i _ _ _ => ll - (intOf i).toNat)
            case atStart => exact ⟨0, on0, kn0, by omega, rfl, rfl, rfl, BLa.out, rfl⟩
            case round =>
              obtain ⟨j, a, b, hj, rfl, rfl, rfl, BR, rfl⟩ := hrel
              by_cases hjl : j < ll
              · obtain ⟨bb, off, rfl, d0⟩ := CI.out j hjl
                obtain ⟨⟨a', b'⟩, e1, e2⟩ := brun_step BR.out (by rw [HLL.out]; exact hjl)
                have E2 := Lib.hid e2
                clear e2 BR
                have BC := bstep_cases e1
                clear e1
                generalize la.getD j 0 = x at *
                rcases BC with ⟨rfl, rfl, rfl, rfl⟩ | ⟨rfl, rfl, rfl, rfl, rfl⟩ | ⟨rfl, rfl, rfl, rfl, rfl⟩ | ⟨rfl, rfl, rfl, rfl⟩ | ⟨rfl, rfl, rfl, rfl⟩
                all_goals
                  go_wp2
                  go_roundw
                  case rel => exact ⟨j + 1, _, _, by omega, by go_num, rfl, rfl, E2, by first | rfl | trivial⟩
                  case measure => simp [intOf]; omega
              · have e := brun_end BR.out (by rw [HLL.out]; omega)
                injection e with ea eb
                clear BR
                have OS := on_kn OKa.out
                obtain ⟨os1, os2⟩ := OS
                have ST := Lib.hid (sta_any wr B sa dl0 gd P2.out)
                subst ea eb
                clear os1 os2
                have hk4 : k + 1 ≤ n := by omega
                have hk5 : k + 1 ≤ 90 := by omega
                have hv2 : nv ≤ 4 * ((k + 1 : Nat) : Int) := by omega
                have OS := OKa.out
                clear CI
                rcases OS with rfl | rfl | rfl | rfl | rfl | rfl
                · rw [show onOf 1 = false from rfl, show knOf 1 = false from rfl]
                  go_wp2_with (go_at_call 14; refine ST.out.mono ?_; rintro e w9 ⟨rfl, rfl⟩)
                  go_roundw
                  case rel => exact ⟨k + 1, 1, nv, gd, hk4, hk5, by go_num, rfl, rfl, rfl, hv0, hv2, P2.out, by unfold okSt; omega, B2.out, S2.out⟩
                  case measure => simp [intOf]; omega
                · rw [show onOf 2 = false from rfl, show knOf 2 = false from rfl]
                  go_wp2_with (go_at_call 14; refine ST.out.mono ?_; rintro e w9 ⟨rfl, rfl⟩)
                  go_roundw
                  case rel => exact ⟨k + 1, 2, nv, gd, hk4, hk5, by go_num, rfl, rfl, rfl, hv0, hv2, P2.out, by unfold okSt; omega, B2.out, S2.out⟩
                  case measure => simp [intOf]; omega
                · rw [show onOf 3 = true from rfl, show knOf 3 = false from rfl]
                  go_wp2_with (go_at_call 14; refine ST.out.mono ?_; rintro e w9 ⟨rfl, rfl⟩)
                  go_roundw
                  case rel => exact ⟨k + 1, 3, nv, gd, hk4, hk5, by go_num, rfl, rfl, rfl, hv0, hv2, P2.out, by unfold okSt; omega, B2.out, S2.out⟩
                  case measure => simp [intOf]; omega
                · rw [show onOf 4 = true from rfl, show knOf 4 = true from rfl]
                  go_wp2_with (go_at_call 14; refine ST.out.mono ?_; rintro e w9 ⟨rfl, rfl⟩)
                  go_roundw
                  case rel => exact ⟨k + 1, 4, nv, gd, hk4, hk5, by go_num, rfl, rfl, rfl, hv0, hv2, P2.out, by unfold okSt; omega, B2.out, S2.out⟩
                  case measure => simp [intOf]; omega
                · rw [show onOf 5 = true from rfl, show knOf 5 = true from rfl]
                  go_wp2_with (go_at_call 14; refine ST.out.mono ?_; rintro e w9 ⟨rfl, rfl⟩)
                  go_roundw
                  case rel => exact ⟨k + 1, 5, nv, gd, hk4, hk5, by go_num, rfl, rfl, rfl, hv0, hv2, P2.out, by unfold okSt; omega, B2.out, S2.out⟩
                  case measure => simp [intOf]; omega
                · rw [show onOf 6 = false from rfl, show knOf 6 = false from rfl]
                  go_wp2_with (go_at_call 14; refine ST.out.mono ?_; rintro e w9 ⟨rfl, rfl⟩)
                  go_roundw
                  case rel => exact ⟨k + 1, 6, nv, gd, hk4, hk5, by go_num, rfl, rfl, rfl, hv0, hv2, P2.out, by unfold okSt; omega, B2.out, S2.out⟩
                  case measure => simp [intOf]; omega
          · have h7' : (ev == 7) = false := by simp [h7]
            have H7 := Lib.hid h7
            clear h7 CA OKa BLa LA
            go_wp2_with fail
            refine CH.out.mono ?_
            rintro e w4 ⟨A1, c1, rfl, P2, i1, B2, hs2⟩
            clear CH
            have P2 := Lib.hid P2
            have B2 := Lib.hid B2
            have S2 := Lib.hid hs2
            have CI : Hid (∀ i, i < lh.length → ∃ b off, A1 = some ⟨b, off, none⟩ ∧ w4.cell? ⟨b, off + i, none⟩ = some (.int .i64 (lh.getD i 0))) := fun i hi => by
              rcases i1 with h0 | ⟨b, off, hA, _, _, hc⟩
              · subst h0; simp at hi
              · exact ⟨b, off, hA, hc i hi⟩
            have hl2 : lh.length ≤ 2 := LH.out
            clear i1 hs2
            obtain ⟨ll, hll⟩ : ∃ ll, lh.length = ll := ⟨_, rfl⟩
            rw [hll] at hl2 CI ⊢
            have HLL := Lib.hid hll
            clear hll
            go_wp2_with fail
            go_loopw [15, 9, 10] (fun i on kn wr => ∃ (j : Nat) (a b : Bool), j ≤ ll ∧ i = .int .i64 j ∧ on = .bool a ∧ kn = .bool b ∧ Hid (brun (a, b) (lh.drop j) = some (onOf sh, knOf sh)) ∧ wr = w4) (fun i _ _ _ => ll - (intOf i).toNat)
            case atStart => exact ⟨0, on0, kn0, by omega, rfl, rfl, rfl, BLh.out, rfl⟩
            case round =>
              obtain ⟨j, a, b, hj, rfl, rfl, rfl, BR, rfl⟩ := hrel
              by_cases hjl : j < ll
              · obtain ⟨bb, off, rfl, d0⟩ := CI.out j hjl
                obtain ⟨⟨a', b'⟩, e1, e2⟩ := brun_step BR.out (by rw [HLL.out]; exact hjl)
                have E2 := Lib.hid e2
                clear e2 BR
                have BC := bstep_cases e1
                clear e1
                generalize lh.getD j 0 = x at *
                rcases BC with ⟨rfl, rfl, rfl, rfl⟩ | ⟨rfl, rfl, rfl, rfl, rfl⟩ | ⟨rfl, rfl, rfl, rfl, rfl⟩ | ⟨rfl, rfl, rfl, rfl⟩ | ⟨rfl, rfl, rfl, rfl⟩
                all_goals
                  go_wp2
                  go_roundw
                  case rel => exact ⟨j + 1, _, _, by omega, by go_num, rfl, rfl, E2, by first | rfl | trivial⟩
                  case measure => simp [intOf]; omega
              · have e := brun_end BR.out (by rw [HLL.out]; omega)
                injection e with ea eb
                clear BR
                have OS := on_kn OKh.out
                obtain ⟨os1, os2⟩ := OS
                have ST := Lib.hid (sta_any wr B sh dl0 gh P2.out)
                subst ea eb
                clear os1 os2
                have hk4 : k + 1 ≤ n := by omega
                have hk5 : k + 1 ≤ 90 := by omega
                have hv2 : nv ≤ 4 * ((k + 1 : Nat) : Int) := by omega
                have OS := OKh.out
                clear CI
                rcases OS with rfl | rfl | rfl | rfl | rfl | rfl
                · rw [show onOf 1 = false from rfl, show knOf 1 = false from rfl]
                  go_wp2_with (go_at_call 14; refine ST.out.mono ?_; rintro e w9 ⟨rfl, rfl⟩)
                  go_roundw
                  case rel => exact ⟨k + 1, 1, nv, gh, hk4, hk5, by go_num, rfl, rfl, rfl, hv0, hv2, P2.out, by unfold okSt; omega, B2.out, S2.out⟩
                  case measure => simp [intOf]; omega
                · rw [show onOf 2 = false from rfl, show knOf 2 = false from rfl]
                  go_wp2_with (go_at_call 14; refine ST.out.mono ?_; rintro e w9 ⟨rfl, rfl⟩)
                  go_roundw
                  case rel => exact ⟨k + 1, 2, nv, gh, hk4, hk5, by go_num, rfl, rfl, rfl, hv0, hv2, P2.out, by unfold okSt; omega, B2.out, S2.out⟩
                  case measure => simp [intOf]; omega
                · rw [show onOf 3 = true from rfl, show knOf 3 = false from rfl]
                  go_wp2_with (go_at_call 14; refine ST.out.mono ?_; rintro e w9 ⟨rfl, rfl⟩)
                  go_roundw
                  case rel => exact ⟨k + 1, 3, nv, gh, hk4, hk5, by go_num, rfl, rfl, rfl, hv0, hv2, P2.out, by unfold okSt; omega, B2.out, S2.out⟩
                  case measure => simp [intOf]; omega
                · rw [show onOf 4 = true from rfl, show knOf 4 = true from rfl]
                  go_wp2_with (go_at_call 14; refine ST.out.mono ?_; rintro e w9 ⟨rfl, rfl⟩)
                  go_roundw
                  case rel => exact ⟨k + 1, 4, nv, gh, hk4, hk5, by go_num, rfl, rfl, rfl, hv0, hv2, P2.out, by unfold okSt; omega, B2.out, S2.out⟩
                  case measure => simp [intOf]; omega
                · rw [show onOf 5 = true from rfl, show knOf 5 = true from rfl]
                  go_wp2_with (go_at_call 14; refine ST.out.mono ?_; rintro e w9 ⟨rfl, rfl⟩)
                  go_roundw
                  case rel => exact ⟨k + 1, 5, nv, gh, hk4, hk5, by go_num, rfl, rfl, rfl, hv0, hv2, P2.out, by unfold okSt; omega, B2.out, S2.out⟩
                  case measure => simp [intOf]; omega
                · rw [show onOf 6 = false from rfl, show knOf 6 = false from rfl]
                  go_wp2_with (go_at_call 14; refine ST.out.mono ?_; rintro e w9 ⟨rfl, rfl⟩)
                  go_roundw
                  case rel => exact ⟨k + 1, 6, nv, gh, hk4, hk5, by go_num, rfl, rfl, rfl, hv0, hv2, P2.out, by unfold okSt; omega, B2.out, S2.out⟩
                  case measure => simp [intOf]; omega
      · have i9 : ¬ (k : Int) < 90 := by omega
        go_wp2
        go_ret
        exact LP.out _ BW
    · go_wp2
      go_ret
      exact LP.out _ BW
end Go.Proofs.Ytefciddekhmifaa
