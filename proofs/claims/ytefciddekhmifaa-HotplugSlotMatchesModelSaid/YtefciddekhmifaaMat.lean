/- The walk of HotplugSlotMatchesModel. -/
import Derived.Test.YtefciddekhmifaaAwk
namespace Go.Proofs.Ytefciddekhmifaa
open Go.RowKit

/-- The slot at L1 and its model at L2, apart, in the same state. -/
structure Pair (B : Nat) (w : World) (L1 L2 st : Nat) (dl gd : Int) : Prop where
  a : SlB 43 w L1 st dl gd
  b : SlB 39 w L2 st dl gd
  ne : L1 ≠ L2
  h1 : B ≤ L1
  h2 : B ≤ L2
theorem pair_h {B : Nat} {w w0 : World} {L1 L2 st : Nat} {dl gd : Int} (h : Pair B w L1 L2 st dl gd) (hs : okSt st) (hd : U64 dl) (ev now : Int) (hn : U64 now) (hB : Below B w0 w) (hBw : B ≤ w.heap.size) :
    Calls Try.prog 12 #[.pointer (some ⟨L1, 0, none⟩), .int .i64 ev, .int .u64 now] w fun e w1 => ∃ A c, e = .returned (.tuple #[.slice A (hA st ev).length c, .int .i64 (hE st ev)]) ∧
      Calls Try.prog 13 #[.pointer (some ⟨L2, 0, none⟩), .int .i64 ev, .int .u64 now] w1 fun e' w2 => ∃ A' c', e' = .returned (.tuple #[.slice A' (hA st ev).length c', .int .i64 (hE st ev)]) ∧
        Pair B w2 L1 L2 (hS st ev) dl (hG st ev dl gd now) ∧ IL .i64 B w2 A (hA st ev) ∧ IL .i64 B w2 A' (hA st ev) ∧ Below B w0 w2 ∧ B ≤ w2.heap.size := by
  refine (hnd_a w L1 st dl gd ev now h.a hs hd hn).mono ?_
  rintro e w1 ⟨A, c, rfl, i1, s1, g1⟩
  have s2 := g_blk g1 h.b (fun e => h.ne e.symm)
  refine ⟨A, c, rfl, (rhd_any w1 L2 st dl gd ev now s2 hs hd hn).mono ?_⟩
  rintro e w2 ⟨A', c', rfl, i2, s3, g2⟩
  have hl := blk_lt h.b
  refine ⟨A', c', rfl, ⟨g_blk g2 s1 h.ne, s3, h.ne, h.h1, h.h2⟩, (il_grown i1 g2 (by omega)).mono hBw, i2.mono (by have := g1.size; omega), ?_, ?_⟩
  · exact (hB.grown g1 hBw (fun j hj => by injection hj with hj; have := h.h1; omega)).grown g2 (by have := g1.size; omega) (fun j hj => by injection hj with hj; have := h.h2; omega)
  · have := g1.size; have := g2.size; omega
theorem pair_a {B : Nat} {w w0 : World} {L1 L2 st : Nat} {dl gd : Int} (h : Pair B w L1 L2 st dl gd) (now : Int) (hB : Below B w0 w) (hBw : B ≤ w.heap.size) :
    Calls Try.prog 10 #[.pointer (some ⟨L1, 0, none⟩), .int .u64 now] w fun e w1 => ∃ A c, e = .returned (.slice A (aA st gd now).length c) ∧
      Calls Try.prog 11 #[.pointer (some ⟨L2, 0, none⟩), .int .u64 now] w1 fun e' w2 => ∃ A' c', e' = .returned (.slice A' (aA st gd now).length c') ∧
        Pair B w2 L1 L2 (aS st gd now) dl gd ∧ IL .i64 B w2 A (aA st gd now) ∧ IL .i64 B w2 A' (aA st gd now) ∧ Below B w0 w2 ∧ B ≤ w2.heap.size := by
  refine (adv_a w L1 st dl gd now h.a).mono ?_
  rintro e w1 ⟨A, c, rfl, i1, s1, g1⟩
  have s2 := g_blk g1 h.b (fun e => h.ne e.symm)
  refine ⟨A, c, rfl, (adv_b w1 L2 st dl gd now s2).mono ?_⟩
  rintro e w2 ⟨A', c', rfl, i2, s3, g2⟩
  have hl := blk_lt h.b
  refine ⟨A', c', rfl, ⟨g_blk g2 s1 h.ne, s3, h.ne, h.h1, h.h2⟩, (il_grown i1 g2 (by omega)).mono hBw, i2.mono (by have := g1.size; omega), ?_, ?_⟩
  · exact (hB.grown g1 hBw (fun j hj => by injection hj with hj; have := h.h1; omega)).grown g2 (by have := g1.size; omega) (fun j hj => by injection hj with hj; have := h.h2; omega)
  · have := g1.size; have := g2.size; omega
theorem Pair.below {B : Nat} {w w' : World} {L1 L2 st : Nat} {dl gd : Int} (h : Pair B w L1 L2 st dl gd) (hb : Below w.heap.size w w') : Pair B w' L1 L2 st dl gd := ⟨b_blk hb h.a, b_blk hb h.b, h.ne, h.h1, h.h2⟩
theorem sta_c (w : World) (L st : Nat) (c0 : w.cell? ⟨L, 0, none⟩ = some (.int .i64 (st : Int))) : Calls Try.prog 14 #[.pointer (some ⟨L, 0, none⟩)] w fun e w' => e = .returned (.int .i64 (st : Int)) ∧ w = w' := by
  go_enter Try.func14, Try.ntmps14
  go_wp2
  go_ret
  exact ⟨rfl, rfl⟩
theorem open_is {H : Type} {enc : TypeId × Value → H} {w : World} {a : Option Addr} {len cap : Nat} {d : DataW H} {p : List MemPlace}
    (h : DataW.Trod enc Try.prog w 0 (fun _ => true) true 23 (.slice a len cap) d p) : ∃ Z, Ns .i64 w a len Z ∧ len ≤ cap ∧ cap ≤ 9223372036854775807 := open_ns Try.underlying23 Try.underlying3 (by kernel_rfl) h
theorem open_us {H : Type} {enc : TypeId × Value → H} {w : World} {a : Option Addr} {len cap : Nat} {d : DataW H} {p : List MemPlace}
    (h : DataW.Trod enc Try.prog w 0 (fun _ => true) true 24 (.slice a len cap) d p) : ∃ Z, Ns .u64 w a len Z ∧ len ≤ cap ∧ cap ≤ 9223372036854775807 := open_ns Try.underlying24 Try.underlying22 (by kernel_rfl) h
set_option maxRecDepth 100000 in
set_option maxHeartbeats 8000000 in
theorem mat_walk (p : Bool) (dlr : Int) (A : Option Addr) (n c : Nat) (Z : Nat → Int) (E : Option Addr) (m d : Nat) (Q : Nat → Int) (w : World) (wd : (Lit.int .u64 dlr).wf = true) (hZ' : Ns .i64 w A n Z ∧ n ≤ c ∧ c ≤ 9223372036854775807) (hQ' : Ns .u64 w E m Q ∧ m ≤ d ∧ d ≤ 9223372036854775807) :
    Calls Try.prog 3 #[.bool p, .int .u64 dlr, .slice A n c, .slice E m d] w (LawPost w) := by
  have LP : Hid (∀ w', Below w.heap.size w w' → LawPost w (.returned (.bool true)) w') := fun _ h => ⟨rfl, h⟩
  obtain ⟨hZ, -⟩ := hZ'
  obtain ⟨hQ, -⟩ := hQ'
  have hdr := (u64_of_wf wd).1
  clear wd
  have hn := hZ.len
  have hm := hQ.len
  have HZ := Lib.hid hZ
  have HQ := Lib.hid hQ
  clear hZ hQ
  go_enter Try.func3, Try.ntmps3
  go_upto_if 22 with fail
  go_cut [1] (fun v wx => ∃ dl0 : Int, v = .int .u64 dl0 ∧ 0 ≤ dl0 ∧ dl0 ≤ 4294967296 ∧ w = wx)
  case first =>
    by_cases hbig : 4294967296 < dlr
    · go_wp2_with fail
      refine (new_bad w p dlr hbig).mono ?_
      rintro e w' ⟨rfl, rfl⟩
      go_wp2
      go_meet
      exact ⟨dlr % 6, rfl, by omega, by omega, rfl⟩
    · go_wp2
      go_meet
      exact ⟨dlr, rfl, by omega, by omega, rfl⟩
  case rest =>
    obtain ⟨dl0, rfl, hd0, hd1, rfl⟩ := hcut
    clear hdr
    go_wp2_with fail
    refine (new_a w p dl0 hd1).mono ?_
    rintro e w1 ⟨rfl, S1, b1⟩
    have hL1 := blk_lt S1
    have S1 := Lib.hid S1
    have B1 := Lib.hid b1
    clear b1
    go_wp2_with fail
    refine (new_b w1 p dl0).mono ?_
    rintro e w2 ⟨rfl, S2, b2⟩
    have hL2 := blk_lt S2
    have P0 : Pair w.heap.size w2 w.heap.size w1.heap.size (newSt p) dl0 0 := ⟨b_blk b2 S1.out, S2, by omega, Nat.le_refl _, B1.out.size⟩
    have OK0 : Hid (okSt (newSt p)) := by show okSt _; unfold okSt newSt; cases p <;> simp
    have B2 := Lib.hid (bel2 B1.out b2)
    have P0 := Lib.hid P0
    generalize newSt p = st0 at *
    clear S1 S2 B1 b2
    generalize hL : w1.heap.size = L2 at *
    clear hL
    go_wp2_with fail
    refine (awake_any _).mono ?_
    rintro e w3 ⟨rfl, b3⟩
    have P3 := Lib.hid (P0.out.below b3)
    have B3 := Lib.hid (bel2 B2.out b3)
    clear P0 B2 b3 hL1 hL2
    generalize hB : w.heap.size = B at *
    have HB := Lib.hid hB
    clear hB
    go_wp2_with fail
    go_loopw [15, 14] (fun i t wr => ∃ (k st : Nat) (now gd : Int), k ≤ n ∧ k ≤ 90 ∧ i = .int .i64 k ∧ t = .int .u64 now ∧ 0 ≤ now ∧ now ≤ 4 * k ∧ Pair B wr B L2 st dl0 gd ∧ okSt st ∧ Below B w wr ∧ B ≤ wr.heap.size) (fun i _ _ => n - (intOf i).toNat)
    case atStart => exact ⟨0, st0, 0, 0, by omega, by omega, rfl, rfl, by omega, by omega, P3.out, OK0.out, B3.out, by have := B3.out.size; have := HB.out; omega⟩
    case round =>
      clear P3 B3 OK0
      obtain ⟨k, st, now, gd, hk, hk9, rfl, rfl, t0, t1, PP, OK, BW, hsz⟩ := hrel
      by_cases hlt : k < n
      · by_cases h90 : k < 90
        · have _t : True := trivial
          have i9 : (k : Int) < 90 := by omega
          have i1 : (k : Int) < n := by omega
          obtain ⟨b, off, rfl, d0⟩ := HZ.out.at BW (by have := HB.out; omega) hlt
          generalize Z k = z at *
          by_cases hp : k < m
          · obtain ⟨b', off', rfl, d1⟩ := HQ.out.at BW (by have := HB.out; omega) hp
            have hq0 := (u64_of_wf (HQ.out.wf k hp)).1
            generalize Q k = q at *
            by_cases h7 : k = 7
            · have h7' : ((k : Int) == 7) = true := by simp [h7]
              have H7 := Lib.hid h7
              clear h7
              go_wp2_with fail
              refine (mod_any z 9 (by omega) (by omega) _).mono ?_
              rintro e w' ⟨rfl, rfl⟩
              go_upto_region 19 with fail
              have hv0 : 0 ≤ now + q % 5 := by omega
              have hv1 : now + q % 5 ≤ 4 * k + 4 := by omega
              generalize now + q % 5 = nv at *
              obtain ⟨ev, hev⟩ : ∃ ev, z = ev := ⟨_, rfl⟩
              rw [hev] at d0 ⊢
              clear d0 d1 hev hq0 h7'
              have hU : U64 nv := ⟨by omega, by omega⟩
              have CH := Lib.hid (pair_h PP OK ⟨hd0, by omega⟩ ev nv hU BW hsz)
              have CA := Lib.hid (pair_a PP nv BW hsz)
              have OKh := Lib.hid (okSt_h OK ev)
              have OKa := Lib.hid (okSt_a OK gd nv)
              have LH := Lib.hid (len_h st ev)
              have LA := Lib.hid (len_a st gd nv)
              generalize hS st ev = sh at *
              generalize hG st ev dl0 gd nv = gh at *
              generalize hA st ev = lh at *
              generalize hE st ev = xh at *
              generalize aS st gd nv = sa at *
              generalize aA st gd nv = la at *
              clear PP OK BW hsz
              by_cases h8 : ev = 8
              · have h8' : (ev == 8) = true := by simp [h8]
                have H8 := Lib.hid h8
                clear h8 CH
                go_wp2_with fail
                refine CA.out.mono ?_
                rintro e w4 ⟨A1, c1, rfl, C2⟩
                have C2 := Lib.hid C2
                clear CA
                go_wp2_with fail
                refine C2.out.mono ?_
                rintro e w5 ⟨A2, c2, rfl, P2, i1, i2, B2, hs2⟩
                clear C2
                have P2 := Lib.hid P2
                have B2 := Lib.hid B2
                have EQ := Lib.hid (eq_yes A1 A2 c1 c2 B B la _ w5 rfl i1 i2 (by have := LA.out; omega))
                clear i1 i2
                go_wp2_with fail
                refine EQ.out.mono ?_
                rintro e w6 ⟨rfl, b3⟩
                clear EQ
                have P3 := P2.out.below b3
                have B3 := B2.out.trans (b3.mono hs2)
                have s3 : B ≤ w6.heap.size := by have := b3.size; omega
                clear P2 B2 hs2
                have x1 := P3.a.c0
                have x2 := P3.b.c0
                have P3 := Lib.hid P3
                have B3 := Lib.hid B3
                have S3 := Lib.hid s3
                clear b3 s3
                go_upto_region 26 with fail
                go_region_held3 (fun w' => w'.cell? ⟨B, 0, none⟩ = some (.int .i64 (sa : Int)) ∧ w'.cell? ⟨L2, 0, none⟩ = some (.int .i64 (sa : Int))) (go_keep) ((go_at_call 14; go_split_ands; refine (sta_c _ B sa (by assumption)).mono ?_; rintro e w9 ⟨rfl, rfl⟩))
                go_wp2
                go_roundw
                case rel => exact ⟨k + 1, sa, nv, gd, by omega, by omega, by go_num, rfl, by omega, by omega, P3.out.below (Below.refl _ _).drew, OKa.out, B3.out.drew, S3.out⟩
                case measure => simp [intOf]; omega

              · have h8' : (ev == 8) = false := by simp [h8]
                have H8 := Lib.hid h8
                clear h8 CA
                go_wp2_with fail
                refine CH.out.mono ?_
                rintro e w4 ⟨A1, c1, rfl, C2⟩
                have C2 := Lib.hid C2
                clear CH
                go_wp2_with fail
                refine C2.out.mono ?_
                rintro e w5 ⟨A2, c2, rfl, P2, i1, i2, B2, hs2⟩
                clear C2
                have P2 := Lib.hid P2
                have B2 := Lib.hid B2
                have EQ := Lib.hid (eq_yes A1 A2 c1 c2 B B lh _ w5 rfl i1 i2 (by have := LH.out; omega))
                clear i1 i2
                go_wp2_with fail
                refine EQ.out.mono ?_
                rintro e w6 ⟨rfl, b3⟩
                clear EQ
                have P3 := P2.out.below b3
                have B3 := B2.out.trans (b3.mono hs2)
                have s3 : B ≤ w6.heap.size := by have := b3.size; omega
                clear P2 B2 hs2
                have x1 := P3.a.c0
                have x2 := P3.b.c0
                have P3 := Lib.hid P3
                have B3 := Lib.hid B3
                have S3 := Lib.hid s3
                clear b3 s3
                go_upto_region 26 with fail
                go_region_held3 (fun w' => w'.cell? ⟨B, 0, none⟩ = some (.int .i64 (sh : Int)) ∧ w'.cell? ⟨L2, 0, none⟩ = some (.int .i64 (sh : Int))) (go_keep) ((go_at_call 14; go_split_ands; refine (sta_c _ B sh (by assumption)).mono ?_; rintro e w9 ⟨rfl, rfl⟩))
                go_wp2
                go_roundw
                case rel => exact ⟨k + 1, sh, nv, gh, by omega, by omega, by go_num, rfl, by omega, by omega, P3.out.below (Below.refl _ _).drew, OKh.out, B3.out.drew, S3.out⟩
                case measure => simp [intOf]; omega
            · have h7' : ((k : Int) == 7) = false := by simp; omega
              clear h7
              go_wp2_with fail
              refine (mod_any z 9 (by omega) (by omega) _).mono ?_
              rintro e w' ⟨rfl, rfl⟩
              go_upto_region 19 with fail
              have hv0 : 0 ≤ now + q % 5 := by omega
              have hv1 : now + q % 5 ≤ 4 * k + 4 := by omega
              generalize now + q % 5 = nv at *
              generalize ((modOf z 9 : Nat) : Int) = ev at *
              clear d0 d1 hq0 h7'
              have hU : U64 nv := ⟨by omega, by omega⟩
              have CH := Lib.hid (pair_h PP OK ⟨hd0, by omega⟩ ev nv hU BW hsz)
              have CA := Lib.hid (pair_a PP nv BW hsz)
              have OKh := Lib.hid (okSt_h OK ev)
              have OKa := Lib.hid (okSt_a OK gd nv)
              have LH := Lib.hid (len_h st ev)
              have LA := Lib.hid (len_a st gd nv)
              generalize hS st ev = sh at *
              generalize hG st ev dl0 gd nv = gh at *
              generalize hA st ev = lh at *
              generalize hE st ev = xh at *
              generalize aS st gd nv = sa at *
              generalize aA st gd nv = la at *
              clear PP OK BW hsz
              by_cases h8 : ev = 8
              · have h8' : (ev == 8) = true := by simp [h8]
                have H8 := Lib.hid h8
                clear h8 CH
                go_wp2_with fail
                refine CA.out.mono ?_
                rintro e w4 ⟨A1, c1, rfl, C2⟩
                have C2 := Lib.hid C2
                clear CA
                go_wp2_with fail
                refine C2.out.mono ?_
                rintro e w5 ⟨A2, c2, rfl, P2, i1, i2, B2, hs2⟩
                clear C2
                have P2 := Lib.hid P2
                have B2 := Lib.hid B2
                have EQ := Lib.hid (eq_yes A1 A2 c1 c2 B B la _ w5 rfl i1 i2 (by have := LA.out; omega))
                clear i1 i2
                go_wp2_with fail
                refine EQ.out.mono ?_
                rintro e w6 ⟨rfl, b3⟩
                clear EQ
                have P3 := P2.out.below b3
                have B3 := B2.out.trans (b3.mono hs2)
                have s3 : B ≤ w6.heap.size := by have := b3.size; omega
                clear P2 B2 hs2
                have x1 := P3.a.c0
                have x2 := P3.b.c0
                have P3 := Lib.hid P3
                have B3 := Lib.hid B3
                have S3 := Lib.hid s3
                clear b3 s3
                go_upto_region 26 with fail
                go_region_held3 (fun w' => w'.cell? ⟨B, 0, none⟩ = some (.int .i64 (sa : Int)) ∧ w'.cell? ⟨L2, 0, none⟩ = some (.int .i64 (sa : Int))) (go_keep) ((go_at_call 14; go_split_ands; refine (sta_c _ B sa (by assumption)).mono ?_; rintro e w9 ⟨rfl, rfl⟩))
                go_wp2
                go_roundw
                case rel => exact ⟨k + 1, sa, nv, gd, by omega, by omega, by go_num, rfl, by omega, by omega, P3.out.below (Below.refl _ _).drew, OKa.out, B3.out.drew, S3.out⟩
                case measure => simp [intOf]; omega

              · have h8' : (ev == 8) = false := by simp [h8]
                have H8 := Lib.hid h8
                clear h8 CA
                go_wp2_with fail
                refine CH.out.mono ?_
                rintro e w4 ⟨A1, c1, rfl, C2⟩
                have C2 := Lib.hid C2
                clear CH
                go_wp2_with fail
                refine C2.out.mono ?_
                rintro e w5 ⟨A2, c2, rfl, P2, i1, i2, B2, hs2⟩
                clear C2
                have P2 := Lib.hid P2
                have B2 := Lib.hid B2
                have EQ := Lib.hid (eq_yes A1 A2 c1 c2 B B lh _ w5 rfl i1 i2 (by have := LH.out; omega))
                clear i1 i2
                go_wp2_with fail
                refine EQ.out.mono ?_
                rintro e w6 ⟨rfl, b3⟩
                clear EQ
                have P3 := P2.out.below b3
                have B3 := B2.out.trans (b3.mono hs2)
                have s3 : B ≤ w6.heap.size := by have := b3.size; omega
                clear P2 B2 hs2
                have x1 := P3.a.c0
                have x2 := P3.b.c0
                have P3 := Lib.hid P3
                have B3 := Lib.hid B3
                have S3 := Lib.hid s3
                clear b3 s3
                go_upto_region 26 with fail
                go_region_held3 (fun w' => w'.cell? ⟨B, 0, none⟩ = some (.int .i64 (sh : Int)) ∧ w'.cell? ⟨L2, 0, none⟩ = some (.int .i64 (sh : Int))) (go_keep) ((go_at_call 14; go_split_ands; refine (sta_c _ B sh (by assumption)).mono ?_; rintro e w9 ⟨rfl, rfl⟩))
                go_wp2
                go_roundw
                case rel => exact ⟨k + 1, sh, nv, gh, by omega, by omega, by go_num, rfl, by omega, by omega, P3.out.below (Below.refl _ _).drew, OKh.out, B3.out.drew, S3.out⟩
                case measure => simp [intOf]; omega
          · by_cases h7 : k = 7
            · have h7' : ((k : Int) == 7) = true := by simp [h7]
              have H7 := Lib.hid h7
              clear h7
              go_wp2_with fail
              refine (mod_any z 9 (by omega) (by omega) _).mono ?_
              rintro e w' ⟨rfl, rfl⟩
              go_upto_region 19 with fail
              have hv0 : 0 ≤ now := by omega
              have hv1 : now ≤ 4 * k + 4 := by omega
              obtain ⟨nv, hnv⟩ : ∃ nv, now = nv := ⟨_, rfl⟩
              rw [hnv] at hv0 hv1 ⊢
              obtain ⟨ev, hev⟩ : ∃ ev, z = ev := ⟨_, rfl⟩
              rw [hev] at d0 ⊢
              clear d0 hev h7' hnv
              have hU : U64 nv := ⟨by omega, by omega⟩
              have CH := Lib.hid (pair_h PP OK ⟨hd0, by omega⟩ ev nv hU BW hsz)
              have CA := Lib.hid (pair_a PP nv BW hsz)
              have OKh := Lib.hid (okSt_h OK ev)
              have OKa := Lib.hid (okSt_a OK gd nv)
              have LH := Lib.hid (len_h st ev)
              have LA := Lib.hid (len_a st gd nv)
              generalize hS st ev = sh at *
              generalize hG st ev dl0 gd nv = gh at *
              generalize hA st ev = lh at *
              generalize hE st ev = xh at *
              generalize aS st gd nv = sa at *
              generalize aA st gd nv = la at *
              clear PP OK BW hsz
              by_cases h8 : ev = 8
              · have h8' : (ev == 8) = true := by simp [h8]
                have H8 := Lib.hid h8
                clear h8 CH
                go_wp2_with fail
                refine CA.out.mono ?_
                rintro e w4 ⟨A1, c1, rfl, C2⟩
                have C2 := Lib.hid C2
                clear CA
                go_wp2_with fail
                refine C2.out.mono ?_
                rintro e w5 ⟨A2, c2, rfl, P2, i1, i2, B2, hs2⟩
                clear C2
                have P2 := Lib.hid P2
                have B2 := Lib.hid B2
                have EQ := Lib.hid (eq_yes A1 A2 c1 c2 B B la _ w5 rfl i1 i2 (by have := LA.out; omega))
                clear i1 i2
                go_wp2_with fail
                refine EQ.out.mono ?_
                rintro e w6 ⟨rfl, b3⟩
                clear EQ
                have P3 := P2.out.below b3
                have B3 := B2.out.trans (b3.mono hs2)
                have s3 : B ≤ w6.heap.size := by have := b3.size; omega
                clear P2 B2 hs2
                have x1 := P3.a.c0
                have x2 := P3.b.c0
                have P3 := Lib.hid P3
                have B3 := Lib.hid B3
                have S3 := Lib.hid s3
                clear b3 s3
                go_upto_region 26 with fail
                go_region_held3 (fun w' => w'.cell? ⟨B, 0, none⟩ = some (.int .i64 (sa : Int)) ∧ w'.cell? ⟨L2, 0, none⟩ = some (.int .i64 (sa : Int))) (go_keep) ((go_at_call 14; go_split_ands; refine (sta_c _ B sa (by assumption)).mono ?_; rintro e w9 ⟨rfl, rfl⟩))
                go_wp2
                go_roundw
                case rel => exact ⟨k + 1, sa, nv, gd, by omega, by omega, by go_num, rfl, by omega, by omega, P3.out.below (Below.refl _ _).drew, OKa.out, B3.out.drew, S3.out⟩
                case measure => simp [intOf]; omega

              · have h8' : (ev == 8) = false := by simp [h8]
                have H8 := Lib.hid h8
                clear h8 CA
                go_wp2_with fail
                refine CH.out.mono ?_
                rintro e w4 ⟨A1, c1, rfl, C2⟩
                have C2 := Lib.hid C2
                clear CH
                go_wp2_with fail
                refine C2.out.mono ?_
                rintro e w5 ⟨A2, c2, rfl, P2, i1, i2, B2, hs2⟩
                clear C2
                have P2 := Lib.hid P2
                have B2 := Lib.hid B2
                have EQ := Lib.hid (eq_yes A1 A2 c1 c2 B B lh _ w5 rfl i1 i2 (by have := LH.out; omega))
                clear i1 i2
                go_wp2_with fail
                refine EQ.out.mono ?_
                rintro e w6 ⟨rfl, b3⟩
                clear EQ
                have P3 := P2.out.below b3
                have B3 := B2.out.trans (b3.mono hs2)
                have s3 : B ≤ w6.heap.size := by have := b3.size; omega
                clear P2 B2 hs2
                have x1 := P3.a.c0
                have x2 := P3.b.c0
                have P3 := Lib.hid P3
                have B3 := Lib.hid B3
                have S3 := Lib.hid s3
                clear b3 s3
                go_upto_region 26 with fail
                go_region_held3 (fun w' => w'.cell? ⟨B, 0, none⟩ = some (.int .i64 (sh : Int)) ∧ w'.cell? ⟨L2, 0, none⟩ = some (.int .i64 (sh : Int))) (go_keep) ((go_at_call 14; go_split_ands; refine (sta_c _ B sh (by assumption)).mono ?_; rintro e w9 ⟨rfl, rfl⟩))
                go_wp2
                go_roundw
                case rel => exact ⟨k + 1, sh, nv, gh, by omega, by omega, by go_num, rfl, by omega, by omega, P3.out.below (Below.refl _ _).drew, OKh.out, B3.out.drew, S3.out⟩
                case measure => simp [intOf]; omega
            · have h7' : ((k : Int) == 7) = false := by simp; omega
              clear h7
              go_wp2_with fail
              refine (mod_any z 9 (by omega) (by omega) _).mono ?_
              rintro e w' ⟨rfl, rfl⟩
              go_upto_region 19 with fail
              have hv0 : 0 ≤ now := by omega
              have hv1 : now ≤ 4 * k + 4 := by omega
              obtain ⟨nv, hnv⟩ : ∃ nv, now = nv := ⟨_, rfl⟩
              rw [hnv] at hv0 hv1 ⊢
              generalize ((modOf z 9 : Nat) : Int) = ev at *
              clear d0 h7' hnv
              have hU : U64 nv := ⟨by omega, by omega⟩
              have CH := Lib.hid (pair_h PP OK ⟨hd0, by omega⟩ ev nv hU BW hsz)
              have CA := Lib.hid (pair_a PP nv BW hsz)
              have OKh := Lib.hid (okSt_h OK ev)
              have OKa := Lib.hid (okSt_a OK gd nv)
              have LH := Lib.hid (len_h st ev)
              have LA := Lib.hid (len_a st gd nv)
              generalize hS st ev = sh at *
              generalize hG st ev dl0 gd nv = gh at *
              generalize hA st ev = lh at *
              generalize hE st ev = xh at *
              generalize aS st gd nv = sa at *
              generalize aA st gd nv = la at *
              clear PP OK BW hsz
              by_cases h8 : ev = 8
              · have h8' : (ev == 8) = true := by simp [h8]
                have H8 := Lib.hid h8
                clear h8 CH
                go_wp2_with fail
                refine CA.out.mono ?_
                rintro e w4 ⟨A1, c1, rfl, C2⟩
                have C2 := Lib.hid C2
                clear CA
                go_wp2_with fail
                refine C2.out.mono ?_
                rintro e w5 ⟨A2, c2, rfl, P2, i1, i2, B2, hs2⟩
                clear C2
                have P2 := Lib.hid P2
                have B2 := Lib.hid B2
                have EQ := Lib.hid (eq_yes A1 A2 c1 c2 B B la _ w5 rfl i1 i2 (by have := LA.out; omega))
                clear i1 i2
                go_wp2_with fail
                refine EQ.out.mono ?_
                rintro e w6 ⟨rfl, b3⟩
                clear EQ
                have P3 := P2.out.below b3
                have B3 := B2.out.trans (b3.mono hs2)
                have s3 : B ≤ w6.heap.size := by have := b3.size; omega
                clear P2 B2 hs2
                have x1 := P3.a.c0
                have x2 := P3.b.c0
                have P3 := Lib.hid P3
                have B3 := Lib.hid B3
                have S3 := Lib.hid s3
                clear b3 s3
                go_upto_region 26 with fail
                go_region_held3 (fun w' => w'.cell? ⟨B, 0, none⟩ = some (.int .i64 (sa : Int)) ∧ w'.cell? ⟨L2, 0, none⟩ = some (.int .i64 (sa : Int))) (go_keep) ((go_at_call 14; go_split_ands; refine (sta_c _ B sa (by assumption)).mono ?_; rintro e w9 ⟨rfl, rfl⟩))
                go_wp2
                go_roundw
                case rel => exact ⟨k + 1, sa, nv, gd, by omega, by omega, by go_num, rfl, by omega, by omega, P3.out.below (Below.refl _ _).drew, OKa.out, B3.out.drew, S3.out⟩
                case measure => simp [intOf]; omega

              · have h8' : (ev == 8) = false := by simp [h8]
                have H8 := Lib.hid h8
                clear h8 CA
                go_wp2_with fail
                refine CH.out.mono ?_
                rintro e w4 ⟨A1, c1, rfl, C2⟩
                have C2 := Lib.hid C2
                clear CH
                go_wp2_with fail
                refine C2.out.mono ?_
                rintro e w5 ⟨A2, c2, rfl, P2, i1, i2, B2, hs2⟩
                clear C2
                have P2 := Lib.hid P2
                have B2 := Lib.hid B2
                have EQ := Lib.hid (eq_yes A1 A2 c1 c2 B B lh _ w5 rfl i1 i2 (by have := LH.out; omega))
                clear i1 i2
                go_wp2_with fail
                refine EQ.out.mono ?_
                rintro e w6 ⟨rfl, b3⟩
                clear EQ
                have P3 := P2.out.below b3
                have B3 := B2.out.trans (b3.mono hs2)
                have s3 : B ≤ w6.heap.size := by have := b3.size; omega
                clear P2 B2 hs2
                have x1 := P3.a.c0
                have x2 := P3.b.c0
                have P3 := Lib.hid P3
                have B3 := Lib.hid B3
                have S3 := Lib.hid s3
                clear b3 s3
                go_upto_region 26 with fail
                go_region_held3 (fun w' => w'.cell? ⟨B, 0, none⟩ = some (.int .i64 (sh : Int)) ∧ w'.cell? ⟨L2, 0, none⟩ = some (.int .i64 (sh : Int))) (go_keep) ((go_at_call 14; go_split_ands; refine (sta_c _ B sh (by assumption)).mono ?_; rintro e w9 ⟨rfl, rfl⟩))
                go_wp2
                go_roundw
                case rel => exact ⟨k + 1, sh, nv, gh, by omega, by omega, by go_num, rfl, by omega, by omega, P3.out.below (Below.refl _ _).drew, OKh.out, B3.out.drew, S3.out⟩
                case measure => simp [intOf]; omega
        · have i9 : ¬ (k : Int) < 90 := by omega
          go_wp2
          go_ret
          exact LP.out _ BW
      · go_wp2
        go_ret
        exact LP.out _ BW
end Go.Proofs.Ytefciddekhmifaa
