/- The walk of PerfGovernorSwitchesSafely. -/
import Derived.Test.YtfmaadfccnjnjaaGsm
import Derived.Laws.AppendOwnNone
namespace Go.Proofs.Ytfmaadfccnjnjaa
open Go.RowKit

theorem own_grown {w w' : World} {base n t size L : Nat} {v : Value} {xs : List Value} (h : w.ownsRow base t size v n xs) (hg : w.grownBy w' (some L)) (hL : L < base) : w'.ownsRow base t size v n xs :=
  h.kept hg (by
    cases hv : v.ownBlock with
    | none => exact .inl rfl
    | some k => right; intro e; injection e with e; have := (h.lt k hv).1; omega)
theorem own_below {w w' : World} {base n t size : Nat} {v : Value} {xs : List Value} (h : w.ownsRow base t size v n xs) (hb : Below w.heap.size w w') : w'.ownsRow base t size v n xs := by
  refine ⟨h.1, ?_⟩
  rcases h.2 with hn | ⟨g, cap, cur, rfl, hb', hg, rest⟩
  · exact .inl hn
  · exact .inr ⟨g, cap, cur, rfl, hb', (hb.block g (Array.getElem?_eq_some_iff.1 hg).1).trans hg, rest⟩
theorem sls_chg {w w' : World} {G n : Nat} {f : Nat → St} {r : Option Nat} {base : Nat} (h : SlS w (some ⟨G, 0, none⟩) n f) (hg : w.grownBy w' r) (hr : ∀ k, r = some k → base ≤ k) (hG : G < base) : SlS w' (some ⟨G, 0, none⟩) n f := by
  refine ⟨h.len, ?_, h.wf⟩
  rcases h.row with h0 | ⟨b', off, hA, hlt, hc⟩
  · exact .inl h0
  · have hb : b' = G := by injection hA with hA; injection hA with h1 _; exact h1.symm
    refine .inr ⟨b', off, hA, Nat.lt_of_lt_of_le hlt hg.size, fun i hi => ?_⟩
    obtain ⟨c0, c1, c2⟩ := hc i hi
    have e : ∀ o, w'.cell? ⟨b', o, none⟩ = w.cell? ⟨b', o, none⟩ := fun o => World.cell?_of_block (hg.block b' hlt (fun x => by have := hr b' x.symm; omega))
    rw [← e] at c0 c1 c2
    exact ⟨c0, c1, c2⟩
theorem rowis_chg {w w' : World} {L t n : Nat} {φ : Nat → Value} {r : Option Nat} {base : Nat} (h : w.rowIs L t n φ) (hg : w.grownBy w' r) (hr : ∀ k, r = some k → base ≤ k) (hL : L < base) : w'.rowIs L t n φ :=
  h.of_block (hg.block L h.lt (fun x => by have := hr L x.symm; omega))
/-- What holds at a round's head. -/
structure SwI (base B T G L n k : Nat) (f : Nat → St) (w0 wr : World) (s : GV) (l : List PO) (v : Value) : Prop where
  row : wr.rowIs L 65 8 (gcell T n k s)
  ok : GOk n s
  own : wr.ownsRow base 40 2 v l.length (poL l)
  safe : okL n f ⟨(f 0).l, (f 0).r⟩ l = true
  at_ : stL ⟨(f 0).l, (f 0).r⟩ l = ⟨(f s.cu).l, (f s.cu).r⟩
  st : SlS wr (some ⟨T, 0, none⟩) n f
  sg : SlS wr (some ⟨G, 0, none⟩) n f
  bel : Below B w0 wr
  lt : T < base ∧ G < base ∧ L < base
  sz : base ≤ wr.heap.size ∧ B ≤ L ∧ B ≤ base ∧ T ≠ L ∧ G ≠ L
theorem SwI.sample {base B T G L n k : Nat} {f : Nat → St} {w0 wr wr' : World} {s s' : GV} {l : List PO} {v : Value} (h : SwI base B T G L n k f w0 wr s l v) (hR : wr'.rowIs L 65 8 (gcell T n k s')) (hk : GOk n s') (hg : wr.grownBy wr' (some L)) :
    wr'.rowIs L 65 8 (gcell T n k s') ∧ GOk n s' ∧ wr'.ownsRow base 40 2 v l.length (poL l) ∧ SlS wr' (some ⟨T, 0, none⟩) n f ∧ SlS wr' (some ⟨G, 0, none⟩) n f ∧ Below B w0 wr' ∧ base ≤ wr'.heap.size := by
  obtain ⟨h1, h2, h3, h4, h5⟩ := h.sz
  refine ⟨hR, hk, own_grown h.own hg h.lt.2.2, h.st.grown hg h4, h.sg.grown hg h5, h.bel.grown hg (by omega) (fun j hj => by injection hj with hj; omega), ?_⟩
  have := hg.size; omega
set_option maxRecDepth 100000 in
set_option maxHeartbeats 4000000 in
theorem gsw_walk (A : Option Addr) (m c : Nat) (g : Nat → St) (X : GP) (E : Option Addr) (q d : Nat) (Z : Nat → Int) (w : World) (h : SlS w A m g) (_hp : True) (hZ' : Ns .i64 w E q Z ∧ q ≤ d ∧ d ≤ 9223372036854775807) :
    Calls Try.prog 10 #[.slice A m c, .agg #[.int .i64 X.up, .int .i64 X.dn, .int .i64 X.sp], .slice E q d] w (LawPost w) := by
  obtain ⟨up, dn, sp⟩ := X
  simp only
  have LP : Hid (∀ w', Below w.heap.size w w' → LawPost w (.returned (.bool true)) w') := fun _ h => ⟨rfl, h⟩
  have hm := h.len
  obtain ⟨hZ, -⟩ := hZ'
  have hq := hZ.len
  have B1 := bal (Below.refl w.heap.size w) (Obj.cells #[.int .i64 up, .int .i64 dn, .int .i64 sp] 44)
  have x0 : (w.alloc (Obj.cells #[.int .i64 up, .int .i64 dn, .int .i64 sp] 44)).cell? ⟨w.heap.size, 0, none⟩ = some (.int .i64 up) := by simp [go_sem]
  have x1 : (w.alloc (Obj.cells #[.int .i64 up, .int .i64 dn, .int .i64 sp] 44)).cell? ⟨w.heap.size, 1, none⟩ = some (.int .i64 dn) := by simp [go_sem]
  have x2 : (w.alloc (Obj.cells #[.int .i64 up, .int .i64 dn, .int .i64 sp] 44)).cell? ⟨w.heap.size, 2, none⟩ = some (.int .i64 sp) := by simp [go_sem]
  have hsz : w.heap.size < (w.alloc (Obj.cells #[.int .i64 up, .int .i64 dn, .int .i64 sp] 44)).heap.size := by simp
  have S1 := h.below B1 (Nat.le_refl _)
  have HZ := Lib.hid hZ
  clear h hZ
  by_cases h20 : 20 < m
  · clear x0 x1 x2
    go_enter Try.func10, Try.ntmps10
    go_wp2_with fail
    generalize w.alloc (Obj.cells #[.int .i64 up, .int .i64 dn, .int .i64 sp] 44) = w1 at *
    refine (awake_any _).mono ?_
    rintro e w2 ⟨rfl, hb1⟩
    go_wp2
    go_ret
    exact LP.out _ (bel2 B1 hb1)
  by_cases h40 : 40 < q
  · clear x0 x1 x2
    go_enter Try.func10, Try.ntmps10
    go_wp2_with fail
    generalize w.alloc (Obj.cells #[.int .i64 up, .int .i64 dn, .int .i64 sp] 44) = w1 at *
    refine (awake_any _).mono ?_
    rintro e w2 ⟨rfl, hb1⟩
    go_wp2
    go_ret
    exact LP.out _ (bel2 B1 hb1)
  have TB := Lib.hid (tab_any A m c g _ S1)
  clear S1
  go_enter Try.func10, Try.ntmps10
  go_wp2_with fail
  generalize w.alloc (Obj.cells #[.int .i64 up, .int .i64 dn, .int .i64 sp] 44) = w1 at *
  refine TB.out.mono ?_
  rintro e w2 ⟨G, ct, rfl, hG, S2, b2⟩
  rw [← b2.cell (by exact hsz)] at x0 x1 x2
  have B2 := Lib.hid (bel2 B1 b2)
  have hG1 : w.heap.size < G := by have : w1.heap.size ≤ G := hG; omega
  clear TB B1 b2 hG hsz
  obtain ⟨hn1, hn8, -, -⟩ := tbN_bd m
  have HV := Lib.hid (tbF_vld m g)
  have FB := Lib.hid (fun i => tbF_bd m g i)
  have PK := Lib.hid (p_ok (tbN m) up dn sp hn1)
  have PA := Lib.hid (par_any up dn sp w2)
  generalize tbF m g = f at *
  generalize tbN m = n at *
  generalize pdn up dn = D at *
  generalize pup up = U at *
  generalize psp sp = P at *
  have S2 := Lib.hid S2
  go_wp2_with fail
  refine PA.out.mono ?_
  rintro e w3 ⟨rfl, b3⟩
  have S3 := S2.out.below b3 (Nat.le_refl _)
  have B3 := Lib.hid (bel2 B2.out b3)
  clear PA S2 B2 b3 x0 x1 x2
  have NG := Lib.hid (new_good G n ct f ⟨U, D, P, 0, n - 1, 0, 0⟩ w3 S3 HV.out PK.out)
  have S3 := Lib.hid S3
  go_wp2_with fail
  refine NG.out.mono ?_
  rintro e w4 ⟨L, T, k, rfl, hL, hT, hTL, ST, R, b4⟩
  clear NG
  have hGw := S3.out.lt hn1
  have S4 := S3.out.below b4 (Nat.le_refl _)
  have B4 := bel2 B3.out b4
  have hTw := ST.lt hn1
  have hLw := R.lt
  have h3 := B3.out.size
  have hw4 := b4.size
  have I0 : SwI w4.heap.size w.heap.size T G L n k f w w4 ⟨U, D, P, 0, n - 1, 0, 0⟩ [] (.slice none 0 0) :=
    ⟨R, PK.out, ⟨rfl, .inl ⟨rfl, rfl⟩⟩, rfl, rfl, ST, S4, B4, ⟨hTw, by omega, hLw⟩, ⟨Nat.le_refl _, by omega, B4.size, hTL, by omega⟩⟩
  have CU := Lib.hid (cur_any L T n k ⟨U, D, P, 0, n - 1, 0, 0⟩ w4 R)
  have hv : ∀ i, i < n → (f i).l ≤ 1099511627776 := fun i hi => by have := FB.out i; omega
  have hv := Lib.hid hv
  have I0 := Lib.hid I0
  clear R ST S4 B4 S3 B3 b4 PK h3
  go_wp2_with fail
  refine CU.out.mono ?_
  rintro e w5 ⟨rfl, rfl⟩
  clear CU
  obtain ⟨i0, hi, hzz⟩ := Option.map_eq_some_iff.1 info40
  simp only [Prod.mk.injEq] at hzz
  obtain ⟨hz, hs, hbb⟩ := hzz
  have HI := Lib.hid (And.intro hi (And.intro hz (And.intro hs hbb)))
  clear hi hz hs hbb
  generalize hbase : w4.heap.size = base at *
  have HBASE := Lib.hid hbase
  clear hbase hTw hLw hw4 hGw hL hT
  go_wp2_with fail
  go_loopw [12, 11, 10] (fun i v lst wr => ∃ (j : Nat) (s : GV) (l : List PO) (vv : Value), j ≤ q ∧ i = .int .i64 j ∧ lst = .int .i64 (s.cu : Nat) ∧ vv = v ∧ l.length ≤ 2 * j ∧ SwI base w.heap.size T G L n k f w wr s l vv) (fun i _ _ _ => q - (intOf i).toNat)
  case atStart => exact ⟨0, _, [], _, by omega, rfl, rfl, rfl, by simp, I0.out⟩
  case round =>
    clear I0
    obtain ⟨j, s, l, vv, hj, rfl, rfl, rfl, hl, SI⟩ := hrel
    by_cases hlt : j < q
    · obtain ⟨b, off, rfl, d0⟩ := HZ.out.at SI.bel (Nat.le_refl _) hlt
      generalize Z j = z at *
      have hx := (modOf_spec z 101 (by omega) (by omega)).2
      have MD := Lib.hid (mod_any z 101 (by omega) (by omega) wr)
      generalize modOf z 101 = x at *
      have SM := Lib.hid (smp_good L T n k s f x wr SI.row SI.st SI.ok (by omega) SI.sz.2.2.2.1 hv.out)
      have SI := Lib.hid SI
      have j1 : (j : Int) < q := by omega
      go_wp2_with fail
      refine MD.out.mono ?_
      rintro e w6 ⟨rfl, rfl⟩
      clear MD d0
      go_wp2_with fail
      refine SM.out.mono ?_
      rintro e w6 ⟨rfl, R6, g6⟩
      clear SM
      have OK6 := gok_smp SI.out.ok f x
      generalize smpS f s x = s' at *
      obtain ⟨R6, OK6, OW6, ST6, SG6, B6, Z6⟩ := SI.out.sample R6 OK6 g6
      have c1 := SI.out.ok.lh
      have c2 := OK6.lh
      have hLb := SI.out.lt
      have hsz := SI.out.sz
      by_cases hsame : s.cu = s'.cu
      · have TN := tra_nil (some ⟨G, 0, none⟩) n ct f s.cu w6 SG6 HV.out (by omega)
        rw [← hsame]
        have HS := Lib.hid hsame
        have TN := Lib.hid TN
        have K6 := Lib.hid (And.intro R6 (And.intro OK6 (And.intro OW6 (And.intro ST6 (And.intro SG6 (And.intro B6 Z6))))))
        clear hsame R6 OK6 OW6 ST6 SG6 B6 Z6 g6
        go_wp2_with fail
        refine TN.out.mono ?_
        rintro e w7 ⟨rfl, b7⟩
        clear TN
        obtain ⟨R6, OK6, OW6, ST6, SG6, B6, Z6⟩ := K6.out
        have OW7 := Lib.hid (own_below OW6 b7)
        have F7 : Hid (SwI base w.heap.size T G L n k f w w7 s' l vv) :=
          ⟨row_below R6 b7 (Nat.le_refl _), OK6, OW7.out, SI.out.safe, by rw [← HS.out]; exact SI.out.at_, ST6.below b7 (Nat.le_refl _), SG6.below b7 (Nat.le_refl _), bel2 B6 b7, hLb, ⟨by have := b7.size; omega, hsz.2⟩⟩
        clear R6 OK6 OW6 ST6 SG6 B6 Z6 b7 K6
        go_wp2_with (at_builtin; refine wpList_append_own_none rfl (.tmp 72) (.tmp 73) 35 rfl base 40 i0 2 Try.underlying35 HI.out.1 vv l.length (poL l) rfl OW7.out rfl ?_)
        go_roundw
        case rel => exact ⟨j + 1, s', l, vv, by omega, by go_num, congrArg (fun x : Nat => Value.int .i64 (x : Int)) HS.out, rfl, by omega, F7.out⟩
        case measure => simp [intOf]; omega
      · have TI := Lib.hid (tra_is (some ⟨G, 0, none⟩) n ct f s.cu s'.cu w6 SG6 (trOk_in HV.out (by omega) (by omega)))
        obtain ⟨t1, t2⟩ := tr_safe HV.out (show s.cu < n by omega) (show s'.cu < n by omega)
        have hl2 : 1 ≤ (trL f s.cu s'.cu).length ∧ (trL f s.cu s'.cu).length ≤ 2 := by
          unfold trL trV
          rw [if_neg hsame]
          split <;> (try split) <;> simp
        have T1 : Hid (okL n f ⟨(f s.cu).l, (f s.cu).r⟩ (trL f s.cu s'.cu) = true) := t1
        have T2 : Hid (stL ⟨(f s.cu).l, (f s.cu).r⟩ (trL f s.cu s'.cu) = ⟨(f s'.cu).l, (f s'.cu).r⟩) := t2
        generalize trL f s.cu s'.cu = l2 at *
        have K6 := Lib.hid (And.intro R6 (And.intro OK6 (And.intro OW6 (And.intro ST6 (And.intro SG6 (And.intro B6 Z6))))))
        clear R6 OK6 OW6 ST6 SG6 B6 Z6 g6 t1 t2 hsame
        go_wp2_with fail
        refine TI.out.mono ?_
        rintro e w7 ⟨A1, c1', rfl, P7, b7⟩
        clear TI
        obtain ⟨b2, o2, rfl, hb2, -, -⟩ := pls_row P7 0 (by omega)
        obtain ⟨R6, OK6, OW6, ST6, SG6, B6, Z6⟩ := K6.out
        have OW7 := Lib.hid (own_below OW6 b7)
        have R7 := Lib.hid (row_below R6 b7 (Nat.le_refl _))
        have ST7 := Lib.hid (ST6.below b7 (Nat.le_refl _))
        have SG7 := Lib.hid (SG6.below b7 (Nat.le_refl _))
        have B7 := Lib.hid (bel2 B6 b7)
        have OK7 := Lib.hid OK6
        have P7 := Lib.hid P7
        have hz7 : base ≤ w7.heap.size := by have := b7.size; omega
        clear R6 OK6 OW6 ST6 SG6 B6 Z6 b7 K6
        go_wp2_with (at_builtin; refine wpList_append_own _ rfl (.tmp 72) (.tmp 73) 35 rfl base 40 i0 _ 2 16 Try.underlying35 HI.out.1 HI.out.2.1 HI.out.2.2.1 HI.out.2.2.2 rfl (by decide) vv l.length (poL l) rfl OW7.out ⟨b2, o2, none⟩ l2.length c1' (poL l2) rfl (poL_len l2) (pls_news P7.out) (poL_one l2) (by unfold maxLen; omega) (by omega) hz7 ?_; intro v8 w8 hown hgr _)
        have hob : ∀ kk, vv.ownBlock = some kk → base ≤ kk := fun kk e => (OW7.out.lt kk e).1
        have F8 : Hid (SwI base w.heap.size T G L n k f w w8 s' (l ++ l2) v8) :=
          ⟨rowis_chg R7.out hgr hob hLb.2.2, OK7.out, by rw [poL_app, List.length_append]; exact hown, by rw [okL_app, SI.out.safe, SI.out.at_, T1.out]; rfl, by rw [stL_app, SI.out.at_, T2.out],
            sls_chg ST7.out hgr hob hLb.1, sls_chg SG7.out hgr hob hLb.2.1, B7.out.grown hgr (by omega) (fun kk e => by have := hob kk e; omega), hLb, ⟨by have := hgr.size; omega, hsz.2⟩⟩
        clear hown hgr hob
        go_wp2
        go_roundw
        case rel => exact ⟨j + 1, s', l ++ l2, v8, by omega, by go_num, rfl, rfl, by rw [List.length_append]; omega, F8.out⟩
        case measure => simp [intOf]; omega
    · obtain rfl : j = q := by omega
      have OW := SI.own
      obtain ⟨A1, c1', rfl, P1⟩ := pls_of_own OW (by omega)
      have SR : safeB n f (0 : Int) l.length (atL l) = true := by
        have := safe_tr HV.out (show 0 < n by omega) l.length (atL l)
        rw [show ((0 : Nat) : Int) = 0 from rfl] at this
        rw [this]
        exact SI.safe
      have SV := Lib.hid (saf_ev (some ⟨G, 0, none⟩) A1 n ct l.length c1' f 0 (atL l) wr SI.sg P1 true SR)
      have SI := Lib.hid SI
      clear OW P1 SR
      go_wp2_with fail
      refine SV.out.mono ?_
      rintro e w7 ⟨rfl, b7⟩
      clear SV
      have B7 := Lib.hid (SI.out.bel.trans (b7.mono (by have := SI.out.sz; omega)))
      clear b7
      go_wp2_with fail
      refine (awake_any _).mono ?_
      rintro e w8 ⟨rfl, b8⟩
      go_wp2
      go_ret
      exact LP.out _ (bel2 B7.out b8)
end Go.Proofs.Ytfmaadfccnjnjaa
