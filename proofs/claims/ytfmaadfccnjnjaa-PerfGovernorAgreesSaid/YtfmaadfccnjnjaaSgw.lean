/- The walk of PerfSafeAgrees. -/
import Derived.Test.YtfmaadfccnjnjaaCag
namespace Go.Proofs.Ytfmaadfccnjnjaa
open Go.RowKit Go.ChangeShapes Go.WideShapes

theorem open_pls {H : Type} {enc : TypeId × Value → H} {w : World} {a : Option Addr} {len cap : Nat} {d : DataW H} {p : List MemPlace}
    (h : DataW.Trod enc Try.prog w 0 (fun _ => true) true 35 (.slice a len cap) d p) : ∃ g : Nat → PO, PlS w a len g ∧ ∀ i, i < len → U64 (g i).x := by
  obtain ⟨fuel, hf⟩ := h
  rcases open_slice_fields Try.underlying35 Try.underlying40 (by kernel_rfl) (by kernel_rfl) hf with ⟨hcs, _⟩ | ⟨x, l, c, m, D, Pl, hcs, _, hl, hm, hmm, _, hi⟩
  · simp [Value.cells] at hcs
    obtain ⟨rfl, rfl, rfl⟩ := hcs
    exact ⟨fun _ => ⟨false, 0⟩, ⟨by omega, .inl rfl⟩, fun i hi => by omega⟩
  · simp [Value.cells] at hcs
    obtain ⟨rfl, rfl, rfl⟩ := hcs
    have hmm : m = cap := by simpa using hmm
    subst hmm
    have K : ∀ i, ∃ s : PO, i < len → w.cell? (x.add (i * 2 + 0)) = some (.bool s.v) ∧ w.cell? (x.add (i * 2 + 1)) = some (.int .u64 s.x) ∧ U64 s.x := by
      intro i
      by_cases hil : i < len
      · obtain ⟨ys, n, _, _, _, hf⟩ := hi i (by omega)
        obtain ⟨v0, y0, c0, _, t0⟩ := hf 0 _ rfl
        obtain ⟨v1, y1, c1, _, t1⟩ := hf 1 _ rfl
        obtain ⟨l0, e0, _⟩ := DataW.trod_bool Try.underlying4 t0
        obtain ⟨l1, e1, _, u1⟩ := DataW.trod_int Try.underlying23 t1
        simp at e0 e1
        subst e0 e1
        exact ⟨⟨l0, l1⟩, fun _ => ⟨c0, c1, u64_of_wf u1⟩⟩
      · exact ⟨⟨false, 0⟩, fun h => absurd h hil⟩
    have K2 := Classical.axiomOfChoice K
    obtain ⟨g, hg⟩ := K2
    refine ⟨g, ⟨by unfold maxLen at hm; omega, ?_⟩, fun i hil => (hg i hil).2.2⟩
    rcases Nat.eq_zero_or_pos len with h0 | h0
    · exact .inl h0
    · obtain ⟨b, off, spot⟩ := x
      have hspot : spot = none := by simpa [Addr.add] using World.cell?_spot (hg 0 h0).1
      subst hspot
      refine .inr ⟨b, off, rfl, ?_, fun i hil => ?_⟩
      · have := cell_lt (hg 0 h0).1
        simpa [Addr.add] using this
      · obtain ⟨c0, c1, _⟩ := hg i hil
        rw [add_plain] at c0 c1
        exact ⟨c0, by rw [← Nat.add_assoc] at c1; exact c1⟩

def sm (n : Nat) (f : Nat → St) (g : Nat → PO) (i : Nat) : PO := ⟨(g i).v, if (g i).v then (f ((g i).x % n).toNat).r + (g i).x % 2 else (f ((g i).x % n).toNat).l⟩
def newsP (h : Nat → PO) : Nat → List Value
  | 0 => []
  | k + 1 => newsP h k ++ [.bool (h k).v, .int .u64 (h k).x]
theorem newsP_len (h : Nat → PO) (n : Nat) : (newsP h n).length = n * 2 := by
  induction n with
  | zero => rfl
  | succ n ih => simp [newsP, ih]; omega
theorem newsP_get (h : Nat → PO) (n i : Nat) (hi : i < n) : (newsP h n)[i * 2]? = some (.bool (h i).v) ∧ (newsP h n)[i * 2 + 1]? = some (.int .u64 (h i).x) := by
  induction n with
  | zero => omega
  | succ n ih =>
    have hl := newsP_len h n
    simp only [newsP]
    rcases Nat.lt_or_ge i n with h1 | h1
    · obtain ⟨a, b⟩ := ih h1
      rw [List.getElem?_append_left (by omega), List.getElem?_append_left (by omega)]
      exact ⟨a, b⟩
    · have : i = n := by omega
      subst this
      rw [List.getElem?_append_right (by omega), List.getElem?_append_right (by omega), hl, show i * 2 - i * 2 = 0 from by omega, show i * 2 + 1 - i * 2 = 1 from by omega]
      exact ⟨rfl, rfl⟩
theorem pls_of_own {w : World} {base n : Nat} {v : Value} {h : Nat → PO} (ho : w.ownsRow base 40 2 v n (newsP h n)) (hn : n ≤ 9223372036854775807) : ∃ A c, v = .slice A n c ∧ PlS w A n h := by
  obtain ⟨hl, ⟨rfl, rfl⟩ | ⟨g, cap, cur, rfl, hb, hh, hnc, hcm, hcs, ht⟩⟩ := ho
  · exact ⟨none, 0, rfl, ⟨by omega, .inl rfl⟩⟩
  · refine ⟨_, cap, rfl, ⟨hn, ?_⟩⟩
    rcases Nat.eq_zero_or_pos n with h0 | h0
    · exact .inl h0
    · have hc : ∀ j u, j < n * 2 → (newsP h n)[j]? = some u → w.cell? ⟨g, j, none⟩ = some u := by
        intro j u hj hu
        rw [← ht, List.getElem?_take, if_pos hj] at hu
        unfold World.cell?
        simp only [hh]
        simpa using hu
      refine .inr ⟨g, 0, rfl, ?_, fun i hi => ?_⟩
      · exact cell_lt (hc 0 _ (by omega) (by simpa using (newsP_get h n 0 h0).1))
      · obtain ⟨a, b⟩ := newsP_get h n i hi
        rw [Nat.zero_add]
        exact ⟨hc _ _ (by omega) a, hc _ _ (by omega) b⟩
theorem box2 (w : World) (x : Bool) (y : Int) :
    (w.alloc (Obj.cells #[.bool x, .int .u64 y] 40)).cell? ⟨w.heap.size, 0, none⟩ = some (.bool x) ∧ (w.alloc (Obj.cells #[.bool x, .int .u64 y] 40)).cell? ⟨w.heap.size, 1, none⟩ = some (.int .u64 y) := by
  refine ⟨?_, ?_⟩ <;> simp [go_sem]
theorem news2 (w : World) (x : Bool) (y : Int) (j : Nat) (u : Value) (h : [Value.bool x, .int .u64 y][j]? = some u) :
    (w.alloc (Obj.cells #[.bool x, .int .u64 y] 40)).cell? (Addr.add ⟨w.heap.size, 0, none⟩ j) = some u := by
  obtain ⟨a, b⟩ := box2 w x y
  match j, h with
  | 0, h => simp at h; subst h; exact a
  | 1, h => simp at h; subst h; exact b
theorem one2 (x : Bool) (y : Int) (u : Value) (h : u ∈ [Value.bool x, .int .u64 y]) : u.oneCell' = true := by
  simp at h
  rcases h with rfl | rfl <;> rfl
def ocell (o : PO) (j : Nat) : Value := if j = 0 then .bool o.v else .int .u64 o.x
theorem orow_x {w : World} {L : Nat} {v : Bool} {x t : Int} (h : w.rowIs L 40 2 (ocell ⟨v, x⟩)) : (w.setCell ⟨L, 1, none⟩ (.int .u64 t)).rowIs L 40 2 (ocell ⟨v, t⟩) := by
  refine (h.set 1 _).congr fun j hj => ?_
  match j, hj with
  | 0, _ => rfl
  | 1, _ => rfl
theorem orow_box (w : World) (v : Bool) (x : Int) : (w.alloc (.cells #[.bool v, .int .u64 x] 40)).rowIs w.heap.size 40 2 (ocell ⟨v, x⟩) := by
  refine World.rowIs_alloc w #[.bool v, .int .u64 x] 40 (ocell ⟨v, x⟩) fun j hj => ?_
  match j, hj with
  | 0, _ => rfl
  | 1, _ => rfl
theorem saf2 (n : Nat) (f : Nat → St) (a : Int) (m : Nat) (g : Nat → PO) : ∃ r : Bool, ∀ (A B : Option Addr) (c d : Nat) (w : World), SlS w A n f → PlS w B m g →
    (Calls Try.prog 22 #[.slice A n c, .int .i64 a, .slice B m d] w fun e w' => e = .returned (.bool r) ∧ Below w.heap.size w w') ∧
    (Calls Try.prog 23 #[.slice A n c, .int .i64 a, .slice B m d] w fun e w' => e = .returned (.bool r) ∧ Below w.heap.size w w') :=
  ⟨safeB n f a m g, fun A B c d w h p => ⟨saf_any A B n c m d f a g w h p, rsf_any A B n c m d f a g w h p⟩⟩
set_option maxRecDepth 100000 in
set_option maxHeartbeats 4000000 in
theorem sgw_walk (A : Option Addr) (m c : Nat) (g : Nat → St) (a : Int) (B : Option Addr) (p d : Nat) (o : Nat → PO) (w : World) (h : SlS w A m g) (_ha : (Lit.int .i64 a).wf = true) (ho : PlS w B p o ∧ ∀ i, i < p → U64 (o i).x) :
    Calls Try.prog 6 #[.slice A m c, .int .i64 a, .slice B p d] w (LawPost w) := by
  have hm := h.len
  obtain ⟨hp, hu⟩ := ho
  have hpl := hp.len
  by_cases h20 : 20 < m
  · go_enter Try.func6, Try.ntmps6
    go_wp2_with fail
    refine (awake_any _).mono ?_
    rintro e w1 ⟨rfl, hb1⟩
    go_wp2
    go_ret
    exact ⟨rfl, hb1⟩
  by_cases p20 : 20 < p
  · go_enter Try.func6, Try.ntmps6
    go_wp2_with fail
    refine (awake_any _).mono ?_
    rintro e w1 ⟨rfl, hb1⟩
    go_wp2
    go_ret
    exact ⟨rfl, hb1⟩
  have ST := tab_any A m c g _ h
  obtain ⟨hn1, hn8, -, -⟩ := tbN_bd m
  obtain ⟨i0, hi, hzz⟩ := Option.map_eq_some_iff.1 info40
  simp only [Prod.mk.injEq] at hzz
  obtain ⟨hz, hs, hbb⟩ := hzz
  have HI := Lib.hid (And.intro hi (And.intro hz (And.intro hs hbb)))
  clear hi hz hs hbb
  go_enter Try.func6, Try.ntmps6
  go_wp2_with fail
  refine ST.mono ?_
  rintro e w1 ⟨G, k, rfl, hG, S0, B0⟩
  clear ST
  have H0 := h.below B0 (Nat.le_refl _)
  have P0 := hp.below B0 (Nat.le_refl _)
  clear h hp
  have HT : Hid (∀ i, i < tbN m → (tbF m g i).r ≤ 1000) := by
    intro i hi
    have := tbF_bd m g i
    omega
  generalize tbF m g = f at *
  generalize tbN m = n at *
  have M := Lib.hid (fun v W => mod_any v n hn1 (by omega) W)
  go_wp2_with fail
  refine (M.out a w1).mono ?_
  rintro e w' ⟨rfl, rfl⟩
  clear M
  generalize modOf a n = x at *
  have O0 : w1.ownsRow w1.heap.size 40 2 (.slice none 0 0) 0 (newsP (sm n f o) 0) := World.ownsRow_nil _ _ _ _
  have HW := Lib.hid (Below.refl w1.heap.size w1)
  have HS := Lib.hid S0
  have HP := Lib.hid P0
  have HH := Lib.hid H0
  have HU := Lib.hid hu
  clear S0 P0 H0 hu
  go_wp2_with fail
  go_loopw [10, 9] (fun i s wr => ∃ q : Nat, q ≤ p ∧ i = .int .i64 q ∧ wr.ownsRow w1.heap.size 40 2 s q (newsP (sm n f o) q) ∧ Below w1.heap.size w1 wr) (fun i _ _ => p - (intOf i).toNat)
  case atStart => exact ⟨0, Nat.zero_le _, rfl, O0, HW.out⟩
  case round =>
    obtain ⟨q, hq, rfl, OW, BW⟩ := hrel
    clear O0 HW
    by_cases hlt : q < p
    · obtain ⟨b2, o2, hBe, hb2, hc2⟩ : ∃ b2 o2, B = some ⟨b2, o2, none⟩ ∧ b2 < w1.heap.size ∧ ∀ i, i < p → w1.cell? ⟨b2, o2 + i * 2, none⟩ = some (.bool (o i).v) ∧ w1.cell? ⟨b2, o2 + i * 2 + 1, none⟩ = some (.int .u64 (o i).x) := by
        rcases HP.out.row with h0 | h0
        · omega
        · exact h0
      subst hBe
      have HQ := Lib.hid (hc2 q hlt)
      clear hc2
      obtain ⟨u0, u1⟩ := HU.out q hlt
      obtain ⟨κ, hκ, hκn⟩ : ∃ κ : Nat, (o q).x % (n : Int) = κ ∧ κ < n := by
        have e1 := Int.emod_nonneg (o q).x (show (n : Int) ≠ 0 by omega)
        have e2 := Int.emod_lt_of_pos (o q).x (show (0 : Int) < n by omega)
        exact ⟨((o q).x % (n : Int)).toNat, by omega, by omega⟩
      have hκt : (o q).x.tmod (n : Int) = κ := by rw [Int.tmod_eq_emod_of_nonneg u0]; exact hκ
      have SQ : Hid (sm n f o q = ⟨(o q).v, if (o q).v then (f κ).r + (o q).x % 2 else (f κ).l⟩) := by
        show _ = _
        unfold sm
        rw [hκ]; rfl
      have NS : Hid (newsP (sm n f o) (q + 1) = newsP (sm n f o) q ++ [.bool (sm n f o q).v, .int .u64 (sm n f o q).x]) := rfl
      have SC := Lib.hid (HS.out.cells hκn)
      have hGw : G < w1.heap.size := HS.out.lt hn1
      obtain ⟨⟨l0, l1⟩, ⟨l2, -⟩, -⟩ := HS.out.wf κ hκn
      have l3 := HT.out κ hκn
      generalize sm n f o q = sq at *
      generalize o q = oq at *
      generalize f κ = fk at *
      obtain ⟨ov, ox⟩ := oq
      obtain ⟨x0, y0, z0⟩ := fk
      simp only at HQ u0 u1 hκ hκt SQ SC l0 l1 l2 l3
      have R1 := prow_box wr x0 y0 z0
      have O1 := OW.alloc (Obj.cells #[.int .u64 x0, .int .u64 y0, .int .u64 z0] 25)
      have hsw := BW.size
      have B1 := bal BW (Obj.cells #[.int .u64 x0, .int .u64 y0, .int .u64 z0] 25)
      obtain ⟨p0, p1⟩ := HQ.out
      obtain ⟨c0, c1, c2⟩ := SC.out
      rw [← BW.cell hb2] at p0 p1
      rw [← BW.cell hGw] at c0 c1 c2
      go_upto_region 10 with fail
      clear OW BW p0 p1 c0 c1 c2 SC hκt
      obtain ⟨L, hL⟩ : ∃ L, L = wr.heap.size := ⟨_, rfl⟩
      rw [← hL] at R1 ⊢
      have hLW : w1.heap.size ≤ L := by omega
      have hL1 := R1.lt
      generalize wr.alloc (Obj.cells #[.int .u64 x0, .int .u64 y0, .int .u64 z0] 25) = W1 at *
      clear hL hsw
      obtain ⟨p0, p1⟩ := HQ.out
      rw [← B1.cell hb2] at p0 p1
      have r0 := R1.cell (show 0 < 3 by omega)
      simp only [pcell] at r0
      have R2 := (R1.alloc (Obj.cells #[.bool ov, .int .u64 x0] 40)).drew
      have Q2 := (orow_box W1 ov x0).drew
      have O2 := own_drew (O1.alloc (Obj.cells #[.bool ov, .int .u64 x0] 40))
      have B2 := (bal B1 (Obj.cells #[.bool ov, .int .u64 x0] 40)).drew
      have R2 := Lib.hid R2
      have Q2 := Lib.hid Q2
      have O2 := Lib.hid O2
      have B2 := Lib.hid B2
      have hb2W : b2 < W1.heap.size := by have := B1.size; omega
      go_region
      have R2 := R2.out
      have Q2 := Q2.out
      have O2 := O2.out
      have B2 := B2.out
      obtain ⟨L2, hL2⟩ : ∃ L2, L2 = W1.heap.size := ⟨_, rfl⟩
      rw [← hL2] at Q2 ⊢
      have hL2W : w1.heap.size ≤ L2 := by have := B1.size; omega
      have hsB := O1.lt
      rw [← hL2] at hsB
      have hLL : L ≠ L2 := by omega
      clear p0 p1 r0 R1 O1 B1 hb2W
      generalize (W1.alloc (Obj.cells #[.bool ov, .int .u64 x0] 40)).drew = W2 at *
      clear hL2
      have q0 := Q2.cell (show 0 < 2 by omega)
      simp only [ocell] at q0
      cases ov
      · go_upto_region 13 with fail
        have r0 := Q2.cell (show 0 < 2 by omega)
        have r1 := Q2.cell (show 1 < 2 by omega)
        simp only [ocell] at r0 r1
        have hs := B2.size
        have O5 := O2.alloc (Obj.cells #[.bool false, .int .u64 x0] 40)
        have B5 := bal B2 (Obj.cells #[.bool false, .int .u64 x0] 40)
        have N5 := news2 W2 false x0
        have o5 := one2 false x0
        have h5 : w1.heap.size ≤ (W2.alloc (Obj.cells #[.bool false, .int .u64 x0] 40)).heap.size := by simp; omega
        obtain ⟨hi, hz, hs0, hbb⟩ := HI.out
        have hlB := O5.lt
        clear Q2 u0 u1 l0 l1 l2 l3
        go_wp2_with (at_builtin; refine wpList_append_own _ rfl (.tmp 66) (.tmp 68) 35 rfl w1.heap.size 40 i0 _ 2 16 Try.underlying35 hi hz hs0 hbb rfl (by decide) _ q _ rfl O5 ⟨W2.heap.size, 0, none⟩ 1 1 [.bool false, .int .u64 x0] rfl rfl N5 o5 ?c3 ?c4 ?c5 ?_)
        case c3 => unfold maxLen; omega
        case c4 => omega
        case c5 => first | exact h5 | omega
        intro v' w6 hown hgr _
        have B6 := Lib.hid (B5.grown hgr h5 (fun k hk => (hlB k hk).1))
        have O6 := Lib.hid hown
        have NS2 : Hid (newsP (sm n f o) (q + 1) = newsP (sm n f o) q ++ [.bool false, .int .u64 (x0)]) := by
          show _ = _
          rw [NS.out, SQ.out]; rfl
        clear hown hgr O5 B5 O2 B2 N5 o5 h5 r0 r1 hi hz hs0 hbb hlB NS SQ
        go_wp2
        go_roundw
        case rel => exact ⟨q + 1, by omega, by go_num, by rw [NS2.out]; exact O6.out, B6.out⟩
        case measure => simp [intOf]; omega
      · obtain ⟨p0, p1⟩ := HQ.out
        rw [← B2.cell hb2] at p0 p1
        have r1 := R2.cell (show 1 < 3 by omega)
        have q1 := Q2.cell (show 1 < 2 by omega)
        have f1 := Q2.frozen 1
        simp only [pcell] at r1
        simp only [ocell] at q1
        have hL2w := Q2.lt
        have Q3 := Lib.hid (orow_x (t := y0 + ox % 2) Q2).drew
        have B3 := Lib.hid (B2.setCell (p := ⟨L2, 1, none⟩) hL2W (.int .u64 (y0 + ox % 2))).drew
        have O3 := Lib.hid (own_drew (own_set O2 (L := L2) (fun h0 => by have := (hsB L2 h0).2; omega) 1 (.int .u64 (y0 + ox % 2))))
        go_upto_region 12 with fail
        go_still_tail 10, (by kernel_rfl)
        go_upto_region 13 with fail
        have Q3 := Q3.out
        have B3 := B3.out
        have O3 := O3.out
        clear p0 p1 r1 q0 q1 f1 Q2 B2 O2 R2 hL2w
        generalize (W2.setCell ⟨L2, 1, none⟩ (.int .u64 (y0 + ox % 2))).drew = W3 at *
        have r0 := Q3.cell (show 0 < 2 by omega)
        have r1 := Q3.cell (show 1 < 2 by omega)
        simp only [ocell] at r0 r1
        have hs := B3.size
        have O5 := O3.alloc (Obj.cells #[.bool true, .int .u64 (y0 + ox % 2)] 40)
        have B5 := bal B3 (Obj.cells #[.bool true, .int .u64 (y0 + ox % 2)] 40)
        have N5 := news2 W3 true (y0 + ox % 2)
        have o5 := one2 true (y0 + ox % 2)
        have h5 : w1.heap.size ≤ (W3.alloc (Obj.cells #[.bool true, .int .u64 (y0 + ox % 2)] 40)).heap.size := by simp; omega
        obtain ⟨hi, hz, hs0, hbb⟩ := HI.out
        have hlB := O5.lt
        clear Q3 u0 u1 l0 l1 l2 l3
        go_wp2_with (at_builtin; refine wpList_append_own _ rfl (.tmp 66) (.tmp 68) 35 rfl w1.heap.size 40 i0 _ 2 16 Try.underlying35 hi hz hs0 hbb rfl (by decide) _ q _ rfl O5 ⟨W3.heap.size, 0, none⟩ 1 1 [.bool true, .int .u64 (y0 + ox % 2)] rfl rfl N5 o5 ?c3 ?c4 ?c5 ?_)
        case c3 => unfold maxLen; omega
        case c4 => omega
        case c5 => first | exact h5 | omega
        intro v' w6 hown hgr _
        have B6 := Lib.hid (B5.grown hgr h5 (fun k hk => (hlB k hk).1))
        have O6 := Lib.hid hown
        have NS2 : Hid (newsP (sm n f o) (q + 1) = newsP (sm n f o) q ++ [.bool true, .int .u64 ((y0 + ox % 2))]) := by
          show _ = _
          rw [NS.out, SQ.out]; rfl
        clear hown hgr O5 B5 O3 B3 N5 o5 h5 r0 r1 hi hz hs0 hbb hlB NS SQ
        go_wp2
        go_roundw
        case rel => exact ⟨q + 1, by omega, by go_num, by rw [NS2.out]; exact O6.out, B6.out⟩
        case measure => simp [intOf]; omega
    · have hqp : q = p := by omega
      subst hqp
      obtain ⟨A9, c9, hv9, Z0⟩ := pls_of_own OW (by omega)
      subst hv9
      have S0 := HS.out.below BW (Nat.le_refl _)
      have H0 := HH.out.below BW (Nat.le_refl _)
      have P0 := HP.out.below BW (Nat.le_refl _)
      have B0 := bel2 B0 BW
      clear OW BW HS HH HP HU HI
      obtain ⟨r1, C1⟩ := saf2 m g a q o
      obtain ⟨r2, C2⟩ := saf2 n f x q o
      obtain ⟨r3, C3⟩ := saf2 n f x q (sm n f o)
      obtain ⟨r4, C4⟩ := saf2 n f a q (sm n f o)
      have C1 := Lib.hid C1
      have C2 := Lib.hid C2
      have C3 := Lib.hid C3
      have C4 := Lib.hid C4
      go_wp2_with fail
      refine (C1.out _ _ _ _ _ H0 P0).1.mono ?_
      rintro e y0 ⟨rfl, b0⟩
      have S1 := S0.below b0 (Nat.le_refl _)
      have H1 := H0.below b0 (Nat.le_refl _)
      have P1 := P0.below b0 (Nat.le_refl _)
      have Z1 := Z0.below b0 (Nat.le_refl _)
      have B1 := bel2 B0 b0
      clear S0 H0 P0 Z0 B0 b0
      go_wp2_with fail
      refine (C1.out _ _ _ _ _ H1 P1).2.mono ?_
      rintro e y1 ⟨rfl, b1⟩
      have S2 := S1.below b1 (Nat.le_refl _)
      have H2 := H1.below b1 (Nat.le_refl _)
      have P2 := P1.below b1 (Nat.le_refl _)
      have Z2 := Z1.below b1 (Nat.le_refl _)
      have B2 := bel2 B1 b1
      clear S1 H1 P1 Z1 B1 b1
      go_wp2_with fail
      refine (C2.out _ _ _ _ _ S2 P2).1.mono ?_
      rintro e y2 ⟨rfl, b2⟩
      have S3 := S2.below b2 (Nat.le_refl _)
      have H3 := H2.below b2 (Nat.le_refl _)
      have P3 := P2.below b2 (Nat.le_refl _)
      have Z3 := Z2.below b2 (Nat.le_refl _)
      have B3 := bel2 B2 b2
      clear S2 H2 P2 Z2 B2 b2
      go_wp2_with fail
      refine (C2.out _ _ _ _ _ S3 P3).2.mono ?_
      rintro e y3 ⟨rfl, b3⟩
      have S4 := S3.below b3 (Nat.le_refl _)
      have H4 := H3.below b3 (Nat.le_refl _)
      have P4 := P3.below b3 (Nat.le_refl _)
      have Z4 := Z3.below b3 (Nat.le_refl _)
      have B4 := bel2 B3 b3
      clear S3 H3 P3 Z3 B3 b3
      go_wp2_with fail
      refine (C3.out _ _ _ _ _ S4 Z4).1.mono ?_
      rintro e y4 ⟨rfl, b4⟩
      have S5 := S4.below b4 (Nat.le_refl _)
      have H5 := H4.below b4 (Nat.le_refl _)
      have P5 := P4.below b4 (Nat.le_refl _)
      have Z5 := Z4.below b4 (Nat.le_refl _)
      have B5 := bel2 B4 b4
      clear S4 H4 P4 Z4 B4 b4
      go_wp2_with fail
      refine (C3.out _ _ _ _ _ S5 Z5).2.mono ?_
      rintro e y5 ⟨rfl, b5⟩
      have S6 := S5.below b5 (Nat.le_refl _)
      have H6 := H5.below b5 (Nat.le_refl _)
      have P6 := P5.below b5 (Nat.le_refl _)
      have Z6 := Z5.below b5 (Nat.le_refl _)
      have B6 := bel2 B5 b5
      clear S5 H5 P5 Z5 B5 b5
      go_wp2_with fail
      refine (C4.out _ _ _ _ _ S6 Z6).1.mono ?_
      rintro e y6 ⟨rfl, b6⟩
      have S7 := S6.below b6 (Nat.le_refl _)
      have H7 := H6.below b6 (Nat.le_refl _)
      have P7 := P6.below b6 (Nat.le_refl _)
      have Z7 := Z6.below b6 (Nat.le_refl _)
      have B7 := bel2 B6 b6
      clear S6 H6 P6 Z6 B6 b6
      go_wp2_with fail
      refine (C4.out _ _ _ _ _ S7 Z7).2.mono ?_
      rintro e y7 ⟨rfl, b7⟩
      have S8 := S7.below b7 (Nat.le_refl _)
      have H8 := H7.below b7 (Nat.le_refl _)
      have P8 := P7.below b7 (Nat.le_refl _)
      have Z8 := Z7.below b7 (Nat.le_refl _)
      have B8 := bel2 B7 b7
      clear S7 H7 P7 Z7 B7 b7
      go_wp2_with fail
      refine (awake_any _).mono ?_
      rintro e y9 ⟨rfl, b9⟩
      go_wp2
      go_ret
      exact ⟨rfl, bel2 B8 b9⟩
end Go.Proofs.Ytfmaadfccnjnjaa
