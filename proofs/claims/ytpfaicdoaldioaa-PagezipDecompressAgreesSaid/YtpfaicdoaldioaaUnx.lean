/- The reference's unpack: the walk. -/
import Derived.Test.YtpfaicdoaldioaaDag
namespace Go.Proofs.Ytpfaicdoaldioaa
open Go.ChangeShapes Go.WideShapes Go.ChangeAt Go.RowKit Go.Deep Go.Joins

structure U2 (w W : World) (v : Value) (l : List Int) (D : Nat → Int) : Prop where
  own : W.ownsRow (w.heap.size + 1) 5 1 v l.length (l.map (Value.int .u8))
  dic : Dct W w.heap.size D
  bel : Below w.heap.size w W
theorem U2.drewN {w W : World} {v : Value} {l : List Int} {D : Nat → Int} (h : U2 w W v l D) (n : Nat) : U2 w (W.drewN n) v l D := ⟨h.own, ⟨h.dic.obj⟩, ⟨h.bel.os, h.bel.tape, h.bel.output, h.bel.size, h.bel.block⟩⟩
theorem U2.dset {w W : World} {v : Value} {l : List Int} {D : Nat → Int} (h : U2 w W v l D) (k : Nat) (x : Int) : U2 w (W.setCell ⟨w.heap.size, k, none⟩ (.int .u32 x)) v l (fun j => if j = k then x else D j) :=
  ⟨own_chg h.own (Chg.set W w.heap.size k _) (fun j hj e => by have := (h.own.lt j hj).1; omega), h.dic.set k x, h.bel.grown (g_store W w.heap.size k _) h.bel.size (fun j hj => by injection hj with hj; omega)⟩
theorem U2.grow {w W w1 : World} {v v' : Value} {l : List Int} {D : Nat → Int} (h : U2 w W v l D) (x : Int) (o : Obj) (hown : w1.ownsRow (w.heap.size + 1) 5 1 v' (l.length + 4) (l.map (Value.int .u8) ++ [.int .u8 (x % 256), .int .u8 (x / 256 % 256), .int .u8 (x / 65536 % 256), .int .u8 (x / 16777216 % 256)])) (hg : (W.alloc o).grownBy w1 v.ownBlock) : U2 w w1 v' (l ++ leI x 4) D := by
  have e1 : l.map (Value.int .u8) ++ [.int .u8 (x % 256), .int .u8 (x / 256 % 256), .int .u8 (x / 65536 % 256), .int .u8 (x / 16777216 % 256)] = (l ++ leI x 4).map (Value.int .u8) := by rw [leI4]; simp
  have e2 : l.length + 4 = (l ++ leI x 4).length := by rw [List.length_append, leI_len]
  rw [e1, e2] at hown
  have hlt := h.own.lt
  exact ⟨hown, (h.dic.chg (Chg.alloc (fun _ => False) W o) (fun x => x)).chg (Chg.of_grown hg) (fun e => by have := (hlt _ e).1; omega), (bal h.bel o).grown hg (by have := h.bel.size; simp; omega) (fun j hj => by have := (hlt j hj).1; omega)⟩
set_option maxRecDepth 20000 in
set_option maxHeartbeats 16000000 in
theorem unp_any (s : ByteArray) (w : World) (hz : s.size ≤ 281474976710656) : Calls Try.prog 20 #[.string s] w (ExP w (unR s)) := by
  by_cases hl : s.size < 17
  · have F : Hid (unR s = none) := by show _ = _; unfold unR; rw [if_pos hl]
    go_enter Try.func20, Try.ntmps20
    go_wp2
    go_ret2
    exact ExP.none' F.out (Below.refl _ _)
  have F : Hid (∀ n : Nat, n = 64 → unR s = (unS s n).map (fun t => strOfNums t.l)) := fun n hn => by subst hn; unfold unR; rw [if_neg hl]
  have FN : Hid (∀ i : Nat, i ≤ 64 → unS s i = none → unR s = none) := fun i hi h => by
    rw [F.out 64 rfl]
    have := unS_none s i h (64 - i)
    rw [show i + (64 - i) = 64 by omega] at this
    rw [this]
    rfl
  obtain ⟨i0, hi, hz0, hz1, hz2⟩ := info_parts info5
  have HI := Lib.hid (And.intro hi (And.intro hz0 (And.intro hz1 hz2)))
  clear hi hz0 hz1 hz2
  go_enter Try.func20, Try.ntmps20
  go_wp2_with fail
  have X0' := us_0 s w
  have X0 : Hid (U2 w _ (.slice none 0 0) [] (fun _ => 0)) := ⟨X0'.own, X0'.dic, X0'.bel⟩
  clear X0'
  generalize hw0 : w.alloc _ = w0 at *
  clear hw0
  go_loopg [7, 5, 6] 64 (fun g vi vo va wr => ∃ i : Nat, ∃ t : Ust, i + g = 64 ∧ vi = .int .i64 i ∧ va = .int .i64 t.at' ∧ unS s i = some t ∧ U2 w wr vo t.l t.d)
  case atStart => exact ⟨0, ⟨[], 17, fun _ => 0⟩, rfl, rfl, rfl, rfl, X0.out⟩
  case round =>
    clear X0
    obtain ⟨i, t, hi, rfl, rfl, hE, hX⟩ := hrel
    by_cases hlt : i < 64
    · obtain ⟨g, rfl⟩ : ∃ g, gk = g + 1 := ⟨gk - 1, by omega⟩
      obtain ⟨l, k, d⟩ := t
      replace hX : U2 w wr _ l d := hX
      obtain ⟨hl4, hd, ha1, ha2⟩ := unS_inv s i _ hE (by omega)
      have ET := tagN_eq s i
      have htl := tagN_lt s i
      have hq : ((i : Int)).tdiv 4 = ((i / 4 : Nat) : Int) := by rw [Int.tdiv_eq_ediv_of_nonneg (by omega)]; omega
      have hrr : ((i : Int)).tmod 4 = ((i % 4 : Nat) : Int) := by rw [Int.tmod_eq_emod_of_nonneg (by omega)]; omega
      obtain ⟨q, hqq⟩ : ∃ q, i / 4 = q := ⟨_, rfl⟩
      obtain ⟨r, hr2⟩ : ∃ r, i % 4 = r := ⟨_, rfl⟩
      rw [hqq] at ET hq
      rw [hr2] at ET hrr
      have hq16 : q < 16 := by omega
      have hr4 : r < 4 := by omega
      have hx := bt_bd s (1 + q)
      have hsz : 1 + q < s.size := by omega
      have hax := bt_at s (1 + q) hsz
      have hA := and3 (bt s (1 + q) / 2 ^ (2 * r)) (Int.ediv_nonneg hx.1 (Int.le_of_lt (Int.pow_pos (by omega)))) (by have := Int.ediv_le_self (2 ^ (2 * r)) hx.1; omega)
      rw [← ET] at hA
      have EX : Hid (unS s (i + 1) = unN s ⟨l, k, d⟩ (tagN s i)) := by show (unS s i).bind _ = _; rw [hE]; rfl
      have HG := Lib.hid hi
      have HX := Lib.hid hX
      replace ha1 : 17 ≤ k := ha1
      replace ha2 : k ≤ s.size := ha2
      replace hd : D32 d := hd
      replace hl4 : l.length = 4 * i := hl4
      have h3 : decide ((i : Int) < 64) = true := decide_eq_true (by omega)
      clear ET hi hX hE
      generalize tagN s i = tag at *
      generalize bt s (1 + q) = xb at *
      have H4 := Lib.hid hl4
      clear hqq hr2 hl4
      have j1 : (0 : Int) ≤ 1 + (q : Int) := by omega
      have j2 : ((1 : Int) + (q : Int)).toNat = 1 + q := by omega
      have j7 : (1 : Int) + (q : Int) < (s.size : Int) := by omega
      have j5 : ((2 : Int) * (r : Int)).toNat = 2 * r := by omega
      go_upto_region 10 with fail
      clear hA
      rcases (show tag = 0 ∨ tag = 1 ∨ tag = 2 ∨ tag = 3 by omega) with rfl | rfl | rfl | rfl
      · have E2 : Hid (unS s (i + 1) = some ⟨l ++ leI (unW s k d 0) 4, k + 0, dstep d (unW s k d 0)⟩) := by
          show _ = _
          rw [EX.out]
          unfold unN
          rw [if_neg (show ¬ s.size < k + usz 0 from by show ¬ s.size < k + 0; omega), if_neg (show ¬ ((0 = 1 ∨ 0 = 2) ∧ 15 < bt s k) from by omega)]
          rfl
        have hxb := unW_bd s k d 0 hd
        have hsl : (unW s k d 0 / 65536).tmod 16 = (slotN (unW s k d 0) : Int) := by rw [Int.tmod_eq_emod_of_nonneg (by omega)]; exact (slotN_eq _).symm
        have c2 : 0 ≤ (s.size : Int) - (k : Int) := by omega
        clear F FN EX
        have EW : unW s k d 0 = 0 := rfl
        have ix := ixA0
        obtain ⟨x, hxx⟩ : ∃ x : Int, x = 0 := ⟨0, rfl⟩
        rw [EW] at E2
        have ED : Hid (dstep d 0 = d) := by show _ = _; unfold dstep; rw [if_pos rfl]
        have Z0 := HX
        clear hsl hxb EW hxx HX
        clear x
        obtain ⟨W1, hW⟩ : ∃ W1, wr = W1 := ⟨_, rfl⟩
        subst hW
        go_wp2_with (at_builtin; refine wpList_append_own _ rfl (.tmp 119) (.tmp 131) 31 rfl (w.heap.size + 1) 5 i0 _ 1 1 Try.underlying31 HI.out.1 HI.out.2.1 HI.out.2.2.1 HI.out.2.2.2 rfl (by decide) _ l.length (l.map (Value.int .u8)) rfl (Z0.out.own.alloc (.cells #[.int .u8 0, .int .u8 0, .int .u8 0, .int .u8 0] 5)) ⟨wr.heap.size, 0, none⟩ 4 4 [.int .u8 0, .int .u8 0, .int .u8 0, .int .u8 0] rfl rfl ?c1 ?c2 ?c3 ?c4 ?c5 ?_)
        case c1 => intro j u hu; match j, hu with | 0, hu => (simp at hu; subst hu; simp [Addr.add, go_sem]) | 1, hu => (simp at hu; subst hu; simp [Addr.add, go_sem]) | 2, hu => (simp at hu; subst hu; simp [Addr.add, go_sem]) | 3, hu => (simp at hu; subst hu; simp [Addr.add, go_sem])
        case c2 => intro u hu; simp at hu; rcases hu with rfl | rfl | rfl | rfl <;> rfl
        case c3 => have := H4.out; unfold maxLen; omega
        case c4 => have := H4.out; omega
        case c5 => have := Z0.out.dic.lt; simp; omega
        intro v' w4 hown hgr _
        have X4 := Lib.hid (Z0.out.grow 0 _ hown hgr)
        clear hown hgr Z0
        go_wp2_with fail
        go_roundg g
        case measure => omega
        case rel => exact ⟨i + 1, ⟨l ++ leI 0 4, k + 0, dstep d 0⟩, by have := HG.out; omega, by go_num, by go_num, E2.out, by show U2 w w4 v' (l ++ leI 0 4) (dstep d 0); rw [ED.out]; exact X4.out⟩
      · by_cases c : s.size < k + 1
        · have F2 : Hid (unR s = none) := FN.out (i + 1) (by omega) (by rw [EX.out]; unfold unN; rw [if_pos (show s.size < k + usz 1 from c)])
          have ix := ixA1
          have c2 : (s.size : Int) - (k : Int) < 1 := by omega
          have HB := Lib.hid HX.out.bel
          clear F FN EX HX c
          go_wp2
          go_ret2
          exact ExP.none' F2.out HB.out
        by_cases c3 : 15 < bt s k
        · have F2 : Hid (unR s = none) := FN.out (i + 1) (by omega) (by rw [EX.out]; unfold unN; rw [if_neg (show ¬ s.size < k + usz 1 from c), if_pos (show (1 = 1 ∨ 1 = 2) ∧ 15 < bt s k from ⟨by omega, c3⟩)])
          have ix := ixA1
          have c2 : 1 ≤ (s.size : Int) - (k : Int) := by omega
          have hks : k < s.size := by omega
          have hb0 := bt_bd s k
          have hk0 := bt_at s k hks
          have HB := Lib.hid HX.out.bel
          clear F FN EX HX
          generalize bt s k = b at *
          go_wp2
          go_ret2
          exact ExP.none' F2.out HB.out
        · have E2 : Hid (unS s (i + 1) = some ⟨l ++ leI (unW s k d 1) 4, k + 1, dstep d (unW s k d 1)⟩) := by
            show _ = _
            rw [EX.out]
            unfold unN
            rw [if_neg (show ¬ s.size < k + usz 1 from c), if_neg (show ¬ ((1 = 1 ∨ 1 = 2) ∧ 15 < bt s k) from fun h => c3 h.2)]
            rfl
          have hxb := unW_bd s k d 1 hd
          have hsl : (unW s k d 1 / 65536).tmod 16 = (slotN (unW s k d 1) : Int) := by rw [Int.tmod_eq_emod_of_nonneg (by omega)]; exact (slotN_eq _).symm
          have c2 : 1 ≤ (s.size : Int) - (k : Int) := by omega
          clear F FN EX
          have hks : k < s.size := by omega
          have hb0 := bt_bd s k
          have hk0 := bt_at s k hks
          obtain ⟨m, hm⟩ : ∃ m : Nat, bt s k = m := ⟨(bt s k).toNat, by omega⟩
          have hm16 : m < 16 := by omega
          have EW : unW s k d 1 = d m := by unfold unW; rw [if_neg (by omega), if_pos rfl, hm]; rfl
          have cdm := HX.out.dic.cell m hm16
          rw [EW] at E2 hsl hxb
          rw [hm] at hk0
          have ix := ixA1
          have Z0 := HX
          clear HX c c3 hm hb0 EW
          generalize hdm : d m = x at *
          have HD := Lib.hid hdm
          clear hdm
          go_upto_region 21 with fail
          clear cdm
          obtain ⟨W1, hW⟩ : ∃ W1, wr = W1 := ⟨_, rfl⟩
          rw [hW] at Z0 ⊢
          clear hW
          by_cases cx : x = 0
          · have e0 : (x == 0) = true := beq_iff_eq.2 cx
            have ED : Hid (dstep d x = d) := by show _ = _; unfold dstep; rw [if_pos cx]
            clear cx hsl
            have k0 : IntKind.u8.wrap x = x % 256 := wrap_u8 _
            have k1 : IntKind.u8.wrap (x / 256) = x / 256 % 256 := wrap_u8 _
            have k2 : IntKind.u8.wrap (x / 65536) = x / 65536 % 256 := wrap_u8 _
            have k3 : IntKind.u8.wrap (x / 16777216) = x / 16777216 % 256 := wrap_u8 _
            go_wp2_with (at_builtin; refine wpList_append_own _ rfl (.tmp 119) (.tmp 131) 31 rfl (w.heap.size + 1) 5 i0 _ 1 1 Try.underlying31 HI.out.1 HI.out.2.1 HI.out.2.2.1 HI.out.2.2.2 rfl (by decide) _ l.length (l.map (Value.int .u8)) rfl (Z0.out.own.alloc (.cells #[.int .u8 (x % 256), .int .u8 (x / 256 % 256), .int .u8 (x / 65536 % 256), .int .u8 (x / 16777216 % 256)] 5)) ⟨W1.heap.size, 0, none⟩ 4 4 [.int .u8 (x % 256), .int .u8 (x / 256 % 256), .int .u8 (x / 65536 % 256), .int .u8 (x / 16777216 % 256)] rfl rfl ?c1 ?c2 ?c3 ?c4 ?c5 ?_)
            case c1 => intro j u hu; match j, hu with | 0, hu => (simp at hu; subst hu; simp [Addr.add, go_sem]) | 1, hu => (simp at hu; subst hu; simp [Addr.add, go_sem]) | 2, hu => (simp at hu; subst hu; simp [Addr.add, go_sem]) | 3, hu => (simp at hu; subst hu; simp [Addr.add, go_sem])
            case c2 => intro u hu; simp at hu; rcases hu with rfl | rfl | rfl | rfl <;> rfl
            case c3 => have := H4.out; unfold maxLen; omega
            case c4 => have := H4.out; omega
            case c5 => have := Z0.out.dic.lt; simp; omega
            intro v' w4 hown hgr _
            have X4 := Lib.hid (Z0.out.grow x _ hown hgr)
            clear hown hgr Z0 k0 k1 k2 k3
            go_wp2_with fail
            go_roundg g
            case measure => omega
            case rel => exact ⟨i + 1, ⟨l ++ leI x 4, k + 1, dstep d x⟩, by have := HG.out; omega, by go_num, by go_num, E2.out, by show U2 w w4 v' (l ++ leI x 4) (dstep d x); rw [ED.out]; exact X4.out⟩
          · have e0 : (x == 0) = false := beq_eq_false_iff_ne.2 cx
            have hkk := slotN_lt x
            have ED : Hid (dstep d x = fun j => if j = slotN x then x else d j) := by show _ = _; unfold dstep; rw [if_neg cx]
            have cd := Z0.out.dic.cell (slotN x) hkk
            have fd := Z0.out.dic.frozen (slotN x)
            have Z1 := Lib.hid (Z0.out.dset (slotN x) x)
            generalize slotN x = sx at *
            clear cx Z0
            go_upto_region 24 with fail
            clear cd fd hsl
            generalize W1.setCell ⟨w.heap.size, sx, none⟩ (.int .u32 x) = W2 at *
            have k0 : IntKind.u8.wrap x = x % 256 := wrap_u8 _
            have k1 : IntKind.u8.wrap (x / 256) = x / 256 % 256 := wrap_u8 _
            have k2 : IntKind.u8.wrap (x / 65536) = x / 65536 % 256 := wrap_u8 _
            have k3 : IntKind.u8.wrap (x / 16777216) = x / 16777216 % 256 := wrap_u8 _
            go_wp2_with (at_builtin; refine wpList_append_own _ rfl (.tmp 119) (.tmp 131) 31 rfl (w.heap.size + 1) 5 i0 _ 1 1 Try.underlying31 HI.out.1 HI.out.2.1 HI.out.2.2.1 HI.out.2.2.2 rfl (by decide) _ l.length (l.map (Value.int .u8)) rfl (Z1.out.own.alloc (.cells #[.int .u8 (x % 256), .int .u8 (x / 256 % 256), .int .u8 (x / 65536 % 256), .int .u8 (x / 16777216 % 256)] 5)) ⟨W2.heap.size, 0, none⟩ 4 4 [.int .u8 (x % 256), .int .u8 (x / 256 % 256), .int .u8 (x / 65536 % 256), .int .u8 (x / 16777216 % 256)] rfl rfl ?c1 ?c2 ?c3 ?c4 ?c5 ?_)
            case c1 => intro j u hu; match j, hu with | 0, hu => (simp at hu; subst hu; simp [Addr.add, go_sem]) | 1, hu => (simp at hu; subst hu; simp [Addr.add, go_sem]) | 2, hu => (simp at hu; subst hu; simp [Addr.add, go_sem]) | 3, hu => (simp at hu; subst hu; simp [Addr.add, go_sem])
            case c2 => intro u hu; simp at hu; rcases hu with rfl | rfl | rfl | rfl <;> rfl
            case c3 => have := H4.out; unfold maxLen; omega
            case c4 => have := H4.out; omega
            case c5 => have := Z1.out.dic.lt; simp; omega
            intro v' w4 hown hgr _
            have X4 := Lib.hid (Z1.out.grow x _ hown hgr)
            clear hown hgr Z1 k0 k1 k2 k3
            go_wp2_with fail
            go_roundg g
            case measure => omega
            case rel => exact ⟨i + 1, ⟨l ++ leI x 4, k + 1, dstep d x⟩, by have := HG.out; omega, by go_num, by go_num, E2.out, by show U2 w w4 v' (l ++ leI x 4) (dstep d x); rw [ED.out]; exact X4.out⟩
      · by_cases c : s.size < k + 3
        · have F2 : Hid (unR s = none) := FN.out (i + 1) (by omega) (by rw [EX.out]; unfold unN; rw [if_pos (show s.size < k + usz 2 from c)])
          have ix := ixA2
          have c2 : (s.size : Int) - (k : Int) < 3 := by omega
          have HB := Lib.hid HX.out.bel
          clear F FN EX HX c
          go_wp2
          go_ret2
          exact ExP.none' F2.out HB.out
        by_cases c3 : 15 < bt s k
        · have F2 : Hid (unR s = none) := FN.out (i + 1) (by omega) (by rw [EX.out]; unfold unN; rw [if_neg (show ¬ s.size < k + usz 2 from c), if_pos (show (2 = 1 ∨ 2 = 2) ∧ 15 < bt s k from ⟨by omega, c3⟩)])
          have ix := ixA2
          have c2 : 3 ≤ (s.size : Int) - (k : Int) := by omega
          have hks : k < s.size := by omega
          have hb0 := bt_bd s k
          have hk0 := bt_at s k hks
          have HB := Lib.hid HX.out.bel
          clear F FN EX HX
          generalize bt s k = b at *
          go_wp2
          go_ret2
          exact ExP.none' F2.out HB.out
        · have E2 : Hid (unS s (i + 1) = some ⟨l ++ leI (unW s k d 2) 4, k + 3, dstep d (unW s k d 2)⟩) := by
            show _ = _
            rw [EX.out]
            unfold unN
            rw [if_neg (show ¬ s.size < k + usz 2 from c), if_neg (show ¬ ((2 = 1 ∨ 2 = 2) ∧ 15 < bt s k) from fun h => c3 h.2)]
            rfl
          have hxb := unW_bd s k d 2 hd
          have hsl : (unW s k d 2 / 65536).tmod 16 = (slotN (unW s k d 2) : Int) := by rw [Int.tmod_eq_emod_of_nonneg (by omega)]; exact (slotN_eq _).symm
          have c2 : 3 ≤ (s.size : Int) - (k : Int) := by omega
          clear F FN EX
          have hks : k < s.size := by omega
          have hks1 : k + 1 < s.size := by omega
          have hks2 : k + 2 < s.size := by omega
          have hb0 := bt_bd s k
          have hk0 := bt_at s k hks
          have a1 := bt_at s (k + 1) hks1
          have a2 := bt_at s (k + 2) hks2
          have b1 := bt_bd s (k + 1)
          have b2 := bt_bd s (k + 2)
          obtain ⟨m, hm⟩ : ∃ m : Nat, bt s k = m := ⟨(bt s k).toNat, by omega⟩
          have hm16 : m < 16 := by omega
          have EW : Hid (unW s k d 2 = d m / 65536 * 65536 + bt s (k + 1) + bt s (k + 2) * 256) := by show _ = _; unfold unW; rw [if_neg (by omega), if_neg (by omega), if_pos rfl, hm]; rfl
          have cdm := HX.out.dic.cell m hm16
          have hdm := hd m
          rw [hm] at hk0
          have ix := ixA2
          have Z0 := HX
          clear HX c c3 hm hb0
          go_upto_region 18 with fail
          have n1 : (0 : Int) ≤ (k : Int) + 1 := by omega
          have n2 : (0 : Int) ≤ (k : Int) + 2 := by omega
          have n3 : (0 : Int) ≤ (k : Int) + 3 := by omega
          have m1 : ((k : Int) + 1).toNat = k + 1 := by omega
          have m2 : ((k : Int) + 2).toNat = k + 2 := by omega
          have m3 : ((k : Int) + 3).toNat = k + 3 := by omega
          have l0 : (k : Int) < (s.size : Int) := by omega
          have l1 : (k : Int) + 1 < (s.size : Int) := by omega
          have l2 : (k : Int) + 2 < (s.size : Int) := by omega
          go_quiet (fail)
          rw [← EW.out]
          clear n1 n2 n3 m1 m2 m3 l0 l1 l2 cdm hdm a1 a2 b1 b2 EW
          have Z0 := Lib.hid (Z0.out.drewN nq)
          generalize unW s k d 2 = x at *
          go_upto_region 21 with fail
          generalize wr.drewN nq = W1 at *
          by_cases cx : x = 0
          · have e0 : (x == 0) = true := beq_iff_eq.2 cx
            have ED : Hid (dstep d x = d) := by show _ = _; unfold dstep; rw [if_pos cx]
            clear cx hsl
            have k0 : IntKind.u8.wrap x = x % 256 := wrap_u8 _
            have k1 : IntKind.u8.wrap (x / 256) = x / 256 % 256 := wrap_u8 _
            have k2 : IntKind.u8.wrap (x / 65536) = x / 65536 % 256 := wrap_u8 _
            have k3 : IntKind.u8.wrap (x / 16777216) = x / 16777216 % 256 := wrap_u8 _
            go_wp2_with (at_builtin; refine wpList_append_own _ rfl (.tmp 119) (.tmp 131) 31 rfl (w.heap.size + 1) 5 i0 _ 1 1 Try.underlying31 HI.out.1 HI.out.2.1 HI.out.2.2.1 HI.out.2.2.2 rfl (by decide) _ l.length (l.map (Value.int .u8)) rfl (Z0.out.own.alloc (.cells #[.int .u8 (x % 256), .int .u8 (x / 256 % 256), .int .u8 (x / 65536 % 256), .int .u8 (x / 16777216 % 256)] 5)) ⟨W1.heap.size, 0, none⟩ 4 4 [.int .u8 (x % 256), .int .u8 (x / 256 % 256), .int .u8 (x / 65536 % 256), .int .u8 (x / 16777216 % 256)] rfl rfl ?c1 ?c2 ?c3 ?c4 ?c5 ?_)
            case c1 => intro j u hu; match j, hu with | 0, hu => (simp at hu; subst hu; simp [Addr.add, go_sem]) | 1, hu => (simp at hu; subst hu; simp [Addr.add, go_sem]) | 2, hu => (simp at hu; subst hu; simp [Addr.add, go_sem]) | 3, hu => (simp at hu; subst hu; simp [Addr.add, go_sem])
            case c2 => intro u hu; simp at hu; rcases hu with rfl | rfl | rfl | rfl <;> rfl
            case c3 => have := H4.out; unfold maxLen; omega
            case c4 => have := H4.out; omega
            case c5 => have := Z0.out.dic.lt; simp; omega
            intro v' w4 hown hgr _
            have X4 := Lib.hid (Z0.out.grow x _ hown hgr)
            clear hown hgr Z0 k0 k1 k2 k3
            go_wp2_with fail
            go_roundg g
            case measure => omega
            case rel => exact ⟨i + 1, ⟨l ++ leI x 4, k + 3, dstep d x⟩, by have := HG.out; omega, by go_num, by go_num, E2.out, by show U2 w w4 v' (l ++ leI x 4) (dstep d x); rw [ED.out]; exact X4.out⟩
          · have e0 : (x == 0) = false := beq_eq_false_iff_ne.2 cx
            have hkk := slotN_lt x
            have ED : Hid (dstep d x = fun j => if j = slotN x then x else d j) := by show _ = _; unfold dstep; rw [if_neg cx]
            have cd := Z0.out.dic.cell (slotN x) hkk
            have fd := Z0.out.dic.frozen (slotN x)
            have Z1 := Lib.hid (Z0.out.dset (slotN x) x)
            generalize slotN x = sx at *
            clear cx Z0
            go_upto_region 24 with fail
            clear cd fd hsl
            generalize W1.setCell ⟨w.heap.size, sx, none⟩ (.int .u32 x) = W2 at *
            have k0 : IntKind.u8.wrap x = x % 256 := wrap_u8 _
            have k1 : IntKind.u8.wrap (x / 256) = x / 256 % 256 := wrap_u8 _
            have k2 : IntKind.u8.wrap (x / 65536) = x / 65536 % 256 := wrap_u8 _
            have k3 : IntKind.u8.wrap (x / 16777216) = x / 16777216 % 256 := wrap_u8 _
            go_wp2_with (at_builtin; refine wpList_append_own _ rfl (.tmp 119) (.tmp 131) 31 rfl (w.heap.size + 1) 5 i0 _ 1 1 Try.underlying31 HI.out.1 HI.out.2.1 HI.out.2.2.1 HI.out.2.2.2 rfl (by decide) _ l.length (l.map (Value.int .u8)) rfl (Z1.out.own.alloc (.cells #[.int .u8 (x % 256), .int .u8 (x / 256 % 256), .int .u8 (x / 65536 % 256), .int .u8 (x / 16777216 % 256)] 5)) ⟨W2.heap.size, 0, none⟩ 4 4 [.int .u8 (x % 256), .int .u8 (x / 256 % 256), .int .u8 (x / 65536 % 256), .int .u8 (x / 16777216 % 256)] rfl rfl ?c1 ?c2 ?c3 ?c4 ?c5 ?_)
            case c1 => intro j u hu; match j, hu with | 0, hu => (simp at hu; subst hu; simp [Addr.add, go_sem]) | 1, hu => (simp at hu; subst hu; simp [Addr.add, go_sem]) | 2, hu => (simp at hu; subst hu; simp [Addr.add, go_sem]) | 3, hu => (simp at hu; subst hu; simp [Addr.add, go_sem])
            case c2 => intro u hu; simp at hu; rcases hu with rfl | rfl | rfl | rfl <;> rfl
            case c3 => have := H4.out; unfold maxLen; omega
            case c4 => have := H4.out; omega
            case c5 => have := Z1.out.dic.lt; simp; omega
            intro v' w4 hown hgr _
            have X4 := Lib.hid (Z1.out.grow x _ hown hgr)
            clear hown hgr Z1 k0 k1 k2 k3
            go_wp2_with fail
            go_roundg g
            case measure => omega
            case rel => exact ⟨i + 1, ⟨l ++ leI x 4, k + 3, dstep d x⟩, by have := HG.out; omega, by go_num, by go_num, E2.out, by show U2 w w4 v' (l ++ leI x 4) (dstep d x); rw [ED.out]; exact X4.out⟩
      · by_cases c : s.size < k + 4
        · have F2 : Hid (unR s = none) := FN.out (i + 1) (by omega) (by rw [EX.out]; unfold unN; rw [if_pos (show s.size < k + usz 3 from c)])
          have ix := ixA3
          have c2 : (s.size : Int) - (k : Int) < 4 := by omega
          have HB := Lib.hid HX.out.bel
          clear F FN EX HX c
          go_wp2
          go_ret2
          exact ExP.none' F2.out HB.out
        · have E2 : Hid (unS s (i + 1) = some ⟨l ++ leI (unW s k d 3) 4, k + 4, dstep d (unW s k d 3)⟩) := by
            show _ = _
            rw [EX.out]
            unfold unN
            rw [if_neg (show ¬ s.size < k + usz 3 from c), if_neg (show ¬ ((3 = 1 ∨ 3 = 2) ∧ 15 < bt s k) from by omega)]
            rfl
          have hxb := unW_bd s k d 3 hd
          have hsl : (unW s k d 3 / 65536).tmod 16 = (slotN (unW s k d 3) : Int) := by rw [Int.tmod_eq_emod_of_nonneg (by omega)]; exact (slotN_eq _).symm
          have c2 : 4 ≤ (s.size : Int) - (k : Int) := by omega
          clear F FN EX
          have hks : k < s.size := by omega
          have hks1 : k + 1 < s.size := by omega
          have hks2 : k + 2 < s.size := by omega
          have hks3 : k + 3 < s.size := by omega
          have a0 := bt_at s k hks
          have a1 := bt_at s (k + 1) hks1
          have a2 := bt_at s (k + 2) hks2
          have a3 := bt_at s (k + 3) hks3
          have b0 := bt_bd s k
          have b1 := bt_bd s (k + 1)
          have b2 := bt_bd s (k + 2)
          have b3 := bt_bd s (k + 3)
          have EW : Hid (unW s k d 3 = bt s k + bt s (k + 1) * 256 + bt s (k + 2) * 65536 + bt s (k + 3) * 16777216) := numAt4 s k
          have ix := ixA3
          have Z0 := HX
          clear HX c
          go_upto_region 20 with fail
          have n1 : (0 : Int) ≤ (k : Int) + 1 := by omega
          have n2 : (0 : Int) ≤ (k : Int) + 2 := by omega
          have n3 : (0 : Int) ≤ (k : Int) + 3 := by omega
          have m1 : ((k : Int) + 1).toNat = k + 1 := by omega
          have m2 : ((k : Int) + 2).toNat = k + 2 := by omega
          have m3 : ((k : Int) + 3).toNat = k + 3 := by omega
          have l0 : (k : Int) < (s.size : Int) := by omega
          have l1 : (k : Int) + 1 < (s.size : Int) := by omega
          have l2 : (k : Int) + 2 < (s.size : Int) := by omega
          have l3 : (k : Int) + 3 < (s.size : Int) := by omega
          go_quiet (fail)
          rw [← EW.out]
          clear n1 n2 n3 m1 m2 m3 l0 l1 l2 l3 a0 a1 a2 a3 b0 b1 b2 b3 EW
          have Z0 := Lib.hid (Z0.out.drewN nq)
          generalize unW s k d 3 = x at *
          go_upto_region 21 with fail
          generalize wr.drewN nq = W1 at *
          by_cases cx : x = 0
          · have e0 : (x == 0) = true := beq_iff_eq.2 cx
            have ED : Hid (dstep d x = d) := by show _ = _; unfold dstep; rw [if_pos cx]
            clear cx hsl
            have k0 : IntKind.u8.wrap x = x % 256 := wrap_u8 _
            have k1 : IntKind.u8.wrap (x / 256) = x / 256 % 256 := wrap_u8 _
            have k2 : IntKind.u8.wrap (x / 65536) = x / 65536 % 256 := wrap_u8 _
            have k3 : IntKind.u8.wrap (x / 16777216) = x / 16777216 % 256 := wrap_u8 _
            go_wp2_with (at_builtin; refine wpList_append_own _ rfl (.tmp 119) (.tmp 131) 31 rfl (w.heap.size + 1) 5 i0 _ 1 1 Try.underlying31 HI.out.1 HI.out.2.1 HI.out.2.2.1 HI.out.2.2.2 rfl (by decide) _ l.length (l.map (Value.int .u8)) rfl (Z0.out.own.alloc (.cells #[.int .u8 (x % 256), .int .u8 (x / 256 % 256), .int .u8 (x / 65536 % 256), .int .u8 (x / 16777216 % 256)] 5)) ⟨W1.heap.size, 0, none⟩ 4 4 [.int .u8 (x % 256), .int .u8 (x / 256 % 256), .int .u8 (x / 65536 % 256), .int .u8 (x / 16777216 % 256)] rfl rfl ?c1 ?c2 ?c3 ?c4 ?c5 ?_)
            case c1 => intro j u hu; match j, hu with | 0, hu => (simp at hu; subst hu; simp [Addr.add, go_sem]) | 1, hu => (simp at hu; subst hu; simp [Addr.add, go_sem]) | 2, hu => (simp at hu; subst hu; simp [Addr.add, go_sem]) | 3, hu => (simp at hu; subst hu; simp [Addr.add, go_sem])
            case c2 => intro u hu; simp at hu; rcases hu with rfl | rfl | rfl | rfl <;> rfl
            case c3 => have := H4.out; unfold maxLen; omega
            case c4 => have := H4.out; omega
            case c5 => have := Z0.out.dic.lt; simp; omega
            intro v' w4 hown hgr _
            have X4 := Lib.hid (Z0.out.grow x _ hown hgr)
            clear hown hgr Z0 k0 k1 k2 k3
            go_wp2_with fail
            go_roundg g
            case measure => omega
            case rel => exact ⟨i + 1, ⟨l ++ leI x 4, k + 4, dstep d x⟩, by have := HG.out; omega, by go_num, by go_num, E2.out, by show U2 w w4 v' (l ++ leI x 4) (dstep d x); rw [ED.out]; exact X4.out⟩
          · have e0 : (x == 0) = false := beq_eq_false_iff_ne.2 cx
            have hkk := slotN_lt x
            have ED : Hid (dstep d x = fun j => if j = slotN x then x else d j) := by show _ = _; unfold dstep; rw [if_neg cx]
            have cd := Z0.out.dic.cell (slotN x) hkk
            have fd := Z0.out.dic.frozen (slotN x)
            have Z1 := Lib.hid (Z0.out.dset (slotN x) x)
            generalize slotN x = sx at *
            clear cx Z0
            go_upto_region 24 with fail
            clear cd fd hsl
            generalize W1.setCell ⟨w.heap.size, sx, none⟩ (.int .u32 x) = W2 at *
            have k0 : IntKind.u8.wrap x = x % 256 := wrap_u8 _
            have k1 : IntKind.u8.wrap (x / 256) = x / 256 % 256 := wrap_u8 _
            have k2 : IntKind.u8.wrap (x / 65536) = x / 65536 % 256 := wrap_u8 _
            have k3 : IntKind.u8.wrap (x / 16777216) = x / 16777216 % 256 := wrap_u8 _
            go_wp2_with (at_builtin; refine wpList_append_own _ rfl (.tmp 119) (.tmp 131) 31 rfl (w.heap.size + 1) 5 i0 _ 1 1 Try.underlying31 HI.out.1 HI.out.2.1 HI.out.2.2.1 HI.out.2.2.2 rfl (by decide) _ l.length (l.map (Value.int .u8)) rfl (Z1.out.own.alloc (.cells #[.int .u8 (x % 256), .int .u8 (x / 256 % 256), .int .u8 (x / 65536 % 256), .int .u8 (x / 16777216 % 256)] 5)) ⟨W2.heap.size, 0, none⟩ 4 4 [.int .u8 (x % 256), .int .u8 (x / 256 % 256), .int .u8 (x / 65536 % 256), .int .u8 (x / 16777216 % 256)] rfl rfl ?c1 ?c2 ?c3 ?c4 ?c5 ?_)
            case c1 => intro j u hu; match j, hu with | 0, hu => (simp at hu; subst hu; simp [Addr.add, go_sem]) | 1, hu => (simp at hu; subst hu; simp [Addr.add, go_sem]) | 2, hu => (simp at hu; subst hu; simp [Addr.add, go_sem]) | 3, hu => (simp at hu; subst hu; simp [Addr.add, go_sem])
            case c2 => intro u hu; simp at hu; rcases hu with rfl | rfl | rfl | rfl <;> rfl
            case c3 => have := H4.out; unfold maxLen; omega
            case c4 => have := H4.out; omega
            case c5 => have := Z1.out.dic.lt; simp; omega
            intro v' w4 hown hgr _
            have X4 := Lib.hid (Z1.out.grow x _ hown hgr)
            clear hown hgr Z1 k0 k1 k2 k3
            go_wp2_with fail
            go_roundg g
            case measure => omega
            case rel => exact ⟨i + 1, ⟨l ++ leI x 4, k + 4, dstep d x⟩, by have := HG.out; omega, by go_num, by go_num, E2.out, by show U2 w w4 v' (l ++ leI x 4) (dstep d x); rw [ED.out]; exact X4.out⟩
    · have F2 : Hid (unR s = some (strOfNums t.l)) := by show _ = _; rw [F.out i (by omega), hE]; rfl
      have hl4 := (unS_inv s i t hE (by omega)).1
      have h3 : ¬ (i : Int) < 64 := by omega
      have h4 : decide ((i : Int) < 64) = false := decide_eq_false h3
      have hO := hX.own
      obtain ⟨b, c, rfl⟩ := own_form hO (by omega)
      have hcv := run_convert_bytes_arg (P := Try.prog) wr 31 5 Try.underlying31 Try.underlying5 b 0 t.l.length c t.l rfl (fun j hj => by
        rw [Nat.zero_add, hO.cellAt j (by omega), List.getElem?_map, List.getD_eq_getElem?_getD, List.getElem?_eq_getElem hj]
        rfl) 9 Try.underlying9
      have HB := Lib.hid hX.bel
      clear hX hO F FN hi hlt hl4 hE
      generalize t.l = l at *
      generalize strOfNums l = z at *
      go_upto_region 25 with fail
      clear h3 h4
      go_wp2
      go_ret2
      exact ExP.some' F2.out HB.out
theorem dag_any (t : ByteArray) (A : Option Addr) (n c : Nat) (Z : Nat → Int) (s v d : Int) (w : World) (ht : t.size ≤ 140737488351232) (h : Ns .u32 w A n Z ∧ n ≤ c ∧ c ≤ 9223372036854775807) (hw : (Lit.int .u8 s).wf = true) (hv : (Lit.int .i64 v).wf = true) (hd : (Lit.int .u8 d).wf = true) : Calls Try.prog 5 #[.string t, .slice A n c, .int .u8 s, .int .i64 v, .int .u8 d] w (LawPost w) :=
  dag_of (fun s w h => unp_any s w h) t A n c Z s v d w ht h hw hv hd
end Go.Proofs.Ytpfaicdoaldioaa
