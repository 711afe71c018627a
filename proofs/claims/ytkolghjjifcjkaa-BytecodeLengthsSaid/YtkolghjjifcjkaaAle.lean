/- AppendLength. -/
import Derived.Test.YtkolghjjifcjkaaRin
namespace Go.Proofs.Ytkolghjjifcjkaa
open Go.ChangeShapes Go.WideShapes Go.ChangeAt Go.RowKit Go.Deep Go.Joins

/-- The encoding of a package length. -/
def lenL (n : Int) : List Int :=
  if n < 0 ∨ 268435456 ≤ n then [] else if n + 1 < 64 then [n + 1] else if n + 2 < 4096 then (64 + (n + 2) % 16) :: leI ((n + 2) / 16) 1
  else if n + 3 < 1048576 then (128 + (n + 3) % 16) :: leI ((n + 3) / 16) 2 else if n + 4 < 268435456 then (192 + (n + 4) % 16) :: leI ((n + 4) / 16) 3 else []
theorem and15 (t : Int) (h0 : 0 ≤ t) (h1 : t < 4294967296) : bits BinOp.and IntKind.i64 t 15 = t % 16 := by
  obtain ⟨T, rfl⟩ := Int.eq_ofNat_of_zero_le h0
  have e1 : (BitVec.ofInt 64 (T : Int)).toNat = T := by rw [BitVec.toNat_ofInt]; omega
  have e2 : (BitVec.ofInt 64 15).toNat = 15 := by decide
  have e3 : T &&& 15 = T % 16 := Nat.and_two_pow_sub_one_eq_mod T 4
  show IntKind.i64.wrap (((BitVec.ofInt 64 (T : Int)) &&& (BitVec.ofInt 64 15)).toNat : Int) = _
  rw [BitVec.toNat_and, e1, e2, e3, IntWalk.i64_in _ (by omega)]
  omega
theorem or_nib (p r : Int) (hp : p = 64 ∨ p = 128 ∨ p = 192) (h0 : 0 ≤ r) (h1 : r < 16) : bits BinOp.or IntKind.u8 p r = p + r := by
  have hr : r = 0 ∨ r = 1 ∨ r = 2 ∨ r = 3 ∨ r = 4 ∨ r = 5 ∨ r = 6 ∨ r = 7 ∨ r = 8 ∨ r = 9 ∨ r = 10 ∨ r = 11 ∨ r = 12 ∨ r = 13 ∨ r = 14 ∨ r = 15 := by omega
  rcases hp with rfl | rfl | rfl <;> rcases hr with rfl | rfl | rfl | rfl | rfl | rfl | rfl | rfl | rfl | rfl | rfl | rfl | rfl | rfl | rfl | rfl <;> decide
theorem leI_at (x : Int) (k : Nat) : x / 256 ^ k / 256 = x / 256 ^ (k + 1) := pow_step x k
set_option maxHeartbeats 16000000 in
theorem alen_any (b : ByteArray) (n : Int) (w : World) (hb : b.size ≤ 281474976710656) (hn : -9223372036854775808 ≤ n ∧ n ≤ 9223372036854775807) : Calls Try.prog 13 #[.string b, .int .i64 n] w (StB w (b ++ strOfNums (lenL n))) := by
  have EM : Hid (∀ w', Below w.heap.size w w' → lenL n = [] → StB w (b ++ strOfNums (lenL n)) (.returned (.string b)) w') := fun w' hb h => by
    rw [h]
    refine StB.mk' ?_ hb
    apply ByteArray.ext
    rw [ByteArray.data_append]
    simp [strOfNums]
  by_cases c1 : n < 0 ∨ 268435456 ≤ n
  · have hl := Lib.hid (EM.out w (Below.refl _ _) (by unfold lenL; rw [if_pos c1]))
    clear EM
    by_cases c2 : n < 0
    · clear c1
      go_enter Try.func13, Try.ntmps13
      go_wp2
      go_ret
      exact hl.out
    · have c3 : 268435456 ≤ n := by omega
      clear c1
      go_enter Try.func13, Try.ntmps13
      go_wp2
      go_ret
      exact hl.out
  have n0 : 0 ≤ n := by omega
  have n1 : n < 268435456 := by omega
  by_cases c2 : n + 1 < 64
  · have hl : Hid (lenL n = [n + 1]) := by show _ = _; unfold lenL; rw [if_neg c1, if_pos c2]
    have k1 := conv1 w (n + 1)
    have k2 : (strOfNums [n + 1]).size = 1 := rfl
    have hw : IntKind.u8.wrap (n + 1) = n + 1 := by rw [wrap_u8]; omega
    clear EM c1
    go_enter Try.func13, Try.ntmps13
    go_wp2
    go_ret
    exact StB.mk' (by rw [hl.out]) (bal (Below.refl _ _) _)
  obtain ⟨i0, hi, hz0, hz1, hz2⟩ := info_parts info5
  have HI := Lib.hid (And.intro hi (And.intro hz0 (And.intro hz1 hz2)))
  clear hi hz0 hz1 hz2
  have d1 : decide (n < 0) = false := decide_eq_false (by omega)
  have d2 : decide (268435456 ≤ n) = false := decide_eq_false (by omega)
  have C1 := Lib.hid c1
  clear c1
  go_enter Try.func13, Try.ntmps13
  go_wp2_with fail
  go_loopg [7, 6] 3 (fun g vc vl wr => ((g = 3 ∧ vc = .int .i64 2 ∧ vl = .int .i64 4096) ∨ (g = 2 ∧ vc = .int .i64 3 ∧ vl = .int .i64 1048576 ∧ 4096 ≤ n + 2) ∨ (g = 1 ∧ vc = .int .i64 4 ∧ vl = .int .i64 268435456 ∧ 4096 ≤ n + 2 ∧ 1048576 ≤ n + 3) ∨ (g = 0 ∧ vc = .int .i64 5 ∧ 4096 ≤ n + 2 ∧ 1048576 ≤ n + 3 ∧ 268435456 ≤ n + 4 ∧ ∃ z, vl = .int .i64 z)) ∧ w = wr)
  case atStart => exact ⟨.inl ⟨rfl, rfl, rfl⟩, rfl⟩
  case round =>
    obtain ⟨hor, rfl⟩ := hrel
    have own : ∀ (x : Int), (w.alloc (.cells #[.int .u8 x] 5)).ownsRow w.heap.size 5 1 (.slice (some ⟨w.heap.size, 0, none⟩) 1 1) 1 [.int .u8 x] := fun x =>
      ⟨rfl, .inr ⟨w.heap.size, 1, #[.int .u8 x], rfl, Nat.le_refl _, heap_alloc_new w _, Nat.le_refl _, by unfold maxLen; omega, rfl, rfl⟩⟩
    rcases hor with ⟨rfl, rfl, rfl⟩ | ⟨rfl, rfl, rfl, k1⟩ | ⟨rfl, rfl, rfl, k1, k2⟩ | ⟨rfl, rfl, k1, k2, k3, z, rfl⟩
    case inr.inr.inr =>
      have hl := Lib.hid (EM.out w (Below.refl _ _) (by unfold lenL; rw [if_neg C1.out, if_neg (by omega), if_neg (by omega), if_neg (by omega), if_neg (by omega)]))
      clear EM own
      go_wp2
      go_ret
      exact hl.out
    case inl =>
      by_cases q : n + 2 < 4096
      · have hl : Hid (lenL n = (64 + (n + 2) % 16) :: leI ((n + 2) / 16) 1) := by show _ = _; unfold lenL; rw [if_neg C1.out, if_neg (by omega), if_pos q]
        have a1 := and15 (n + 2) (by omega) (by omega)
        have r0 : 0 ≤ (n + 2) % 16 := by omega
        have r1 : (n + 2) % 16 < 16 := by omega
        have a2 := or_nib 64 ((n + 2) % 16) (by omega) r0 r1
        have a3 : IntKind.u8.wrap ((n + 2) % 16) = (n + 2) % 16 := by rw [wrap_u8]; omega
        have O0 := Lib.hid (own (64 + (n + 2) % 16))
        have B0 := Lib.hid (bal (Below.refl w.heap.size w) (Obj.cells #[.int .u8 (64 + (n + 2) % 16)] 5))
        have y0 : 0 ≤ (n + 2) / 16 := by omega
        have y1 : (n + 2) / 16 < 4294967296 := by omega
        clear own EM
        generalize hpp : 64 + (n + 2) % 16 = pp at *
        go_wp2_with fail
        clear a1 a2 a3 r0 r1 hpp
        generalize w.alloc (Obj.cells #[.int .u8 pp] 5) = w0 at *
        go_loopg [8, 9] 1 (fun g vl vr wr => ∃ k b c : Nat, k + g = 1 ∧ vl = .slice (some ⟨b, 0, none⟩) (k + 1) c ∧ wr.ownsRow w.heap.size 5 1 (.slice (some ⟨b, 0, none⟩) (k + 1) c) (k + 1) ((pp :: leI ((n + 2) / 16) k).map (Value.int .u8)) ∧ vr = .int .i64 ((n + 2) / 16 / 256 ^ k) ∧ Below w.heap.size w wr)
        case atStart => exact ⟨0, w.heap.size, 1, by omega, rfl, O0.out, by simp, B0.out⟩
        case round =>
          clear O0 B0
          obtain ⟨k, bb, cc, hk, rfl, hO, rfl, hB⟩ := hrel
          by_cases hlt : k < 1
          · obtain ⟨g, rfl⟩ : ∃ g, gk = g + 1 := ⟨gk - 1, by omega⟩
            obtain ⟨p0, p1⟩ := pow_bd ((n + 2) / 16) k y0 (by omega)
            have p2 : (n + 2) / 16 / 256 ^ k < 4294967296 := by
              have := Int.ediv_le_self (256 ^ k) y0
              omega
            have HS := Lib.hid (leI_snoc ((n + 2) / 16) k)
            have HP := Lib.hid (pow_step ((n + 2) / 16) k)
            have hw := wrap_u8 ((n + 2) / 16 / 256 ^ k)
            have HO := Lib.hid hO
            have HB := Lib.hid hB
            have hsz := hB.size
            clear hO hB
            generalize (n + 2) / 16 / 256 ^ k = x at *
            go_wp2_with (at_builtin; refine wpList_append_own _ rfl (.tmp 54) (.tmp 57) 41 rfl w.heap.size 5 i0 _ 1 1 Try.underlying41 HI.out.1 HI.out.2.1 HI.out.2.2.1 HI.out.2.2.2 rfl (by decide) _ (k + 1) ((pp :: leI ((n + 2) / 16) k).map (Value.int .u8)) rfl (HO.out.alloc _) ⟨wr.heap.size, 0, none⟩ 1 1 [.int .u8 (x % 256)] rfl rfl ?c12 ?c22 ?c32 ?c42 ?c52 ?_)
            case c12 => intro j u hu; match j, hu with | 0, hu => simp at hu; subst hu; simp [Addr.add, go_sem]
            case c22 => intro u hu; simp at hu; subst hu; rfl
            case c32 => unfold maxLen; omega
            case c42 => omega
            case c52 => simp; omega
            intro v' w4 hown hgr _
            obtain ⟨g', cap', rfl⟩ := own_form hown (by omega)
            have B6 := Lib.hid ((bal HB.out (Obj.cells #[.int .u8 (x % 256)] 5)).grown hgr (by simp; omega) (fun k hk => by
              rcases HO.out.2 with ⟨h, _⟩ | ⟨g2, _, _, h, hg2, _⟩
              · cases h
              · injection h with h
                injection h with h
                injection h with h
                simp [Value.ownBlock] at hk
                omega))
            have e : Value.int .u8 pp :: ((leI ((n + 2) / 16) k).map (Value.int .u8) ++ [.int .u8 (x % 256)]) = (pp :: leI ((n + 2) / 16) (k + 1)).map (Value.int .u8) := by rw [HS.out]; simp
            rw [e] at hown
            have O6 := Lib.hid hown
            clear hown hgr HO HB hw
            go_wp2
            go_roundg g
            case measure => omega
            case rel => exact ⟨k + 1, g', cap', by omega, rfl, O6.out, by rw [← HP.out], B6.out⟩
          · have : k = 1 := by omega
            subst this
            have HL : (pp :: leI ((n + 2) / 16) 1).length = 1 + 1 := by simp [leI_len]
            have hcv := run_convert_bytes_arg (P := Try.prog) wr 41 5 Try.underlying41 Try.underlying5 bb 0 (1 + 1) cc (pp :: leI ((n + 2) / 16) 1) HL (fun i hi => by
              have hl : ((pp :: leI ((n + 2) / 16) 1).map (Value.int .u8))[i]? = some (.int .u8 ((pp :: leI ((n + 2) / 16) 1).getD i 0)) := by
                rw [List.getElem?_map, List.getD_eq_getElem?_getD, List.getElem?_eq_getElem (by rw [HL]; exact hi)]
                rfl
              rcases hO.2 with ⟨h, _⟩ | ⟨g2, cap2, cur, h, hg2, hh, h1, h2, h3, h4⟩
              · cases h
              · injection h with h
                injection h with h
                injection h with h
                subst h
                rw [← h4, List.getElem?_take_of_lt (by omega)] at hl
                simp only [World.cell?, hh]
                simpa using hl) 9 Try.underlying9
            have hz : (strOfNums (pp :: leI ((n + 2) / 16) 1)).size = 2 := by rw [son_size, HL]
            have HB := Lib.hid hB
            have HLL : Hid (lenL n = pp :: leI ((n + 2) / 16) 1) := hl.out
            clear hB hO HL hl hk
            generalize leI ((n + 2) / 16) 1 = ll at *
            go_wp2
            go_ret
            exact StB.mk' (by rw [HLL.out]) HB.out
      · have EM2 := Lib.hid EM.out
        clear EM own
        go_wp2
        go_roundg 2
        case measure => omega
        case rel => exact ⟨.inr (.inl ⟨rfl, rfl, rfl, by omega⟩), rfl⟩
    case inr.inl =>
      by_cases q : n + 3 < 1048576
      · have hl : Hid (lenL n = (128 + (n + 3) % 16) :: leI ((n + 3) / 16) 2) := by show _ = _; unfold lenL; rw [if_neg C1.out, if_neg (by omega), if_neg (by omega), if_pos q]
        have a1 := and15 (n + 3) (by omega) (by omega)
        have r0 : 0 ≤ (n + 3) % 16 := by omega
        have r1 : (n + 3) % 16 < 16 := by omega
        have a2 := or_nib 128 ((n + 3) % 16) (by omega) r0 r1
        have a3 : IntKind.u8.wrap ((n + 3) % 16) = (n + 3) % 16 := by rw [wrap_u8]; omega
        have O0 := Lib.hid (own (128 + (n + 3) % 16))
        have B0 := Lib.hid (bal (Below.refl w.heap.size w) (Obj.cells #[.int .u8 (128 + (n + 3) % 16)] 5))
        have y0 : 0 ≤ (n + 3) / 16 := by omega
        have y1 : (n + 3) / 16 < 4294967296 := by omega
        clear own EM
        generalize hpp : 128 + (n + 3) % 16 = pp at *
        go_wp2_with fail
        clear a1 a2 a3 r0 r1 hpp
        generalize w.alloc (Obj.cells #[.int .u8 pp] 5) = w0 at *
        go_loopg [8, 9] 2 (fun g vl vr wr => ∃ k b c : Nat, k + g = 2 ∧ vl = .slice (some ⟨b, 0, none⟩) (k + 1) c ∧ wr.ownsRow w.heap.size 5 1 (.slice (some ⟨b, 0, none⟩) (k + 1) c) (k + 1) ((pp :: leI ((n + 3) / 16) k).map (Value.int .u8)) ∧ vr = .int .i64 ((n + 3) / 16 / 256 ^ k) ∧ Below w.heap.size w wr)
        case atStart => exact ⟨0, w.heap.size, 1, by omega, rfl, O0.out, by simp, B0.out⟩
        case round =>
          clear O0 B0
          obtain ⟨k, bb, cc, hk, rfl, hO, rfl, hB⟩ := hrel
          by_cases hlt : k < 2
          · obtain ⟨g, rfl⟩ : ∃ g, gk = g + 1 := ⟨gk - 1, by omega⟩
            obtain ⟨p0, p1⟩ := pow_bd ((n + 3) / 16) k y0 (by omega)
            have p2 : (n + 3) / 16 / 256 ^ k < 4294967296 := by
              have := Int.ediv_le_self (256 ^ k) y0
              omega
            have HS := Lib.hid (leI_snoc ((n + 3) / 16) k)
            have HP := Lib.hid (pow_step ((n + 3) / 16) k)
            have hw := wrap_u8 ((n + 3) / 16 / 256 ^ k)
            have HO := Lib.hid hO
            have HB := Lib.hid hB
            have hsz := hB.size
            clear hO hB
            generalize (n + 3) / 16 / 256 ^ k = x at *
            go_wp2_with (at_builtin; refine wpList_append_own _ rfl (.tmp 54) (.tmp 57) 41 rfl w.heap.size 5 i0 _ 1 1 Try.underlying41 HI.out.1 HI.out.2.1 HI.out.2.2.1 HI.out.2.2.2 rfl (by decide) _ (k + 1) ((pp :: leI ((n + 3) / 16) k).map (Value.int .u8)) rfl (HO.out.alloc _) ⟨wr.heap.size, 0, none⟩ 1 1 [.int .u8 (x % 256)] rfl rfl ?c13 ?c23 ?c33 ?c43 ?c53 ?_)
            case c13 => intro j u hu; match j, hu with | 0, hu => simp at hu; subst hu; simp [Addr.add, go_sem]
            case c23 => intro u hu; simp at hu; subst hu; rfl
            case c33 => unfold maxLen; omega
            case c43 => omega
            case c53 => simp; omega
            intro v' w4 hown hgr _
            obtain ⟨g', cap', rfl⟩ := own_form hown (by omega)
            have B6 := Lib.hid ((bal HB.out (Obj.cells #[.int .u8 (x % 256)] 5)).grown hgr (by simp; omega) (fun k hk => by
              rcases HO.out.2 with ⟨h, _⟩ | ⟨g2, _, _, h, hg2, _⟩
              · cases h
              · injection h with h
                injection h with h
                injection h with h
                simp [Value.ownBlock] at hk
                omega))
            have e : Value.int .u8 pp :: ((leI ((n + 3) / 16) k).map (Value.int .u8) ++ [.int .u8 (x % 256)]) = (pp :: leI ((n + 3) / 16) (k + 1)).map (Value.int .u8) := by rw [HS.out]; simp
            rw [e] at hown
            have O6 := Lib.hid hown
            clear hown hgr HO HB hw
            go_wp2
            go_roundg g
            case measure => omega
            case rel => exact ⟨k + 1, g', cap', by omega, rfl, O6.out, by rw [← HP.out], B6.out⟩
          · have : k = 2 := by omega
            subst this
            have HL : (pp :: leI ((n + 3) / 16) 2).length = 2 + 1 := by simp [leI_len]
            have hcv := run_convert_bytes_arg (P := Try.prog) wr 41 5 Try.underlying41 Try.underlying5 bb 0 (2 + 1) cc (pp :: leI ((n + 3) / 16) 2) HL (fun i hi => by
              have hl : ((pp :: leI ((n + 3) / 16) 2).map (Value.int .u8))[i]? = some (.int .u8 ((pp :: leI ((n + 3) / 16) 2).getD i 0)) := by
                rw [List.getElem?_map, List.getD_eq_getElem?_getD, List.getElem?_eq_getElem (by rw [HL]; exact hi)]
                rfl
              rcases hO.2 with ⟨h, _⟩ | ⟨g2, cap2, cur, h, hg2, hh, h1, h2, h3, h4⟩
              · cases h
              · injection h with h
                injection h with h
                injection h with h
                subst h
                rw [← h4, List.getElem?_take_of_lt (by omega)] at hl
                simp only [World.cell?, hh]
                simpa using hl) 9 Try.underlying9
            have hz : (strOfNums (pp :: leI ((n + 3) / 16) 2)).size = 3 := by rw [son_size, HL]
            have HB := Lib.hid hB
            have HLL : Hid (lenL n = pp :: leI ((n + 3) / 16) 2) := hl.out
            clear hB hO HL hl hk
            generalize leI ((n + 3) / 16) 2 = ll at *
            go_wp2
            go_ret
            exact StB.mk' (by rw [HLL.out]) HB.out
      · have EM2 := Lib.hid EM.out
        clear EM own
        go_wp2
        go_roundg 1
        case measure => omega
        case rel => exact ⟨.inr (.inr (.inl ⟨rfl, rfl, rfl, by omega, by omega⟩)), rfl⟩
    case inr.inr.inl =>
      by_cases q : n + 4 < 268435456
      · have hl : Hid (lenL n = (192 + (n + 4) % 16) :: leI ((n + 4) / 16) 3) := by show _ = _; unfold lenL; rw [if_neg C1.out, if_neg (by omega), if_neg (by omega), if_neg (by omega), if_pos q]
        have a1 := and15 (n + 4) (by omega) (by omega)
        have r0 : 0 ≤ (n + 4) % 16 := by omega
        have r1 : (n + 4) % 16 < 16 := by omega
        have a2 := or_nib 192 ((n + 4) % 16) (by omega) r0 r1
        have a3 : IntKind.u8.wrap ((n + 4) % 16) = (n + 4) % 16 := by rw [wrap_u8]; omega
        have O0 := Lib.hid (own (192 + (n + 4) % 16))
        have B0 := Lib.hid (bal (Below.refl w.heap.size w) (Obj.cells #[.int .u8 (192 + (n + 4) % 16)] 5))
        have y0 : 0 ≤ (n + 4) / 16 := by omega
        have y1 : (n + 4) / 16 < 4294967296 := by omega
        clear own EM
        generalize hpp : 192 + (n + 4) % 16 = pp at *
        go_wp2_with fail
        clear a1 a2 a3 r0 r1 hpp
        generalize w.alloc (Obj.cells #[.int .u8 pp] 5) = w0 at *
        go_loopg [8, 9] 3 (fun g vl vr wr => ∃ k b c : Nat, k + g = 3 ∧ vl = .slice (some ⟨b, 0, none⟩) (k + 1) c ∧ wr.ownsRow w.heap.size 5 1 (.slice (some ⟨b, 0, none⟩) (k + 1) c) (k + 1) ((pp :: leI ((n + 4) / 16) k).map (Value.int .u8)) ∧ vr = .int .i64 ((n + 4) / 16 / 256 ^ k) ∧ Below w.heap.size w wr)
        case atStart => exact ⟨0, w.heap.size, 1, by omega, rfl, O0.out, by simp, B0.out⟩
        case round =>
          clear O0 B0
          obtain ⟨k, bb, cc, hk, rfl, hO, rfl, hB⟩ := hrel
          by_cases hlt : k < 3
          · obtain ⟨g, rfl⟩ : ∃ g, gk = g + 1 := ⟨gk - 1, by omega⟩
            obtain ⟨p0, p1⟩ := pow_bd ((n + 4) / 16) k y0 (by omega)
            have p2 : (n + 4) / 16 / 256 ^ k < 4294967296 := by
              have := Int.ediv_le_self (256 ^ k) y0
              omega
            have HS := Lib.hid (leI_snoc ((n + 4) / 16) k)
            have HP := Lib.hid (pow_step ((n + 4) / 16) k)
            have hw := wrap_u8 ((n + 4) / 16 / 256 ^ k)
            have HO := Lib.hid hO
            have HB := Lib.hid hB
            have hsz := hB.size
            clear hO hB
            generalize (n + 4) / 16 / 256 ^ k = x at *
            go_wp2_with (at_builtin; refine wpList_append_own _ rfl (.tmp 54) (.tmp 57) 41 rfl w.heap.size 5 i0 _ 1 1 Try.underlying41 HI.out.1 HI.out.2.1 HI.out.2.2.1 HI.out.2.2.2 rfl (by decide) _ (k + 1) ((pp :: leI ((n + 4) / 16) k).map (Value.int .u8)) rfl (HO.out.alloc _) ⟨wr.heap.size, 0, none⟩ 1 1 [.int .u8 (x % 256)] rfl rfl ?c14 ?c24 ?c34 ?c44 ?c54 ?_)
            case c14 => intro j u hu; match j, hu with | 0, hu => simp at hu; subst hu; simp [Addr.add, go_sem]
            case c24 => intro u hu; simp at hu; subst hu; rfl
            case c34 => unfold maxLen; omega
            case c44 => omega
            case c54 => simp; omega
            intro v' w4 hown hgr _
            obtain ⟨g', cap', rfl⟩ := own_form hown (by omega)
            have B6 := Lib.hid ((bal HB.out (Obj.cells #[.int .u8 (x % 256)] 5)).grown hgr (by simp; omega) (fun k hk => by
              rcases HO.out.2 with ⟨h, _⟩ | ⟨g2, _, _, h, hg2, _⟩
              · cases h
              · injection h with h
                injection h with h
                injection h with h
                simp [Value.ownBlock] at hk
                omega))
            have e : Value.int .u8 pp :: ((leI ((n + 4) / 16) k).map (Value.int .u8) ++ [.int .u8 (x % 256)]) = (pp :: leI ((n + 4) / 16) (k + 1)).map (Value.int .u8) := by rw [HS.out]; simp
            rw [e] at hown
            have O6 := Lib.hid hown
            clear hown hgr HO HB hw
            go_wp2
            go_roundg g
            case measure => omega
            case rel => exact ⟨k + 1, g', cap', by omega, rfl, O6.out, by rw [← HP.out], B6.out⟩
          · have : k = 3 := by omega
            subst this
            have HL : (pp :: leI ((n + 4) / 16) 3).length = 3 + 1 := by simp [leI_len]
            have hcv := run_convert_bytes_arg (P := Try.prog) wr 41 5 Try.underlying41 Try.underlying5 bb 0 (3 + 1) cc (pp :: leI ((n + 4) / 16) 3) HL (fun i hi => by
              have hl : ((pp :: leI ((n + 4) / 16) 3).map (Value.int .u8))[i]? = some (.int .u8 ((pp :: leI ((n + 4) / 16) 3).getD i 0)) := by
                rw [List.getElem?_map, List.getD_eq_getElem?_getD, List.getElem?_eq_getElem (by rw [HL]; exact hi)]
                rfl
              rcases hO.2 with ⟨h, _⟩ | ⟨g2, cap2, cur, h, hg2, hh, h1, h2, h3, h4⟩
              · cases h
              · injection h with h
                injection h with h
                injection h with h
                subst h
                rw [← h4, List.getElem?_take_of_lt (by omega)] at hl
                simp only [World.cell?, hh]
                simpa using hl) 9 Try.underlying9
            have hz : (strOfNums (pp :: leI ((n + 4) / 16) 3)).size = 4 := by rw [son_size, HL]
            have HB := Lib.hid hB
            have HLL : Hid (lenL n = pp :: leI ((n + 4) / 16) 3) := hl.out
            clear hB hO HL hl hk
            generalize leI ((n + 4) / 16) 3 = ll at *
            go_wp2
            go_ret
            exact StB.mk' (by rw [HLL.out]) HB.out
      · have EM2 := Lib.hid EM.out
        clear EM own
        go_wp2
        go_roundg 0
        case measure => omega
        case rel => exact ⟨.inr (.inr (.inr ⟨rfl, rfl, by omega, by omega, by omega, _, rfl⟩)), rfl⟩
end Go.Proofs.Ytkolghjjifcjkaa
