/- DeviceChangeIsReversible: the walk. -/
import Derived.Test.YtejfopjnokopeaaCga
import Derived.Test.YtejfopjnokopeaaSmx
import Derived.Test.YtejfopjnokopeaaRvl
namespace Go.Proofs.Ytejfopjnokopeaa
open Go.ChangeShapes Go.WideShapes Go.ChangeAt Go.RowKit Go.Deep Go.Joins

theorem misL_mem {l m : List Int} {x : Int} {k : Nat} (h : x ∈ misL l m k) : hasL m x m.length = false ∧ hasL l x k = true := by
  induction k with
  | zero => cases h
  | succ k ih =>
    unfold misL at h
    by_cases hh : hasL m (l.getD k 0) m.length = true
    · rw [if_pos hh] at h
      have := ih h
      exact ⟨this.1, by show (hasL l x k || _) = true; rw [this.2]; rfl⟩
    · rw [if_neg hh] at h
      rcases List.mem_append.1 h with h1 | h1
      · have := ih h1
        exact ⟨this.1, by show (hasL l x k || _) = true; rw [this.2]; rfl⟩
      · rw [List.mem_singleton.1 h1]
        exact ⟨by simpa using hh, by show (_ || decide _) = true; rw [decide_eq_true rfl, Bool.or_true]⟩
theorem mis_apart {l m : List Int} {i k : Nat} (hi : i < (misL l m l.length).length) (hk : k < ((misL m l m.length).reverse).length) : ((misL l m l.length).getD i 0 == ((misL m l m.length).reverse).getD k 0) = false := by
  rw [List.getD_eq_getElem?_getD, List.getD_eq_getElem?_getD, List.getElem?_eq_getElem hi, List.getElem?_eq_getElem hk]
  refine beq_eq_false_iff_ne.2 (fun e => ?_)
  have e : (misL l m l.length)[i] = ((misL m l m.length).reverse)[k] := e
  have h1 := misL_mem (List.getElem_mem hi)
  have h2 := misL_mem (List.mem_reverse.1 (List.getElem_mem hk))
  rw [e] at h1
  rw [h2.2] at h1
  cases h1.1
/-- What Change gives at two states of the device that is made valid. -/
theorem chgR_ok {l : Nat → List Int} (hp : ∀ k, (l k).Pairwise (· < ·)) (f t : Nat) (hf : f < 5) (ht : t < 5) : chgR l f t = (misL (lst l t) (lst l f) (lst l t).length, (misL (lst l f) (lst l t) (lst l f).length).reverse, 0) := by
  have A : ∀ s : Nat, ascL (lst l s) = true := fun s => by
    unfold lst
    split
    · rfl
    · exact asc_of_pw (hp _)
  have S : ∀ s : Nat, s < 5 → isS s = true := fun s hs => by unfold isS; rw [decide_eq_true (by omega), decide_eq_true (by omega)]; rfl
  unfold chgR
  rw [A, A, S f hf, S t ht]
  rfl
set_option maxRecDepth 20000 in
set_option maxHeartbeats 16000000 in
theorem cgr_any (D : PD) (f t : Int) (w : World) (hd : PdW w D) (_h1 : (Lit.int .i64 f).wf = true) (_h2 : (Lit.int .i64 t).wf = true) : Calls Try.prog 7 #[.agg D.cells, .int .i64 f, .int .i64 t] w (LawPost w) := by
  have b1 : Below w.heap.size w (w.alloc (.cells D.cells 33)) := bal (Below.refl _ _) _
  have C1 := Lib.hid (c13_new w D)
  have b2 : Below (w.alloc (.cells D.cells 33)).heap.size (w.alloc (.cells D.cells 33)) ((w.alloc (.cells D.cells 33)).alloc (.cells D.cells 33)) := bal (Below.refl _ _) _
  have C2 := Lib.hid (c13_new (w.alloc (.cells D.cells 33)) D)
  have hsz : (w.alloc (.cells D.cells 33)).heap.size = w.heap.size + 1 := by simp
  rw [hsz] at C2
  have PL := large_one (w.heap.size + 1) 1 D _ C2.out
  have C1b := Lib.hid (C1.out.below b2)
  have D2 := Lib.hid ((hd.below b1).below b2)
  have B2 := Lib.hid (bel2 b1 b2)
  obtain ⟨hl1, x0, x1, x2, x3, x4, x5, x6, x7, x8, x9, x10, x11, x12⟩ := C1.out
  clear b1 b2 hd C1 C2 hsz
  have AW := Lib.hid (fun W => awake_any W)
  have MF := mod_any f 5 (by decide) (by decide)
  have MT := mod_any t 5 (by decide) (by decide)
  have hqf := (modOf_spec f 5 (by decide) (by decide)).2
  have hqt := (modOf_spec t 5 (by decide) (by decide)).2
  generalize modOf f 5 = qf at *
  generalize modOf t 5 = qt at *
  unfold PD.cells at PL C1b B2 D2 x0 x1 x2 x3 x4 x5 x6 x7 x8 x9 x10 x11 x12 ⊢
  go_enter Try.func7, Try.ntmps7
  go_wp2_with fail
  refine PL.mono ?_
  clear PL x0 x1 x2 x3 x4 x5 x6 x7 x8 x9 x10 x11 x12
  generalize hL : w.heap.size = L at C1b hl1 ⊢
  generalize (w.alloc (.cells #[.int .i64 D.p, .slice (D.A 0) (D.n 0) (D.c 0), .slice (D.A 1) (D.n 1) (D.c 1), .slice (D.A 2) (D.n 2) (D.c 2), .slice (D.A 3) (D.n 3) (D.c 3), .int .i64 (D.e 0), .int .i64 (D.e 1), .int .i64 (D.e 2), .int .i64 (D.e 3), .int .i64 (D.e 4), .int .i64 (D.e 5), .int .i64 D.wd, .int .i64 D.ws] 33)).alloc (.cells #[.int .i64 D.p, .slice (D.A 0) (D.n 0) (D.c 0), .slice (D.A 1) (D.n 1) (D.c 1), .slice (D.A 2) (D.n 2) (D.c 2), .slice (D.A 3) (D.n 3) (D.c 3), .int .i64 (D.e 0), .int .i64 (D.e 1), .int .i64 (D.e 2), .int .i64 (D.e 3), .int .i64 (D.e 4), .int .i64 (D.e 5), .int .i64 D.wd, .int .i64 D.ws] 33) = w2 at *
  rintro e w3 ⟨b, rfl, hb20, rfl⟩
  clear hb20
  cases b with
  | true =>
    go_wp2_with (go_at_call 14; refine (AW.out _).mono ?_; rintro e w9 ⟨rfl, hb9⟩)
    go_ret
    exact ⟨rfl, bel2 B2.out hb9⟩
  | false =>
    have b3 : Below w2.heap.size w2 (w2.alloc (.cells D.cells 33)) := bal (Below.refl _ _) _
    have P := some_asc w2.heap.size 1 5 D _ (c13_new w2 D) (D2.out.below b3) (by decide) (by decide)
    have B3 := Lib.hid (bel2 B2.out b3)
    obtain ⟨hl2, x0, x1, x2, x3, x4, x5, x6, x7, x8, x9, x10, x11, x12⟩ := C1b.out
    unfold PD.cells at P B3
    clear C1b B2 D2 b3
    go_wp2_with fail
    refine P.mono ?_
    clear P x0 x1 x2 x3 x4 x5 x6 x7 x8 x9 x10 x11 x12
    generalize w2.alloc (.cells #[.int .i64 D.p, .slice (D.A 0) (D.n 0) (D.c 0), .slice (D.A 1) (D.n 1) (D.c 1), .slice (D.A 2) (D.n 2) (D.c 2), .slice (D.A 3) (D.n 3) (D.c 3), .int .i64 (D.e 0), .int .i64 (D.e 1), .int .i64 (D.e 2), .int .i64 (D.e 3), .int .i64 (D.e 4), .int .i64 (D.e 5), .int .i64 D.wd, .int .i64 D.ws] 33) = w3 at *
    rintro e w4 ⟨Z, cc, E, m, rfl, CE, -, RE, lE, hpw, hb4⟩
    have CE := Lib.hid CE
    have RE := Lib.hid RE
    have LNE : Hid (∀ k, k < 4 → (m k).length ≤ 1000) := fun k hk => by have := lE k hk; omega
    have B4 := Lib.hid (bel2 B3.out hb4)
    have P1 := Lib.hid (fun W (h : Rl W E m) => chg_any E m qf qt W h LNE.out)
    have P2 := Lib.hid (fun W (h : Rl W E m) => chg_any E m qt qf W h LNE.out)
    rw [chgR_ok hpw qf qt hqf hqt] at P1
    rw [chgR_ok hpw qt qf hqt hqf] at P2
    have LA : (misL (lst m qt) (lst m qf) (lst m qt).length).length ≤ 1000 ∧ (misL (lst m qf) (lst m qt) (lst m qf).length).length ≤ 1000 := by
      have h1 := misL_len (lst m qt) (lst m qf) (lst m qt).length
      have h2 := misL_len (lst m qf) (lst m qt) (lst m qf).length
      have h3 : ∀ s : Nat, s < 5 → (lst m s).length ≤ 1000 := fun s hs => by
        unfold lst
        split
        · simp
        · exact LNE.out s (by omega)
      have := h3 qf hqf
      have := h3 qt hqt
      omega
    have AP := Lib.hid (fun i k hi hk => mis_apart (l := lst m qt) (m := lst m qf) (i := i) (k := k) hi hk)
    generalize misL (lst m qt) (lst m qf) (lst m qt).length = la at *
    generalize misL (lst m qf) (lst m qt) (lst m qf).length = lr at *
    have LA := Lib.hid LA
    have LR : Hid (la.reverse.length ≤ 1000 ∧ lr.length ≤ 1000) := ⟨by have := LA.out.1; simpa using this, LA.out.2⟩
    generalize hra : la.reverse = ra at *
    generalize hrl : lr.reverse = rl at *
    have ERA : Hid (ra.reverse = la) := by show _ = _; rw [← hra, List.reverse_reverse]
    have ERL := Lib.hid hrl
    clear hra hrl
    clear B3 hb4 lE hpw LNE hqf hqt
    obtain ⟨hl5, x0, x1, x2, x3, x4, x5, x6, x7, x8, x9, x10, x11, x12⟩ := CE.out
    go_wp2_with fail
    refine (MF _).mono ?_
    rintro e w5 ⟨rfl, rfl⟩
    go_wp2_with fail
    refine (MT _).mono ?_
    rintro e w5 ⟨rfl, rfl⟩
    go_wp2_with fail
    refine (P1.out _ RE.out).mono ?_
    clear MF MT P1 x0 x1 x2 x3 x4 x5 x6 x7 x8 x9 x10 x11 x12
    rintro e w6 ⟨A1, c1, A2, c2, rfl, I1, I2, hb6⟩
    have CE := Lib.hid (CE.out.below hb6)
    have RE := Lib.hid (RE.out.below hb6)
    have B6 := Lib.hid (bel2 B4.out hb6)
    have I1 := Lib.hid I1
    have I2 := Lib.hid I2
    clear B4 hb6 hl5
    obtain ⟨hl6, x0, x1, x2, x3, x4, x5, x6, x7, x8, x9, x10, x11, x12⟩ := CE.out
    go_wp2_with fail
    refine (P2.out _ RE.out).mono ?_
    clear P2 x0 x1 x2 x3 x4 x5 x6 x7 x8 x9 x10 x11 x12 CE RE hl6
    rintro e w7 ⟨A3, c3, A4, c4, rfl, I3, I4, hb7⟩
    have B7 := Lib.hid (bel2 B6.out hb7)
    have I1 := Lib.hid (I1.out.below hb7)
    have I2 := Lib.hid (I2.out.below hb7)
    have I3 := Lib.hid I3
    have PR := rvs_any A4 c4 ra w7 I4 LR.out.1
    rw [ERA.out] at PR
    clear B6 hb7 I4
    go_wp2_with fail
    refine PR.mono ?_
    clear PR
    rintro e w8 ⟨A5, c5, rfl, I5, hb8⟩
    have B8 := Lib.hid (bel2 B7.out hb8)
    have I1 := Lib.hid (I1.out.below hb8)
    have I2 := Lib.hid (I2.out.below hb8)
    have I3 := Lib.hid (I3.out.below hb8)
    have Q1 := eql_any A1 A5 c1 c5 la la w8 I1.out I5
    rw [decide_eq_true rfl] at Q1
    clear B7 hb8 I5
    go_wp2_with fail
    refine Q1.mono ?_
    clear Q1
    rintro e w9 ⟨rfl, hb9⟩
    have B9 := Lib.hid (bel2 B8.out hb9)
    have I1 := Lib.hid (I1.out.below hb9)
    have I2 := Lib.hid (I2.out.below hb9)
    have PR := rvs_any A3 c3 lr w9 (I3.out.below hb9) LR.out.2
    rw [ERL.out] at PR
    clear B8 hb9 I3
    go_wp2_with fail
    refine PR.mono ?_
    clear PR
    rintro e w10 ⟨A5, c5, rfl, I5, hb10⟩
    have B10 := Lib.hid (bel2 B9.out hb10)
    have I1 := Lib.hid (I1.out.below hb10)
    have I2 := Lib.hid (I2.out.below hb10)
    have Q1 := eql_any A2 A5 c2 c5 rl rl w10 I2.out I5
    rw [decide_eq_true rfl] at Q1
    clear B9 hb10 I5
    go_wp2_with fail
    refine Q1.mono ?_
    clear Q1
    rintro e w11 ⟨rfl, hb11⟩
    have B11 := Lib.hid (bel2 B10.out hb11)
    have I1 := Lib.hid (I1.out.below hb11)
    have I2 := Lib.hid (I2.out.below hb11)
    have la1 := I1.out.len
    have la2 := I2.out.len
    clear B10 hb11
    have la1 : la.length ≤ 9223372036854775807 := la1
    have la2 : rl.length ≤ 9223372036854775807 := la2
    have I1 : Hid (Il w11 A1 la) := I1.out
    have I2 : Hid (Il w11 A2 rl) := I2.out
    clear LA LR ERA ERL
    generalize hn1 : la.length = n1 at *
    generalize hn2 : rl.length = n2 at *
    have HN1 := Lib.hid hn1
    have HN2 := Lib.hid hn2
    clear hn1 hn2
    go_wp2_with fail
    go_loopw [16] (fun vi wr => ∃ i : Nat, vi = .int .i64 i ∧ i ≤ n1 ∧ Below w11.heap.size w11 wr) (fun i _ => n1 - (intOf i).toNat)
    case atStart => exact ⟨0, rfl, Nat.zero_le _, Below.refl _ _⟩
    case round =>
      obtain ⟨i, rfl, hi, hB⟩ := hrel
      have HB := Lib.hid hB
      clear hB
      by_cases hlt : i < n1
      · have q1 : (i : Int) < (n1 : Int) := by omega
        go_wp2_with fail
        go_loopw [17] (fun vk wr => ∃ k : Nat, vk = .int .i64 k ∧ k ≤ n2 ∧ Below w11.heap.size w11 wr) (fun i _ => n2 - (intOf i).toNat)
        case atStart => exact ⟨0, rfl, Nat.zero_le _, HB.out⟩
        case round =>
          clear HB
          obtain ⟨k, rfl, hk, hB⟩ := hrel
          have HB := Lib.hid hB
          by_cases hklt : k < n2
          · obtain ⟨b, off, rfl, hb, c0⟩ := I1.out.at (show i < la.length by rw [HN1.out]; exact hlt)
            obtain ⟨b2, off2, rfl, hb2, c1⟩ := I2.out.at (show k < rl.length by rw [HN2.out]; exact hklt)
            have d0 := (hB.cell (p := ⟨b, off + i, none⟩) (by exact hb)).trans c0
            have d1 := (hB.cell (p := ⟨b2, off2 + k, none⟩) (by exact hb2)).trans c1
            have hbr : b < wr.heap.size := by have := hB.size; omega
            have hbr2 : b2 < wr.heap.size := by have := hB.size; omega
            have q2 : (k : Int) < (n2 : Int) := by omega
            have NE := AP.out i k hlt hklt
            clear c0 c1 hB
            generalize la.getD i 0 = x at *
            generalize rl.getD k 0 = y at *
            go_upto_region 15 with fail
            go_quiet (fail)
            go_wp2_with fail
            go_roundw
            case rel => exact ⟨k + 1, by go_num, by omega, below_drewN HB.out _⟩
            case measure => simp [intOf]; omega
          · have q2 : ¬ (k : Int) < (n2 : Int) := by omega
            clear hB
            go_wp2_with fail
            go_roundw
            case rel => exact ⟨i + 1, by go_num, by omega, HB.out⟩
            case measure => simp [intOf]; omega
      · have q1 : ¬ (i : Int) < (n1 : Int) := by omega
        have B12 := Lib.hid (bel2 B11.out HB.out)
        clear HB B11
        go_wp2_with (go_at_call 14; refine (AW.out _).mono ?_; rintro e w13 ⟨rfl, hb13⟩)
        go_ret
        exact ⟨rfl, bel2 B12.out hb13⟩
end Go.Proofs.Ytejfopjnokopeaa
