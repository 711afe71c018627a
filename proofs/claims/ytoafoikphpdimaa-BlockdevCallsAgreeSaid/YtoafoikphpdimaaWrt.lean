/- Read, Write, PowerOff. -/
import Derived.Test.YtoafoikphpdimaaOps
import Derived.Test.YtoafoikphpdimaaApb
namespace Go.Proofs.Ytoafoikphpdimaa
open Go.ChangeShapes Go.WideShapes Go.ChangeAt Go.RowKit Go.Deep Go.Joins
section
variable {F : Nat → Prop} {w : World} {s : DkS} {v : Value} {Ka : Option Addr} {kc : Nat}
def offS (s : DkS) (q : Nat → Bool) (n : Nat) : DkS := if s.off then s else loS s q n
def offR (s : DkS) : Int := if s.off then 9 else 0
set_option maxHeartbeats 1000000 in
theorem off_any (h : Dk F w s v Ka kc) {A : Option Addr} {n c : Nat} {q : Nat → Bool} (hB : Bs w A n c q) (hA : ∀ a, A = some a → 0 < n → a.block ≠ s.L ∧ a.block ≠ s.X) :
    Calls Try.prog 22 #[.pointer (some ⟨s.L, 0, none⟩), .slice A n c] w (OpP w F (offS s q n) (.int .i64 (offR s))) := by
  obtain ⟨-, -, c2, -⟩ := h.cells
  have hl := h.lt.1
  have P := lose_any h hB hA
  cases hb : s.off with
  | true =>
    have G : Hid (OpP w F (offS s q n) (.int .i64 (offR s)) (.returned (.int .i64 9)) w) := by
      unfold offS offR
      rw [hb]
      exact ⟨rfl, v, Ka, kc, Dw.refl h⟩
    clear h P
    rw [hb] at c2
    clear hb
    go_enter Try.func22, Try.ntmps22
    go_wp2
    go_ret
    exact G.out
  | false =>
    have G : Hid (∀ w', (∃ v Ka kc, Dw w F w' (loS s q n) v Ka kc) → OpP w F (offS s q n) (.int .i64 (offR s)) (.returned (.int .i64 0)) w') := fun w' H => by
      unfold offS offR
      rw [hb]
      exact ⟨rfl, H⟩
    clear h
    rw [hb] at c2
    clear hb
    go_enter Try.func22, Try.ntmps22
    go_wp2_with fail
    refine P.mono ?_
    rintro e w' ⟨rfl, H⟩
    have G2 := Lib.hid (G.out w' H)
    clear G H P
    go_wp2
    go_ret
    exact G2.out
/-- What a read of a sector gives. -/
def rdS (s : DkS) (i : Int) : ByteArray × Int :=
  if hasB s i then (if s.off then (ByteArray.empty, 16) else ((apk s.S s.C (fun _ => true) s.C.length).getD i.toNat ByteArray.empty, 0)) else (ByteArray.empty, 1)
/-- From the back: the last write to i among the first k, or else the sector. -/
def lastW (S : List ByteArray) (C : List CW) (i : Nat) : Nat → ByteArray
  | 0 => S.getD i ByteArray.empty
  | k + 1 => match C[k]? with | some c => if c.k = i then c.d else lastW S C i k | none => lastW S C i k
theorem lastW_apk (S : List ByteArray) (C : List CW) (i : Nat) (hi : i < S.length) (k : Nat) : lastW S C i k = (apk S C (fun _ => true) k).getD i ByteArray.empty := by
  induction k with
  | zero => rfl
  | succ k ih =>
    show (match C[k]? with | some c => if c.k = i then c.d else lastW S C i k | none => lastW S C i k) = (if true then (match C[k]? with | some c => (apk S C (fun _ => true) k).set c.k c.d | none => apk S C (fun _ => true) k) else _ : List ByteArray).getD i _
    rw [if_pos rfl]
    split
    · split
      · rename_i c _ e
        subst e
        rw [List.getD_eq_getElem?_getD, List.getElem?_set_self (by rw [apk_set]; exact hi)]
        rfl
      · rename_i c _ e
        rw [ih, List.getD_eq_getElem?_getD, List.getD_eq_getElem?_getD, List.getElem?_set_ne e]
    · exact ih
theorem lastW_t {S : List ByteArray} {C : List CW} {i k : Nat} (hk : k < C.length) (h : C[k].k = i) : lastW S C i (k + 1) = C[k].d := by
  show (match C[k]? with | some c => if c.k = i then c.d else lastW S C i k | none => lastW S C i k) = _
  rw [List.getElem?_eq_getElem hk]
  exact if_pos h
theorem lastW_f {S : List ByteArray} {C : List CW} {i k : Nat} (hk : k < C.length) (h : C[k].k ≠ i) : lastW S C i (k + 1) = lastW S C i k := by
  show (match C[k]? with | some c => if c.k = i then c.d else lastW S C i k | none => lastW S C i k) = _
  rw [List.getElem?_eq_getElem hk]
  exact if_neg h
def RdP (w : World) (r : ByteArray × Int) (e : Ending) (w' : World) : Prop := e = .returned (.tuple #[.string r.1, .int .i64 r.2]) ∧ w = w'
set_option maxRecDepth 20000 in
set_option maxHeartbeats 4000000 in
theorem read_any (h : Dk F w s v Ka kc) (i : Int) : Calls Try.prog 26 #[.pointer (some ⟨s.L, 0, none⟩), .int .i64 i] w (RdP w (rdS s i)) := by
  obtain ⟨c0, c1, c2, -⟩ := h.cells
  have hl := h.lt.1
  have P := has_any h i
  by_cases hh : hasB s i = true
  case neg =>
    have hh : hasB s i = false := by simpa using hh
    have G : Hid (RdP w (rdS s i) (.returned (.tuple #[.string ByteArray.empty, .int .i64 1])) w) := by
      show RdP _ _ _ _
      unfold rdS
      rw [hh]
      exact ⟨rfl, rfl⟩
    rw [hh] at P
    clear h c0 c1 c2
    go_enter Try.func26, Try.ntmps26
    go_wp2_with (go_at_call 39; refine P.mono ?_; rintro e w1 ⟨rfl, rfl⟩)
    go_ret2
    exact G.out
  case pos =>
  rw [hh] at P
  cases hb : s.off with
  | true =>
    have G : Hid (RdP w (rdS s i) (.returned (.tuple #[.string ByteArray.empty, .int .i64 16])) w) := by
      show RdP _ _ _ _
      unfold rdS
      rw [hh, hb]
      exact ⟨rfl, rfl⟩
    clear h
    rw [hb] at c2
    clear hb
    go_enter Try.func26, Try.ntmps26
    go_wp2_with (go_at_call 39; refine P.mono ?_; rintro e w1 ⟨rfl, rfl⟩)
    go_ret2
    exact G.out
  | false =>
    have hin : 0 ≤ i ∧ i < s.n := by simpa [hasB] using hh
    obtain ⟨j, rfl⟩ := Int.eq_ofNat_of_zero_le hin.1
    have hj : j < s.n := by omega
    have G : Hid (∀ d, d = lastW s.S s.C j s.C.length → RdP w (rdS s j) (.returned (.tuple #[.string d, .int .i64 0])) w) := fun d hd => by
      unfold rdS
      rw [hh, hb, hd, lastW_apk _ _ _ (by rw [h.len]; exact hj)]
      exact ⟨rfl, rfl⟩
    obtain ⟨A0, cc, rfl⟩ := h.form
    have SA := h.secAt j hj
    have H := Lib.hid h
    have hm : s.C.length ≤ 9223372036854775807 := by
      rcases h.cac.2 with ⟨_, h0⟩ | ⟨g, cap, cur, _, _, _, h1, h2, _⟩
      · omega
      · unfold maxLen at h2; omega
    rw [hb] at c2
    clear h hb hin hh
    have Z0 : Hid (s.S.getD j ByteArray.empty = lastW s.S s.C j 0) := rfl
    generalize s.S.getD j ByteArray.empty = d0 at *
    have hX : (j : Int) < (s.n : Int) := by omega
    go_enter Try.func26, Try.ntmps26
    go_wp2_with (go_at_call 39; refine P.mono ?_; rintro e w1 ⟨rfl, rfl⟩)
    go_loopw [6] (fun vi wr => ∃ x : Int, ∃ k : Nat, vi = .int .i64 x ∧ x + 1 = k ∧ k ≤ s.C.length ∧ w = wr ∧ Hid (lastW s.S s.C j s.C.length = lastW s.S s.C j k)) (fun i _ => (intOf i + 1).toNat)
    case atStart => exact ⟨_, s.C.length, rfl, by omega, Nat.le_refl _, rfl, rfl⟩
    case round =>
      clear P
      obtain ⟨x, k, rfl, hk, hle, rfl, E⟩ := hrel
      cases k with
      | zero =>
        have hx : x = -1 := by omega
        subst hx
        have G2 := Lib.hid (G.out d0 (by rw [Z0.out, E.out]))
        clear G E Z0 hk
        go_wp2
        go_ret2
        exact G2.out
      | succ k =>
        have hx : x = (k : Int) := by omega
        subst hx
        obtain ⟨g, c9, hv, e0, e1⟩ := H.out.cacAt k (by omega)
        injection hv with hA9 _ hc
        subst hA9 hc
        have hg := cell_lt e0
        have HT : Hid (s.C[k].k = j → lastW s.S s.C j (k + 1) = s.C[k].d) := fun e => lastW_t (by omega) e
        have HF : Hid (s.C[k].k ≠ j → lastW s.S s.C j (k + 1) = lastW s.S s.C j k) := fun e => lastW_f (by omega) e
        have hlt : (k : Int) < (s.C.length : Int) := by omega
        generalize hz : s.C[k] = z at *
        clear hz H
        by_cases hj2 : z.k = j
        · have G2 := Lib.hid (G.out z.d (by rw [E.out, HT.out hj2]))
          have q1 : ((z.k : Int) == (j : Int)) = true := by simp [hj2]
          clear G E Z0 hk HT HF
          go_wp2
          go_ret2
          exact G2.out
        · have q1 : ((z.k : Int) == (j : Int)) = false := by simp; omega
          have E2 := Lib.hid (E.out.trans (HF.out hj2))
          clear E HT HF
          go_wp2_with fail
          go_roundw
          case rel => exact ⟨_, k, rfl, by omega, by omega, trivial, E2⟩
          case measure => simp [intOf]
def apS (s : DkS) (i : Int) (d : ByteArray) : DkS := { s with C := s.C ++ [⟨i.toNat, d⟩] }
def wrS (s : DkS) (i : Int) (d : ByteArray) : DkS × Int :=
  if hasB s i && decide (d.size = 64) then
    (if s.off then (s, 16) else if s.pl then (if s.pw = 0 then (loS s s.q s.qn, 16) else (apS { s with pw := s.pw - 1 } i d, 0)) else (apS s i d, 0))
  else (s, 1)
theorem info70 : (Try.prog.info? 70).map (fun i => (i.zero, i.size, i.bytes)) = some (some (.agg #[.int .i64 0, .string { data := #[] }]), 2, 24) := by kernel_rfl
theorem dw_app {w0 w1 wa w3 : World} {F0 : Nat → Prop} {s : DkS} {v v' : Value} {Ka : Option Addr} {kc : Nat} (h : Dw w0 F0 w1 s v Ka kc) (hb : Below w1.heap.size w1 wa) {i : Nat} {d : ByteArray} (hi : i < s.n) (hd : d.size = 64)
    (hown : w3.ownsRow 0 70 2 v' (s.C.length + 1) (cwl s.C ++ [.int .i64 (i : Nat), .string d])) (hgr : wa.grownBy w3 v.ownBlock) (hbk : ∀ k, v'.ownBlock = some k → v.ownBlock = some k ∨ k = wa.heap.size) :
    Dw w0 F0 (w3.setCell ⟨s.L, 1, none⟩ v') { s with C := s.C ++ [⟨i, d⟩] } v' Ka kc := by
  obtain ⟨F, hF, hk, hc⟩ := h
  have hwa : w1.heap.size ≤ wa.heap.size := hb.size
  have hw0 : w0.heap.size ≤ w1.heap.size := hc.size
  have h1 := hk.below hb
  have g1 := h1.lt
  have hown' : w3.ownsRow 0 70 2 v' (s.C ++ [(⟨i, d⟩ : CW)]).length (cwl (s.C ++ [(⟨i, d⟩ : CW)])) := by
    rw [cwl_snoc, List.length_append]; exact hown
  have c3 : Chg (fun k => v.ownBlock = some k) wa w3 := Chg.of_grown hgr
  have o3 := c3.blk h1.obj (fun e => (h1.vL _ e).1 rfl)
  have nv : ∀ k, v'.ownBlock = some k → k ≠ s.L ∧ k ≠ s.X := fun k hk => by
    rcases hbk k hk with e | e
    · exact h1.vL k e
    · subst e; exact ⟨fun e => by have := g1.1; omega, fun e => by have := g1.2.1; omega⟩
  have nk : ∀ a, Ka = some a → 0 < s.qn → v'.ownBlock ≠ some a.block := fun a e hn e2 => by
    rcases hbk _ e2 with e3 | e3
    · exact (h1.kL a e hn).2.2 e3
    · have := h1.kp.lt a e hn; omega
  have cs := Chg.set w3 s.L 1 v'
  have KS : ∀ c ∈ s.C ++ [(⟨i, d⟩ : CW)], c.k < s.n ∧ c.d.size = 64 := fun c hc => by
    rcases List.mem_append.1 hc with h | h
    · exact h1.ks c h
    · rw [List.mem_singleton.1 h]; exact ⟨hi, hd⟩
  refine ⟨fun b => F b ∨ v'.ownBlock = some b, fun b hb2 => ?_, ?_, ?_⟩
  · rcases hb2 with h | h
    · exact hF b h
    · rcases hbk b h with e | e
      · exact hF b (h1.Fv b e)
      · right; omega
  · exact ⟨set_obj o3 1 _, own_chg (own_chg h1.sec c3 (fun k hk e => by cases hk; exact (h1.vL _ e).2 rfl)) cs (fun k hk e => by cases hk; exact h1.XL e), own_chg hown' cs (fun k hk e => (nv k hk).1 e),
      (h1.kp.chg c3 (fun a e hn e2 => (h1.kL a e hn).2.2 e2)).chg cs (fun a e hn e2 => (h1.kL a e hn).1 e2), .inl h1.FL, .inl h1.FX, (fun k hk => .inr hk), (fun a e hn => .inl (h1.FK a e hn)), h1.XL, nv, (fun a e hn => ⟨(h1.kL a e hn).1, (h1.kL a e hn).2.1, nk a e hn⟩), h1.hn, h1.len, KS, h1.pb⟩
  · refine (hc.trans2 ((Chg.of_below hb F).trans (c3.mono (fun k _ hk => h1.Fv k hk))) (fun i hi hi2 => ?_)).trans2 cs (fun i hi e => ?_)
    · rcases hF i hi2 with h | h
      · exact h
      · omega
    · rw [e]
      rcases hF _ h1.FL with h | h
      · exact h
      · omega
set_option maxRecDepth 20000 in
set_option maxHeartbeats 4000000 in
theorem write_any (h : Dk F w s v Ka kc) (i : Int) (d : ByteArray) (hC : s.C.length ≤ 1000) : Calls Try.prog 23 #[.pointer (some ⟨s.L, 0, none⟩), .int .i64 i, .string d] w (OpP w F (wrS s i d).1 (.int .i64 (wrS s i d).2)) := by
  obtain ⟨c0, c1, c2, c3, c4, c5⟩ := h.cells
  have hl := h.lt.1
  have P := has_any h i
  have D := Lib.hid h
  by_cases hh : hasB s i = true
  case neg =>
    have hh : hasB s i = false := by simpa using hh
    have G : Hid (OpP w F (wrS s i d).1 (.int .i64 (wrS s i d).2) (.returned (.int .i64 1)) w) := by
      show OpP _ _ _ _ _ _
      unfold wrS
      rw [hh]
      exact ⟨rfl, v, Ka, kc, Dw.refl h⟩
    rw [hh] at P
    clear h c0 c1 c2 c3 c4 c5 hh D
    go_enter Try.func23, Try.ntmps23
    go_wp2_with (go_at_call 39; refine P.mono ?_; rintro e w1 ⟨rfl, rfl⟩)
    go_ret
    exact G.out
  case pos =>
  rw [hh] at P
  have hin : 0 ≤ i ∧ i < s.n := by simpa [hasB] using hh
  obtain ⟨j, rfl⟩ := Int.eq_ofNat_of_zero_le hin.1
  have hj : j < s.n := by omega
  clear hin
  by_cases hz : d.size = 64
  case neg =>
    have G : Hid (OpP w F (wrS s j d).1 (.int .i64 (wrS s j d).2) (.returned (.int .i64 1)) w) := by
      show OpP _ _ _ _ _ _
      unfold wrS
      rw [hh, decide_eq_false hz]
      exact ⟨rfl, v, Ka, kc, Dw.refl h⟩
    have hz2 : ((d.size : Int) != 64) = true := by simp; omega
    clear h c0 c1 c2 c3 c4 c5 hh D
    go_enter Try.func23, Try.ntmps23
    go_wp2_with (go_at_call 39; refine P.mono ?_; rintro e w1 ⟨rfl, rfl⟩)
    go_ret
    exact G.out
  case pos =>
  have hz2 : ((d.size : Int) != 64) = false := by simp; omega
  have W : Hid (wrS s j d = (if s.off then (s, 16) else if s.pl then (if s.pw = 0 then (loS s s.q s.qn, 16) else (apS { s with pw := s.pw - 1 } j d, 0)) else (apS s j d, 0))) := by
    show _ = _
    unfold wrS
    rw [hh, decide_eq_true hz]
    rfl
  generalize wrS s j d = R at *
  clear hh
  have HZ := Lib.hid hz
  clear hz
  cases hb : s.off with
  | true =>
    have G : Hid (OpP w F R.1 (.int .i64 R.2) (.returned (.int .i64 16)) w) := by
      show OpP _ _ _ _ _ _
      rw [W.out, if_pos hb]
      exact ⟨rfl, v, Ka, kc, Dw.refl h⟩
    rw [hb] at c2
    clear h D hb
    go_enter Try.func23, Try.ntmps23
    go_wp2_with (go_at_call 39; refine P.mono ?_; rintro e w1 ⟨rfl, rfl⟩)
    go_ret
    exact G.out
  | false =>
  rw [hb] at c2
  have W : Hid (R = if s.pl then (if s.pw = 0 then (loS s s.q s.qn, 16) else (apS { s with pw := s.pw - 1 } j d, 0)) else (apS s j d, 0)) := W.out.trans (if_neg (by simp [hb]))
  clear hb
  obtain ⟨i0, hi0, hzz⟩ := Option.map_eq_some_iff.1 info70
  simp only [Prod.mk.injEq] at hzz
  obtain ⟨hi1, hi2, hi3⟩ := hzz
  cases hp : s.pl with
  | true =>
    rw [hp] at c3
    by_cases hw : s.pw = 0
    · have LP := lose_any h h.kp (fun a e hn => ⟨(h.kL a e hn).1, (h.kL a e hn).2.1⟩)
      have G : Hid (∀ w', (∃ v Ka kc, Dw w F w' (loS s s.q s.qn) v Ka kc) → OpP w F R.1 (.int .i64 R.2) (.returned (.int .i64 16)) w') := fun w' H => by
        rw [W.out, if_pos hp, if_pos hw]
        exact ⟨rfl, H⟩
      rw [hw] at c4
      clear h hp hw D
      go_enter Try.func23, Try.ntmps23
      go_wp2_with (first
        | (go_at_call 39; refine P.mono ?_; rintro e w1 ⟨rfl, rfl⟩)
        | (go_at_call 38; refine LP.mono ?_; rintro e w1 ⟨rfl, H⟩; have G2 := Lib.hid (G.out _ H); clear H))
      go_ret
      exact G2.out
    · have hp0 : (s.pw == 0) = false := by simpa using hw
      have hpb := h.pb
      have HS := Lib.hid (dw_L (s := s) (j := 4) (Dw.refl h) (fun _ h => h.setPw (s.pw - 1) (by omega)))
      have HD := h.setPw (s.pw - 1) (by omega)
      have hf4 := h.fz 4
      have RES : Hid (R = ({ s with pw := s.pw - 1, C := s.C ++ [⟨j, d⟩] }, 0)) := by
        show _ = _
        rw [W.out, if_pos hp, if_neg hw]
        rfl
      clear W
      generalize hq : s.pw = pw at *
      go_enter Try.func23, Try.ntmps23
      go_upto_region 10 with (go_at_call 39; refine P.mono ?_; rintro e w1 ⟨rfl, rfl⟩)
      have c1 := HD.cells.2.1
      simp only at c1
      clear c0 c2 c3 c4 c5 hl h D
      generalize w.setCell ⟨s.L, 4, none⟩ (.int .i64 (pw - 1)) = W1 at *
      have hown := HD.cac
      have hlz := HD.lt
      have hvL := HD.vL
      have HO := HD.obj
      try simp only at hown hlz hvL HO
      generalize hcn : s.C.length = cn at *
      have hB : Below W1.heap.size W1 (W1.alloc (.cells #[.int .i64 (j : Nat), .string d] 70)) := (Below.refl _ W1).alloc (Nat.le_refl _) _
      have own2 : (W1.alloc (.cells #[.int .i64 (j : Nat), .string d] 70)).ownsRow 0 70 2 v cn (cwl s.C) := own_chg hown (Chg.of_below hB (fun _ => False)) (fun _ _ x => x)
      have FIN : Hid (∀ v' w3, w3.ownsRow 0 70 2 v' (cn + 1) (cwl s.C ++ [.int .i64 (j : Nat), .string d]) → (W1.alloc (.cells #[.int .i64 (j : Nat), .string d] 70)).grownBy w3 v.ownBlock → (∀ k, v'.ownBlock = some k → v.ownBlock = some k ∨ k = (W1.alloc (.cells #[.int .i64 (j : Nat), .string d] 70)).heap.size) →
          OpP w F R.1 (.int .i64 R.2) (.returned (.int .i64 0)) (w3.setCell ⟨s.L, 1, none⟩ v')) := fun v' w3 h1 h2 h3 => by
        subst hcn
        rw [RES.out]
        exact ⟨rfl, _, _, _, dw_app HS.out hB hj HZ.out h1 h2 h3⟩
      have CL : Hid (∀ w3, (W1.alloc (.cells #[.int .i64 (j : Nat), .string d] 70)).grownBy w3 v.ownBlock → w3.cell? ⟨s.L, 1, none⟩ = some v ∧ w3.frozen? ⟨s.L, 1, none⟩ = false ∧ s.L < w3.heap.size) := fun w3 hg => by
        have o1 := (Chg.of_below hB (fun _ => False)).blk HO (fun x => x)
        have o2 := (Chg.of_grown hg).blk o1 (fun e => (hvL _ e).1 rfl)
        exact ⟨by simp [World.cell?, o2], by simp [World.frozen?, o2], blk_lt o2⟩
      have NW : Hid (∀ (jj : Nat) (u : Value), [Value.int .i64 (j : Nat), .string d][jj]? = some u → (W1.alloc (.cells #[.int .i64 (j : Nat), .string d] 70)).cell? (Addr.add ⟨W1.heap.size, 0, none⟩ jj) = some u) := fun jj u hu => by
        rw [add_plain, Nat.zero_add, new_c]
        simpa using hu
      have HC := Lib.hid hcn
      have hl := hlz.1
      clear hown hcn HO hvL HD
      skip
      go_wp2_with (first
        | (go_at_call 39; refine P.mono ?_; rintro e w1 ⟨rfl, rfl⟩)
        | (at_builtin; refine wpList_append_blk rfl (.tmp 51) (.tmp 55) 58 rfl 0 70 i0 _ 2 24 Try.underlying58 hi0 hi1 hi2 hi3 rfl (by decide) v cn (cwl s.C) rfl own2 ⟨W1.heap.size, 0, none⟩ 1 1 [.int .i64 (j : Nat), .string d] rfl rfl NW.out ?c1 ?c2 ?c3 ?c4 ?_))
      case c1 => intro u hu; simp at hu; rcases hu with rfl | rfl <;> rfl
      case c2 => unfold maxLen; omega
      case c3 => omega
      case c4 => omega
      intro v' w3 hown hgr hbk
      obtain ⟨g9, c9, rfl⟩ := own_form hown (by omega)
      have G := Lib.hid (FIN.out _ w3 hown hgr (by simpa using hbk))
      obtain ⟨q1, q2, q3⟩ := CL.out w3 hgr
      clear hown hgr hbk FIN CL NW own2 hB
      go_wp2
      go_ret
      exact G.out
  | false =>
    rw [hp] at c3
    have RES : Hid (R = ({ s with C := s.C ++ [⟨j, d⟩] }, 0)) := by
      show _ = _
      rw [W.out, if_neg (by simp [hp])]
      rfl
    clear W
    have HD := h
    clear h
    have hown := HD.cac
    have hlz := HD.lt
    have hvL := HD.vL
    have HO := HD.obj
    try simp only at hown hlz hvL HO
    generalize hcn : s.C.length = cn at *
    have hB : Below w.heap.size w (w.alloc (.cells #[.int .i64 (j : Nat), .string d] 70)) := (Below.refl _ w).alloc (Nat.le_refl _) _
    have own2 : (w.alloc (.cells #[.int .i64 (j : Nat), .string d] 70)).ownsRow 0 70 2 v cn (cwl s.C) := own_chg hown (Chg.of_below hB (fun _ => False)) (fun _ _ x => x)
    have FIN : Hid (∀ v' w3, w3.ownsRow 0 70 2 v' (cn + 1) (cwl s.C ++ [.int .i64 (j : Nat), .string d]) → (w.alloc (.cells #[.int .i64 (j : Nat), .string d] 70)).grownBy w3 v.ownBlock → (∀ k, v'.ownBlock = some k → v.ownBlock = some k ∨ k = (w.alloc (.cells #[.int .i64 (j : Nat), .string d] 70)).heap.size) →
        OpP w F R.1 (.int .i64 R.2) (.returned (.int .i64 0)) (w3.setCell ⟨s.L, 1, none⟩ v')) := fun v' w3 h1 h2 h3 => by
      subst hcn
      rw [RES.out]
      exact ⟨rfl, _, _, _, dw_app (Dw.refl D.out) hB hj HZ.out h1 h2 h3⟩
    have CL : Hid (∀ w3, (w.alloc (.cells #[.int .i64 (j : Nat), .string d] 70)).grownBy w3 v.ownBlock → w3.cell? ⟨s.L, 1, none⟩ = some v ∧ w3.frozen? ⟨s.L, 1, none⟩ = false ∧ s.L < w3.heap.size) := fun w3 hg => by
      have o1 := (Chg.of_below hB (fun _ => False)).blk HO (fun x => x)
      have o2 := (Chg.of_grown hg).blk o1 (fun e => (hvL _ e).1 rfl)
      exact ⟨by simp [World.cell?, o2], by simp [World.frozen?, o2], blk_lt o2⟩
    have NW : Hid (∀ (jj : Nat) (u : Value), [Value.int .i64 (j : Nat), .string d][jj]? = some u → (w.alloc (.cells #[.int .i64 (j : Nat), .string d] 70)).cell? (Addr.add ⟨w.heap.size, 0, none⟩ jj) = some u) := fun jj u hu => by
      rw [add_plain, Nat.zero_add, new_c]
      simpa using hu
    have HC := Lib.hid hcn
    skip
    clear hown hcn HO hvL HD
    go_enter Try.func23, Try.ntmps23
    go_wp2_with (first
      | (go_at_call 39; refine P.mono ?_; rintro e w1 ⟨rfl, rfl⟩)
      | (at_builtin; refine wpList_append_blk rfl (.tmp 51) (.tmp 55) 58 rfl 0 70 i0 _ 2 24 Try.underlying58 hi0 hi1 hi2 hi3 rfl (by decide) v cn (cwl s.C) rfl own2 ⟨w.heap.size, 0, none⟩ 1 1 [.int .i64 (j : Nat), .string d] rfl rfl NW.out ?c1 ?c2 ?c3 ?c4 ?_))
    case c1 => intro u hu; simp at hu; rcases hu with rfl | rfl <;> rfl
    case c2 => unfold maxLen; omega
    case c3 => omega
    case c4 => omega
    intro v' w3 hown hgr hbk
    obtain ⟨g9, c9, rfl⟩ := own_form hown (by omega)
    have G := Lib.hid (FIN.out _ w3 hown hgr (by simpa using hbk))
    obtain ⟨q1, q2, q3⟩ := CL.out w3 hgr
    clear hown hgr hbk FIN CL NW own2 hB
    go_wp2
    go_ret
    exact G.out
end
end Go.Proofs.Ytoafoikphpdimaa
