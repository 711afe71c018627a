/- Copies of lists; CutAfter; Contents. -/
import Derived.Test.YtoafoikphpdimaaWrt
namespace Go.Proofs.Ytoafoikphpdimaa
open Go.ChangeShapes Go.WideShapes Go.ChangeAt Go.RowKit Go.Deep Go.Joins

theorem info4 : (Try.prog.info? 4).map (fun i => (i.zero, i.size, i.bytes)) = some (some (.bool false), 1, 1) := by kernel_rfl
theorem info9 : (Try.prog.info? 9).map (fun i => (i.zero, i.size, i.bytes)) = some (some (.string { data := #[] }), 1, 16) := by kernel_rfl
theorem sl_nil34 (w : World) : (Go.binOp BinOp.eql 34 (.slice none 0 0) (.slice none 0 0)).run Try.prog w = .ok (.bool true) w := by kernel_rfl
theorem sl_ne34 (A : Addr) (n c : Nat) (w : World) : (Go.binOp BinOp.eql 34 (.slice (some A) n c) (.slice none 0 0)).run Try.prog w = .ok (.bool false) w := by kernel_rfl
theorem sl_ne40 (A : Addr) (n c : Nat) (w : World) : (Go.binOp BinOp.eql 40 (.slice (some A) n c) (.slice none 0 0)).run Try.prog w = .ok (.bool false) w := by kernel_rfl
theorem own_bs {w : World} {base n : Nat} {v : Value} {q : Nat → Bool} (h : w.ownsRow base 4 1 v n ((List.range n).map fun i => .bool (q i))) (_ : base ≤ w.heap.size) : ∃ A c, v = .slice A n c ∧ Bs w A n c q ∧ ∀ a, A = some a → base ≤ a.block := by
  rcases h.2 with ⟨rfl, h0⟩ | ⟨g, cap, cur, rfl, hbg, hg, hnc, hcm, _⟩
  · have h0 : n = 0 := by simpa using h0
    subst h0
    exact ⟨none, 0, rfl, bs_nil _ _, fun a e => by cases e⟩
  · refine ⟨_, cap, rfl, ⟨⟨hnc, by unfold maxLen at hcm; omega⟩, (fun e => by cases e), .inr ⟨g, 0, rfl, blk_lt hg, fun i hi => ?_⟩⟩, (fun a e => by cases e; exact hbg)⟩
    rw [Nat.zero_add, h.cellAt i (by omega), List.getElem?_map, List.getElem?_range hi]
    rfl
/-- The result of a copy: the same contents, in new memory. -/
def ClB (w : World) (n : Nat) (q : Nat → Bool) (e : Ending) (w' : World) : Prop := ∃ A c, e = .returned (.slice A n c) ∧ Bs w' A n c q ∧ (∀ a, A = some a → w.heap.size ≤ a.block) ∧ Below w.heap.size w w'
set_option maxRecDepth 20000 in
set_option maxHeartbeats 2000000 in
theorem clb_any {A : Option Addr} {n c : Nat} {q : Nat → Bool} {w : World} (h : Bs w A n c q) (hn : n ≤ 140737488355328) : Calls Try.prog 40 #[.slice A n c] w (ClB w n q) := by
  cases A with
  | none =>
    obtain ⟨rfl, rfl⟩ := h.nil rfl
    have F : Hid (ClB w 0 q (.returned (.slice none 0 0)) w) := ⟨none, 0, rfl, h, (fun a e => by cases e), Below.refl _ _⟩
    clear h
    have SN := sl_nil34 w
    go_enter Try.func40, Try.ntmps40
    go_wp2
    go_ret
    exact F.out
  | some T =>
    obtain ⟨i0, hi, hzz⟩ := Option.map_eq_some_iff.1 info4
    simp only [Prod.mk.injEq] at hzz
    obtain ⟨hz, hs, hb⟩ := hzz
    have B2 : Below w.heap.size w (w.alloc (.cells #[] 4)) := (Below.refl _ w).alloc (Nat.le_refl _) _
    have S2 := h.below B2
    have own : (w.alloc (.cells #[] 4)).ownsRow w.heap.size 4 1 (.slice (some ⟨w.heap.size, 0, none⟩) 0 0) 0 [] :=
      ⟨rfl, .inr ⟨w.heap.size, 0, #[], rfl, Nat.le_refl _, heap_alloc_new w _, Nat.le_refl _, by omega, rfl, rfl⟩⟩
    have SN := sl_ne34 T n c w
    have NW : Hid (∀ (j : Nat) (u : Value), ((List.range n).map fun i => Value.bool (q i))[j]? = some u → (w.alloc (.cells #[] 4)).cell? (T.add j) = some u) := fun j u hu => by
      have hj : j < n := by
        have := (List.getElem?_eq_some_iff.1 hu).1
        simpa using this
      rw [List.getElem?_map, List.getElem?_range hj] at hu
      rcases S2.row with h0 | ⟨b, off, hT, _, hc⟩
      · omega
      · injection hT with hT
        subst hT
        rw [add_plain, hc j hj]
        exact hu
    have ONE : Hid (∀ u ∈ (List.range n).map (fun i => Value.bool (q i)), u.oneCell' = true) := fun u hu => by
      obtain ⟨i, _, rfl⟩ := List.mem_map.1 hu
      rfl
    have LN : ((List.range n).map fun i => Value.bool (q i)).length = n * 1 := by simp
    generalize hnews : ((List.range n).map fun i => Value.bool (q i)) = news at *
    have HNW := Lib.hid hnews
    clear h hnews
    go_enter Try.func40, Try.ntmps40
    go_wp2_with (at_builtin; refine wpList_append_own _ rfl (.tmp 5) (.tmp 6) 34 rfl w.heap.size 4 i0 _ 1 1 Try.underlying34 hi hz hs hb rfl (by decide) _ 0 [] rfl own T n c news rfl LN NW.out ONE.out ?c3 ?c4 ?c5 ?_)
    case c3 => unfold maxLen; omega
    case c4 => omega
    case c5 => exact B2.size
    intro v' w3 hown hgr hiff
    have hown : w3.ownsRow w.heap.size 4 1 v' n ((List.range n).map fun i => .bool (q i)) := by rw [HNW.out]; simpa using hown
    have B3 : Below w.heap.size w w3 := B2.grown hgr B2.size (fun k hk => by simp [Value.ownBlock] at hk; omega)
    obtain ⟨A2, cp, rfl, S4, hg⟩ := own_bs hown B3.size
    have FIN : Hid (ClB w n q (.returned (.slice A2 n cp)) w3) := ⟨A2, cp, rfl, S4, hg, B3⟩
    clear hown hgr hiff S4 hg B3 NW ONE HNW
    go_wp2
    go_ret
    exact FIN.out
theorem own_sl {w : World} {base n : Nat} {v : Value} {l : List ByteArray} (h : w.ownsRow base 9 1 v n (l.map .string)) (hn : l.length = n) : ∃ A c, v = .slice A n c ∧ Sl w A l := by
  rcases h.2 with ⟨rfl, h0⟩ | ⟨g, cap, cur, rfl, hbg, hg, hnc, hcm, _⟩
  · have h0 : n = 0 := by simpa using h0
    subst h0
    have : l = [] := List.eq_nil_of_length_eq_zero hn
    exact ⟨none, 0, rfl, by rw [hn]; omega, .inl this⟩
  · refine ⟨_, cap, rfl, by rw [hn]; unfold maxLen at hcm; omega, .inr ⟨g, 0, rfl, blk_lt hg, fun i hi => ?_⟩⟩
    rw [Nat.zero_add, h.cellAt i (by omega), List.getElem?_map, List.getElem?_eq_getElem hi, List.getD_eq_getElem?_getD, List.getElem?_eq_getElem hi]
    rfl
/-- The result of a copy of strings. -/
def ClS (w : World) (l : List ByteArray) (e : Ending) (w' : World) : Prop := ∃ g c, e = .returned (.slice (some ⟨g, 0, none⟩) l.length c) ∧ w'.ownsRow w.heap.size 9 1 (.slice (some ⟨g, 0, none⟩) l.length c) l.length (l.map .string) ∧ Below w.heap.size w w'
set_option maxRecDepth 20000 in
set_option maxHeartbeats 2000000 in
theorem cls_any {T : Addr} {c : Nat} {l : List ByteArray} {w : World} (h : Sl w (some T) l) (h1 : 1 ≤ l.length) (hn : l.length ≤ 100000) : Calls Try.prog 37 #[.slice (some T) l.length c] w (ClS w l) := by
  obtain ⟨i0, hi, hzz⟩ := Option.map_eq_some_iff.1 info9
  simp only [Prod.mk.injEq] at hzz
  obtain ⟨hz, hs, hb⟩ := hzz
  have B2 : Below w.heap.size w (w.alloc (.cells #[] 9)) := (Below.refl _ w).alloc (Nat.le_refl _) _
  have S2 := h.below B2
  have own : (w.alloc (.cells #[] 9)).ownsRow w.heap.size 9 1 (.slice (some ⟨w.heap.size, 0, none⟩) 0 0) 0 [] :=
    ⟨rfl, .inr ⟨w.heap.size, 0, #[], rfl, Nat.le_refl _, heap_alloc_new w _, Nat.le_refl _, by omega, rfl, rfl⟩⟩
  generalize hln : l.length = n at *
  have SN := sl_ne40 T n c w
  have NW : Hid (∀ (j : Nat) (u : Value), (l.map Value.string)[j]? = some u → (w.alloc (.cells #[] 9)).cell? (T.add j) = some u) := fun j u hu => by
    have hj : j < l.length := by
      have := (List.getElem?_eq_some_iff.1 hu).1
      simpa using this
    rw [List.getElem?_map, List.getElem?_eq_getElem hj] at hu
    rcases S2.row with h0 | ⟨b, off, hT, _, hc⟩
    · rw [h0] at hj; simp at hj
    · injection hT with hT
      subst hT
      rw [add_plain, hc j hj, List.getD_eq_getElem?_getD, List.getElem?_eq_getElem hj]
      exact hu
  have ONE : Hid (∀ u ∈ l.map Value.string, u.oneCell' = true) := fun u hu => by
    obtain ⟨i, _, rfl⟩ := List.mem_map.1 hu
    rfl
  have LN : (l.map Value.string).length = n * 1 := by simp [hln]
  have HL := Lib.hid hln
  clear h hln S2
  go_enter Try.func37, Try.ntmps37
  go_wp2_with (at_builtin; refine wpList_append_own _ rfl (.tmp 5) (.tmp 6) 40 rfl w.heap.size 9 i0 _ 1 16 Try.underlying40 hi hz hs hb rfl (by decide) _ 0 [] rfl own T n c (l.map Value.string) rfl LN NW.out ONE.out ?c3 ?c4 ?c5 ?_)
  case c3 => unfold maxLen; omega
  case c4 => omega
  case c5 => exact B2.size
  intro v' w3 hown hgr hiff
  have hown : w3.ownsRow w.heap.size 9 1 v' n (l.map .string) := by simpa using hown
  have B3 : Below w.heap.size w w3 := B2.grown hgr B2.size (fun k hk => by simp [Value.ownBlock] at hk; omega)
  obtain ⟨g9, c9, rfl⟩ := own_form hown (by omega)
  have FIN : Hid (ClS w l (.returned (.slice (some ⟨g9, 0, none⟩) n c9)) w3) := by
    show ClS _ _ _ _
    unfold ClS
    rw [HL.out]
    exact ⟨_, _, rfl, hown, B3⟩
  clear hown hgr hiff B3 NW ONE
  go_wp2
  go_ret
  exact FIN.out
section
variable {F : Nat → Prop} {w : World} {s : DkS} {v : Value} {Ka : Option Addr} {kc : Nat}
set_option maxHeartbeats 1000000 in
theorem cont_any (h : Dk F w s v Ka kc) : Calls Try.prog 20 #[.pointer (some ⟨s.L, 0, none⟩)] w (ClS w s.S) := by
  obtain ⟨c0, -⟩ := h.cells
  have hl := h.lt.1
  obtain ⟨A, c, e, HS⟩ := own_sl h.sec h.len
  injection e with e1 e2 e3
  subst e1 e3
  have P := cls_any (c := s.n) HS (by have := h.len; have := h.hn; omega) (by have := h.len; have := h.hn; omega)
  rw [h.len] at P
  clear h HS
  go_enter Try.func20, Try.ntmps20
  go_wp2_with fail
  refine P.mono ?_
  rintro e w' ⟨g, c, rfl, h1, h2⟩
  have H : Hid (ClS w s.S (.returned (.slice (some ⟨g, 0, none⟩) s.S.length c)) w') := ⟨g, c, rfl, h1, h2⟩
  clear h1 h2 P
  go_wp2
  go_ret
  exact H.out
theorem Dw.stepG {w0 w w' : World} {F0 : Nat → Prop} {s s' : DkS} {v v' : Value} {Ka Ka' : Option Addr} {kc kc' : Nat} (h : Dw w0 F0 w s v Ka kc)
    (hk : ∀ F, Dk F w s v Ka kc → ∃ F', (∀ b, F' b → F b ∨ w.heap.size ≤ b) ∧ Dk F' w' s' v' Ka' kc' ∧ Chg F w w') : Dw w0 F0 w' s' v' Ka' kc' := by
  obtain ⟨F, hF, hd, hc⟩ := h
  obtain ⟨F', hF', d2, c2⟩ := hk F hd
  have := hc.size
  refine ⟨F', fun b hb => ?_, d2, hc.trans2 c2 (fun i hi hi2 => by rcases hF i hi2 with h | h; exact h; omega)⟩
  rcases hF' b hb with h | h
  · exact hF b h
  · right; omega
def cutS (s : DkS) (x : Int) (q : Nat → Bool) (n : Nat) : DkS := if 0 ≤ x then { s with pl := true, pw := x, q := q, qn := n } else { s with pl := false, pw := 0, q := fun _ => false, qn := 0 }
set_option maxHeartbeats 2000000 in
theorem cut_any (h : Dk F w s v Ka kc) {A : Option Addr} {n c : Nat} {q : Nat → Bool} (hB : Bs w A n c q) (hA : ∀ a, A = some a → 0 < n → ¬ F a.block) (hn : n ≤ 140737488355328) (x : Int) (hx : x ≤ 4611686018427387904) :
    Calls Try.prog 28 #[.pointer (some ⟨s.L, 0, none⟩), .int .i64 x, .slice A n c] w (OpP w F (cutS s x q n) (.tuple #[])) := by
  obtain ⟨-, -, -, c3, c4, c5⟩ := h.cells
  have f3 := h.fz 3
  have f4 := h.fz 4
  have f5 := h.fz 5
  have hl := h.lt.1
  have h3 := dw_L (s := s) (j := 3) (Dw.refl h) (fun _ h => h.setPl false)
  have h4 := dw_L (s := { s with pl := false }) (j := 4) h3 (fun _ h => h.setPw 0 (by omega))
  have h5 := dw_L (s := { s with pl := false, pw := 0 }) (j := 5) h4 (fun _ h => h.noKeep)
  clear h3 h4
  simp only at h5
  by_cases h0 : x < 0
  · have G : Hid (OpP w F (cutS s x q n) (.tuple #[]) (.returned (.tuple #[])) (((w.setCell ⟨s.L, 3, none⟩ (.bool false)).setCell ⟨s.L, 4, none⟩ (.int .i64 0)).setCell ⟨s.L, 5, none⟩ (.slice none 0 0))) := by
      show OpP _ _ _ _ _ _
      unfold cutS
      rw [if_neg (by omega)]
      exact ⟨rfl, _, _, _, h5⟩
    clear h h5 hB hA
    go_enter Try.func28, Try.ntmps28
    go_wp2
    refine bodyPost_ret (results_none rfl _ _ _) rfl ?_
    exact G.out
  · have H5 := Lib.hid h5
    have HB := Lib.hid hB
    have B5 : Hid (Bs (((w.setCell ⟨s.L, 3, none⟩ (.bool false)).setCell ⟨s.L, 4, none⟩ (.int .i64 0)).setCell ⟨s.L, 5, none⟩ (.slice none 0 0)) A n c q) := by
      have S : ∀ j u, Chg F w (w.setCell ⟨s.L, j, none⟩ u) := fun j u => (Chg.set _ _ _ _).mono (fun k _ e => by rw [e]; exact h.FL)
      have S2 : ∀ W j u, Chg F W (W.setCell ⟨s.L, j, none⟩ u) := fun W j u => (Chg.set _ _ _ _).mono (fun k _ e => by rw [e]; exact h.FL)
      exact hB.chg (((S 3 _).trans (S2 _ 4 _)).trans (S2 _ 5 _)) hA
    clear h h5 hB hA
    go_enter Try.func28, Try.ntmps28
    go_upto_region 2 with fail
    generalize (((w.setCell ⟨s.L, 3, none⟩ (.bool false)).setCell ⟨s.L, 4, none⟩ (.int .i64 0)).setCell ⟨s.L, 5, none⟩ (.slice none 0 0)) = w1 at *
    clear c3 c4 c5 f3 f4 f5 hl
    have P := clb_any B5.out hn
    go_wp2_with fail
    refine P.mono ?_
    rintro e w2 ⟨A2, c2, rfl, hB2, hA2, hb2⟩
    obtain ⟨F1, hd⟩ := H5.out.dk
    have hd2 := hd.below hb2
    obtain ⟨-, -, -, y3, y4, y5⟩ := hd2.cells
    have f3 := hd2.fz 3
    have f4 := hd2.fz 4
    have f5 := hd2.fz 5
    have hl := hd2.lt.1
    have G : Hid (OpP w F (cutS s x q n) (.tuple #[]) (.returned (.tuple #[])) (((w2.setCell ⟨s.L, 3, none⟩ (.bool true)).setCell ⟨s.L, 4, none⟩ (.int .i64 x)).setCell ⟨s.L, 5, none⟩ (.slice A2 n c2))) := by
      show OpP _ _ _ _ _ _
      unfold cutS
      rw [if_pos (by omega)]
      refine ⟨rfl, v, A2, c2, ?_⟩
      refine H5.out.stepG (fun F9 hk => ?_)
      have hk2 := hk.below hb2
      have k3 := hk2.setPl true
      have k4 := k3.setPw x ⟨by omega, hx⟩
      have lts := hk.lt
      have k4 := k4.mono (F' := fun b => F9 b ∨ w1.heap.size ≤ b) (fun b h => .inl h)
      simp only at lts k4
      have SC : ∀ W j u, Chg (fun k => k = s.L) W (W.setCell ⟨s.L, j, none⟩ u) := fun W j u => Chg.set _ _ _ _
      have k5 := k4.setKeep (A := A2) (n := n) (c := c2) (q := q) (hB2.chg ((SC w2 3 _).trans (SC _ 4 _)) (fun a e _ e2 => by have := hA2 a e; have := lts.1; omega)) (fun a e _ => by
        have := hA2 a e
        refine ⟨.inr this, fun e2 => ?_, fun e2 => ?_, fun e2 => ?_⟩
        · have e2 : a.block = s.L := e2
          have := lts.1; omega
        · have e2 : a.block = s.X := e2
          have := lts.2.1; omega
        · have := lts.2.2 _ e2; omega)
      exact ⟨_, fun b hb => hb, k5, (Chg.of_below hb2 F9).trans (((((SC w2 3 _).trans (SC _ 4 _)).trans (SC _ 5 _))).mono (fun k _ e => by rw [e]; exact hk.FL))⟩
    clear H5 hd hd2 hB2 hA2 hb2 B5 P
    simp only at y3 y4 y5
    go_wp2
    refine bodyPost_ret (results_none rfl _ _ _) rfl ?_
    exact G.out
end
end Go.Proofs.Ytoafoikphpdimaa
