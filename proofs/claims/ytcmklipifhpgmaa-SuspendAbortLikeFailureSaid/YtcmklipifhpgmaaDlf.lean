/- slices.DeleteFunc over operations. -/
import Derived.Test.YtcmklipifhpgmaaDlc
import Derived.Laws.IdiomCopy
import Derived.Deep.Upon
namespace Go.Proofs.Ytcmklipifhpgmaa
open Go.ChangeShapes Go.WideShapes Go.ChangeAt Go.RowKit Go.Deep Go.Joins

theorem run_clear2 (w : World) (ty : TypeId) (Y o n c : Nat) (hn : 0 < n) (hc : ∀ j, j < n * 2 → (w.cell? ⟨Y, o + j, none⟩).isSome = true) (hf : ∀ j, w.frozen? ⟨Y, j, none⟩ = false) :
    (Builtin.clear_ #[31] ty #[.slice (some ⟨Y, o, none⟩) n c]).run Try.prog w = .ok (.tuple #[]) (w.setCells Y o (List.replicate (n * 2) (.int .i64 0))) := by
  have hv : ∀ w, (zeroValue 30).run Try.prog w = .ok (.agg #[.int .i64 0, .int .i64 0]) w := fun w => by kernel_rfl
  have hzc : (Builtin.zeroCells (Value.agg #[.int .i64 0, .int .i64 0]).cells n).toList = List.replicate (n * 2) (.int .i64 0) := by
    have hz : (Value.agg #[.int .i64 0, .int .i64 0]).cells = #[.int .i64 0, .int .i64 0] := rfl
    rw [hz]
    simp [Builtin.zeroCells]
    apply List.ext_getElem
    · simp
    · intro i h1 h2
      simp
      rcases Nat.mod_two_eq_zero_or_one i with e | e <;> simp [e]
  have hst := run_storeCells_cells (P := Try.prog) Y o (List.replicate (n * 2) (.int .i64 0)) 0 w (by simpa using hc) (fun j _ => hf _) (by intro v hv'; rw [List.eq_of_mem_replicate hv']; rfl)
  simp only [Nat.add_zero] at hst
  obtain ⟨m, rfl⟩ : ∃ m, n = m + 1 := ⟨n - 1, by omega⟩
  simp [Builtin.clear_, run_underlying Try.underlying31, hv, hzc, hst]
def kp (S : Int → Int → Bool) (p : List Op) : List Op := p.filter fun x => !dl S x
theorem kp_len (S : Int → Int → Bool) (p : List Op) : (kp S p).length ≤ p.length := List.length_filter_le ..
theorem kp_succ (S : Int → Int → Bool) (p : List Op) {j : Nat} (hj : j < p.length) : kp S (p.take (j + 1)) = kp S (p.take j) ++ (if dl S (p.getD j (0, 0)) then [] else [p.getD j (0, 0)]) := by
  unfold kp
  rw [List.take_add_one, List.filter_append, getD_lt hj, List.getElem?_eq_getElem hj]
  congr 1
  cases h : dl S p[j] <;> simp [h]
theorem kp_fx (S : Int → Int → Bool) (p : List Op) : kp S (p.take (fx S p)) = p.take (fx S p) := by
  unfold kp fx
  rw [List.filter_eq_self]
  intro x hx
  obtain ⟨i, hi, rfl⟩ := List.getElem_of_mem hx
  rw [List.getElem_take]
  have hlt : i < p.findIdx (dl S) := by simp at hi; omega
  have := List.not_of_lt_findIdx hlt
  simpa using this
theorem fx_hit {S : Int → Int → Bool} {p : List Op} (h : fx S p < p.length) : dl S (p.getD (fx S p) (0, 0)) = true := by
  rw [getD_lt h]
  exact List.findIdx_getElem
theorem fx_all {S : Int → Int → Bool} {p : List Op} (h : ¬ fx S p < p.length) : kp S p = p := by
  have e : fx S p = p.length := by have : fx S p ≤ p.length := List.findIdx_le_length; omega
  have := kp_fx S p
  rwa [e, List.take_length] at this
/-- In the course of the deletion: the first j operations of p are done, K of them kept. -/
structure Df (w wr : World) (Y : Nat) (p : List Op) (j : Nat) (K : List Op) : Prop where
  ch : Chg (fun b => b = Y ∨ w.heap.size ≤ b) w wr
  lY : Y < w.heap.size
  lt : K.length < j
  jn : j ≤ p.length
  lo : Rw wr Y K
  hi : ∀ t, j * 2 ≤ t → t < p.length * 2 → wr.cell? ⟨Y, t, none⟩ = some (oV p t)
  so : ∀ t, t < p.length * 2 → (wr.cell? ⟨Y, t, none⟩).isSome = true
  fz : ∀ t, wr.frozen? ⟨Y, t, none⟩ = false
section
variable {w wr w' : World} {Y j : Nat} {p K : List Op}
theorem Df.ly (h : Df w wr Y p j K) : Y < wr.heap.size := Nat.lt_of_lt_of_le h.lY h.ch.size
theorem Df.below (h : Df w wr Y p j K) (hb : Below wr.heap.size wr w') : Df w w' Y p j K := by
  have e := hb.block Y h.ly
  have e1 : ∀ t, w'.cell? ⟨Y, t, none⟩ = wr.cell? ⟨Y, t, none⟩ := fun t => blk_cell e t
  exact ⟨h.ch.trans (Chg.of_below hb _), h.lY, h.lt, h.jn, fun t ht => (e1 t).trans (h.lo t ht), fun t h1 h2 => (e1 t).trans (h.hi t h1 h2), fun t ht => by rw [e1]; exact h.so t ht, fun t => (blk_frz e t).trans (h.fz t)⟩
theorem Df.skip (h : Df w wr Y p j K) (hj : j < p.length) : Df w wr Y p (j + 1) K :=
  ⟨h.ch, h.lY, by have := h.lt; omega, hj, h.lo, fun t h1 h2 => h.hi t (by omega) h2, h.so, h.fz⟩
theorem set_some (w : World) (b j : Nat) (v : Value) (x : Addr) (h : (w.cell? x).isSome = true) : ((w.setCell ⟨b, j, none⟩ v).cell? x).isSome = true := by
  by_cases e : (⟨b, j, none⟩ : Addr) = x
  · subst e
    obtain ⟨u, hu⟩ := Option.isSome_iff_exists.1 h
    rw [set_same _ _ _ _ _ hu]
    rfl
  · rw [World.cell?_setCell_other w _ _ _ e]
    exact h
theorem Df.keep (h : Df w wr Y p j K) (hj : j < p.length) (x : Op) : Df w ((wr.setCell ⟨Y, K.length * 2, none⟩ (.int .i64 x.1)).setCell ⟨Y, K.length * 2 + 1, none⟩ (.int .i64 x.2)) Y p (j + 1) (K ++ [x]) := by
  have hlt := h.lt
  have s0 := h.so (K.length * 2) (by omega)
  have s1 := h.so (K.length * 2 + 1) (by omega)
  obtain ⟨u0, hu0⟩ := Option.isSome_iff_exists.1 s0
  obtain ⟨u1, hu1⟩ := Option.isSome_iff_exists.1 s1
  have oth : ∀ t, t ≠ K.length * 2 → t ≠ K.length * 2 + 1 → ((wr.setCell ⟨Y, K.length * 2, none⟩ (.int .i64 x.1)).setCell ⟨Y, K.length * 2 + 1, none⟩ (.int .i64 x.2)).cell? ⟨Y, t, none⟩ = wr.cell? ⟨Y, t, none⟩ := fun t h1 h2 => (set_off _ _ _ _ _ h2).trans (set_off _ _ _ _ _ h1)
  refine ⟨h.ch.trans (((Chg.set wr Y (K.length * 2) (.int .i64 x.1)).trans (Chg.set _ Y (K.length * 2 + 1) (.int .i64 x.2))).mono (fun b _ e => .inl e)), h.lY, by simp; omega, hj, ?_, fun t h1 h2 => by rw [oth t (by omega) (by omega)]; exact h.hi t (by omega) h2, fun t ht => set_some _ _ _ _ _ (set_some _ _ _ _ _ (h.so t ht)), fun t => (set_frz ..).trans ((set_frz ..).trans (h.fz t))⟩
  intro t ht
  simp at ht
  have ap : ∀ k, k < K.length → (K ++ [x]).getD k (0, 0) = K.getD k (0, 0) := fun k hk => by
    rw [List.getD_eq_getElem?_getD, List.getD_eq_getElem?_getD, List.getElem?_append_left hk]
  have ax : (K ++ [x]).getD K.length (0, 0) = x := by simp
  by_cases e1 : t = K.length * 2
  · subst e1
    rw [oV0, ax]
    exact (set_off _ _ _ _ _ (by omega)).trans (set_same _ _ _ _ _ hu0)
  · by_cases e2 : t = K.length * 2 + 1
    · subst e2
      rw [oV1, ax]
      exact set_same _ _ _ _ _ ((set_off _ _ _ _ _ (by omega)).trans hu1)
    · rw [oth t e1 e2, h.lo t (by omega)]
      unfold oV
      rw [ap _ (by omega)]
end
/-- What DeleteFunc gives: the kept operations, in the same block. -/
def DfP (w : World) (Y c : Nat) (K : List Op) (e : Ending) (w' : World) : Prop := e = .returned (.slice (some ⟨Y, 0, none⟩) K.length c) ∧ Chg (fun b => b = Y ∨ w.heap.size ≤ b) w w' ∧ Rw w' Y K ∧ ∀ t, w'.frozen? ⟨Y, t, none⟩ = false
theorem chg_cells (b : Nat) : ∀ (vs : List Value) (o : Nat) (w : World), Chg (fun k => k = b) w (w.setCells b o vs)
  | [], _, w => Chg.refl _ w
  | v :: r, o, w => (Chg.set w b o v).trans (chg_cells b r (o + 1) _)
/-- The end: what lies behind the kept operations is cleared. -/
theorem Df.done {w wr : World} {Y : Nat} {p K : List Op} (h : Df w wr Y p p.length K) (c : Nat) : DfP w Y c K (.returned (.slice (some ⟨Y, 0, none⟩) K.length c)) (wr.setCells Y (K.length * 2) (List.replicate ((p.length - K.length) * 2) (.int .i64 0))) := by
  refine ⟨rfl, h.ch.trans ((chg_cells Y _ _ _).mono (fun b _ e => .inl e)), fun t ht => ?_, fun t => (World.frozen?_setCells Y _ _ _ _).trans (h.fz t)⟩
  rw [World.cell?_setCells_out Y _ _ _ _ (fun _ _ => .inl ht)]
  exact h.lo t ht
theorem Df.start {w w1 : World} {Y : Nat} {S : Int → Int → Bool} {p : List Op} (hb : Below w.heap.size w w1) (hY : Y < w.heap.size) (hr : Rw w Y p) (hf : ∀ t, w.frozen? ⟨Y, t, none⟩ = false) (hx : fx S p < p.length) : Df w w1 Y p (fx S p + 1) (p.take (fx S p)) := by
  have e := hb.block Y hY
  have e1 : ∀ t, t < p.length * 2 → w1.cell? ⟨Y, t, none⟩ = some (oV p t) := fun t ht => (blk_cell e t).trans (hr t ht)
  have hl : (p.take (fx S p)).length = fx S p := by rw [List.length_take]; omega
  refine ⟨Chg.of_below hb _, hY, by omega, by omega, fun t ht => ?_, fun t _ ht => e1 t ht, fun t ht => by rw [e1 t ht]; rfl, fun t => (blk_frz e t).trans (hf t)⟩
  rw [hl] at ht
  rw [e1 t (by omega)]
  have : (p.take (fx S p)).getD (t / 2) (0, 0) = p.getD (t / 2) (0, 0) := by
    rw [getD_lt (by omega), getD_lt (by omega), List.getElem_take]
  unfold oV
  rw [this]
set_option maxRecDepth 20000 in
set_option maxHeartbeats 2000000 in
theorem dlf_any {w : World} {X L M n Y : Nat} {S : Int → Int → Bool} (h : Cx w X L M n S) (p : List Op) (c : Nat) (hc : p.length ≤ c) (hp : p.length ≤ 1000) (hY : Y < w.heap.size) (hr : Rw w Y p) (hO : ∀ x ∈ p, OpOk x) (hf : ∀ t, w.frozen? ⟨Y, t, none⟩ = false) (a1 : Y ≠ X) (a2 : Y ≠ L) (a3 : Y ≠ M) :
    Calls Try.prog 39 #[.slice (some ⟨Y, 0, none⟩) p.length c, .func (.func 40) #[] #[.pointer (some ⟨X, 0, none⟩)]] w (DfP w Y c (kp S p)) := by
  have IX := ix_any h p c hp hY hr hO
  have HX := Lib.hid (And.intro hr hf)
  have HC := Lib.hid (And.intro h (And.intro a1 (And.intro a2 a3)))
  have HO := Lib.hid hO
  clear h hr hf hO a1 a2 a3
  go_enter Try.func39, Try.ntmps39
  go_wp2_with fail
  refine IX.mono ?_
  clear IX
  rintro e w1 ⟨rfl, hb1⟩
  by_cases hx : fx S p < p.length
  · rw [if_pos hx]
    have D0 := Lib.hid (Df.start (S := S) hb1 hY HX.out.1 HX.out.2 hx)
    have KF : Hid (kp S (p.take (fx S p + 1)) = p.take (fx S p)) := by
      have := fx_hit hx
      show _ = _
      rw [kp_succ S p hx, kp_fx, this]
      simp
    have hl : Hid ((p.take (fx S p)).length = fx S p) := by show _ = _; rw [List.length_take]; omega
    obtain ⟨f, hf⟩ : ∃ f, f = fx S p := ⟨_, rfl⟩
    rw [← hf] at D0 KF hx hl
    rw [← hf]
    clear hf hb1
    have hne : ((f : Int) == -1) = false := by simp
    go_wp2_with fail
    go_loopw [5, 6] (fun vi vj wr => ∃ (j : Nat) (K : List Op), vi = .int .i64 K.length ∧ vj = .int .i64 j ∧ Df w wr Y p j K ∧ Hid (kp S (p.take j) = K)) (fun _ vj _ => p.length - (intOf vj).toNat)
    case atStart => exact ⟨f + 1, p.take f, by rw [hl.out], by simp, D0.out, KF⟩
    case round =>
      clear D0 KF
      obtain ⟨j, K, rfl, rfl, hD, hK⟩ := hrel
      have hlt := hD.lt
      have hjn := hD.jn
      by_cases hj : j < p.length
      · have d0 := (hD.hi (j * 2) (Nat.le_refl _) (by omega)).trans (congrArg some (oV0 p j))
        have d1 := (hD.hi (j * 2 + 1) (by omega) (by omega)).trans (congrArg some (oV1 p j))
        have CL := Lib.hid (fun nw (hb : Below wr.heap.size wr nw) => del_any ((HC.out.1.chg hD.ch (fun e => by rcases e with e | e; exact HC.out.2.1 e.symm; have := HC.out.1.lX; omega) (fun e => by rcases e with e | e; exact HC.out.2.2.1 e.symm; have := HC.out.1.lL; omega) (fun e => by rcases e with e | e; exact HC.out.2.2.2 e.symm; have := HC.out.1.mp.lt; omega)).below hb) (p.getD j (0, 0)) (op_at HO.out hj))
        have KS := Lib.hid (kp_succ S p hj)
        generalize hxx : p.getD j (0, 0) = x at d0 d1 CL KS
        obtain ⟨ph, d⟩ := x
        have HD := Lib.hid hD
        have hly := hD.ly
        clear hxx hD
        go_wp2_with fail
        refine (CL.out _ (bal (Below.refl _ _) _)).mono ?_
        rintro e w2 ⟨rfl, hb2⟩
        have HBx := bx2 wr (.int .i64 ph) (.int .i64 d) 30
        have x0 := (hb2.cell (p := ⟨wr.heap.size, 0, none⟩) (by simp)).trans HBx.1
        have x1 := (hb2.cell (p := ⟨wr.heap.size, 1, none⟩) (by simp)).trans HBx.2
        have hbx : Below wr.heap.size wr (wr.alloc (.cells #[.int .i64 ph, .int .i64 d] 30)) := bal (Below.refl _ _) _
        have D2 := HD.out.below (bel2 hbx hb2)
        have lX2 : wr.heap.size < w2.heap.size := by have := hb2.size; simp at this; omega
        clear CL d0 d1 HBx hbx hb2 HD
        cases e1 : dl S (ph, d) with
        | true =>
          have K2 : Hid (kp S (p.take (j + 1)) = K) := by
            show _ = _
            rw [KS.out, e1, hK.out]
            simp
          have D3 := Lib.hid (D2.skip hj)
          clear KS hK D2 x0 x1 e1
          go_wp2
          go_roundw
          case rel => exact ⟨j + 1, K, rfl, by go_num, D3.out, K2⟩
          case measure => simp [intOf]; omega
        | false =>
          have K2 : Hid (kp S (p.take (j + 1)) = K ++ [(ph, d)]) := by
            show _ = _
            rw [KS.out, e1, hK.out]
            simp
          have D3 := Lib.hid (D2.keep hj (ph, d))
          obtain ⟨v0, z0⟩ := Option.isSome_iff_exists.1 (D2.so (K.length * 2) (by omega))
          obtain ⟨v1, z1⟩ := Option.isSome_iff_exists.1 (D2.so (K.length * 2 + 1) (by omega))
          have f0 := D2.fz (K.length * 2)
          have f1 := D2.fz (K.length * 2 + 1)
          have ly2 := D2.ly
          clear KS hK D2 e1
          go_wp2
          go_roundw
          case rel => exact ⟨j + 1, K ++ [(ph, d)], by simp, by go_num, D3.out, K2⟩
          case measure => simp [intOf]; omega
      · obtain rfl : j = p.length := by omega
        have KE : Hid (kp S p = K) := by have := hK.out; rw [List.take_length] at this; exact this
        have F := Lib.hid (hD.done c)
        have CR := run_clear2 wr 0 Y (K.length * 2) (p.length - K.length) (c - K.length) (by omega) (fun t ht => hD.so _ (by omega)) hD.fz
        clear hD hK
        have hq : ¬ (p.length : Int) < (p.length : Int) := by omega
        go_wp2
        go_ret
        rw [KE.out]
        exact F.out
  · rw [if_neg hx]
    have e9 := fx_all hx
    have FIN : Hid (DfP w Y c (kp S p) (.returned (.slice (some ⟨Y, 0, none⟩) p.length c)) w1) := by
      rw [e9]
      have e := hb1.block Y hY
      exact ⟨rfl, Chg.of_below hb1 _, fun t ht => (blk_cell e t).trans (HX.out.1 t ht), fun t => (blk_frz e t).trans (HX.out.2 t)⟩
    clear hx e9 hb1
    go_wp2
    go_ret
    exact FIN.out
end Go.Proofs.Ytcmklipifhpgmaa
