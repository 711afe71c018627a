/- The predictors: a list of durations behind a pointer; Record and NewPredictor of both. -/
import Derived.Test.YtfbgkdjjfjlhhaaZsl
import Derived.Test.YtfbgkdjjfjlhhaaSd
import Derived.Maps.AppendAt
import Derived.Lib.OwnBridge
import Derived.Laws.Rows
import Derived.Deep.DeepCutAuto
import Derived.Outline
namespace Go.Proofs.Ytfbgkdjjfjlhhaa
open Go.RowKit

/-- Nothing has changed but in the blocks of S and in new ones. -/
structure Chg (S : Nat → Prop) (w w' : World) : Prop where
  os : w'.os = w.os
  tape : w'.tape = w.tape
  output : w'.output = w.output
  size : w.heap.size ≤ w'.heap.size
  block : ∀ k, k < w.heap.size → ¬ S k → w'.heap[k]? = w.heap[k]?
theorem Chg.refl (S : Nat → Prop) (w : World) : Chg S w w := ⟨rfl, rfl, rfl, Nat.le_refl _, fun _ _ _ => rfl⟩
theorem Chg.trans {S : Nat → Prop} {a b c : World} (h : Chg S a b) (k : Chg S b c) : Chg S a c :=
  ⟨k.os.trans h.os, k.tape.trans h.tape, k.output.trans h.output, Nat.le_trans h.size k.size, fun i hi hn => (k.block i (Nat.lt_of_lt_of_le hi h.size) hn).trans (h.block i hi hn)⟩
theorem Chg.mono {S T : Nat → Prop} {a b : World} (h : Chg S a b) (hs : ∀ k, k < a.heap.size → S k → T k) : Chg T a b :=
  ⟨h.os, h.tape, h.output, h.size, fun i hi hn => h.block i hi (fun x => hn (hs i hi x))⟩
theorem Chg.of_grown {a b : World} {row : Option Nat} (h : a.grownBy b row) : Chg (fun k => row = some k) a b := ⟨h.os, h.tape, h.output, h.size, fun i hi hn => h.block i hi (fun x => hn x.symm)⟩
theorem Chg.alloc (S : Nat → Prop) (w : World) (o : Obj) : Chg S w (w.alloc o) := ⟨rfl, rfl, rfl, by simp, fun i hi _ => Below.heap_alloc w o i hi⟩
theorem Chg.set (w : World) (L j : Nat) (v : Value) : Chg (fun k => k = L) w (w.setCell ⟨L, j, none⟩ v) := ⟨rfl, rfl, rfl, by simp, fun i _ hn => heap_setCell_other w ⟨L, j, none⟩ i v (fun e => hn (by simpa using e))⟩
theorem Chg.trans2 {S T : Nat → Prop} {a b c : World} (h : Chg S a b) (k : Chg T b c) (hs : ∀ i, i < a.heap.size → T i → S i) : Chg S a c :=
  ⟨k.os.trans h.os, k.tape.trans h.tape, k.output.trans h.output, Nat.le_trans h.size k.size, fun i hi hn => (k.block i (Nat.lt_of_lt_of_le hi h.size) (fun x => hn (hs i hi x))).trans (h.block i hi hn)⟩
theorem Below.chg {S : Nat → Prop} {B : Nat} {a b c : World} (h : Below B a b) (k : Chg S b c) (hB : B ≤ b.heap.size) (hs : ∀ k, S k → B ≤ k) : Below B a c :=
  ⟨k.os.trans h.os, k.tape.trans h.tape, k.output.trans h.output, Nat.le_trans h.size k.size, fun i hi => (k.block i (by omega) (fun x => by have := hs i x; omega)).trans (h.block i hi)⟩
theorem Chg.of_below {w w' : World} (h : Below w.heap.size w w') (S : Nat → Prop) : Chg S w w' := ⟨h.os, h.tape, h.output, h.size, fun i hi _ => h.block i hi⟩

/-- The values of durations. -/
def vals (xs : List Int) : List Value := xs.map (Value.int .u64)
/-- A predictor of type t at block L holds the slice v, which reads as the durations xs. -/
def PrV (t : TypeId) (w : World) (B L : Nat) (v : Value) (xs : List Int) : Prop :=
  w.heap[L]? = some (.cells #[v] t (0, 0)) ∧ w.ownsRow B 23 1 v xs.length (vals xs) ∧ v.ownBlock ≠ some L
/-- The same; r: the block of its row. -/
def PrW (t : TypeId) (w : World) (B L : Nat) (r : Option Nat) (xs : List Int) : Prop := ∃ v, PrV t w B L v xs ∧ v.ownBlock = r
theorem PrW.kept {t : TypeId} {w w' : World} {B L : Nat} {r : Option Nat} {xs : List Int} {S : Nat → Prop} (h : PrW t w B L r xs) (hc : Chg S w w') (hL : ¬ S L) (hr : ∀ k, r = some k → ¬ S k) : PrW t w' B L r xs := by
  obtain ⟨v, ⟨h1, h2, h4⟩, h3⟩ := h
  have hlt : L < w.heap.size := (Array.getElem?_eq_some_iff.1 h1).1
  refine ⟨v, ⟨(hc.block L hlt hL).trans h1, ⟨h2.1, ?_⟩, h4⟩, h3⟩
  rcases h2.2 with hn | ⟨g, cap, cur, rfl, hb, hg, rest⟩
  · exact .inl hn
  · have hgl : g < w.heap.size := (Array.getElem?_eq_some_iff.1 hg).1
    exact .inr ⟨g, cap, cur, rfl, hb, (hc.block g hgl (hr g (by rw [← h3]; rfl))).trans hg, rest⟩
theorem PrW.row {t : TypeId} {w : World} {B L : Nat} {r : Option Nat} {xs : List Int} (h : PrW t w B L r xs) : ∀ k, r = some k → B ≤ k ∧ k < w.heap.size := by
  obtain ⟨v, ⟨h1, h2, h4⟩, h3⟩ := h
  intro k hk
  exact h2.lt k (h3.trans hk)
theorem PrW.lt {t : TypeId} {w : World} {B L : Nat} {r : Option Nat} {xs : List Int} (h : PrW t w B L r xs) : L < w.heap.size := by
  obtain ⟨v, ⟨h1, -⟩, -⟩ := h
  exact (Array.getElem?_eq_some_iff.1 h1).1
theorem info23 : (Try.prog.info? 23).map (fun i => (i.zero, i.size, i.bytes)) = some (some (.int .u64 0), 1, 8) := by kernel_rfl
theorem new_a (w : World) : Calls Try.prog 30 #[] w fun e w' => e = .returned (.pointer (some ⟨w.heap.size, 0, none⟩)) ∧ w' = w.alloc (.cells #[.slice none 0 0] 73) := by
  go_enter Try.func30, Try.ntmps30
  go_wp2
  go_ret
  exact ⟨rfl, rfl⟩
theorem new_b (w : World) : Calls Try.prog 31 #[] w fun e w' => e = .returned (.pointer (some ⟨w.heap.size, 0, none⟩)) ∧ w' = w.alloc (.cells #[.slice none 0 0] 75) := by
  go_enter Try.func31, Try.ntmps31
  go_wp2
  go_ret
  exact ⟨rfl, rfl⟩
theorem prw_new (t : TypeId) (w : World) (B : Nat) : PrW t (w.alloc (.cells #[.slice none 0 0] t)) B w.heap.size none [] :=
  ⟨_, ⟨heap_alloc_new w _, ⟨rfl, .inl ⟨rfl, rfl⟩⟩, by simp [Value.ownBlock]⟩, rfl⟩
theorem cell_of_blk {w : World} {L : Nat} {v : Value} {t : TypeId} (h : w.heap[L]? = some (.cells #[v] t (0, 0))) : w.cell? ⟨L, 0, none⟩ = some v := by simp [World.cell?, h]
theorem frz_of_blk {w : World} {L : Nat} {v : Value} {t : TypeId} (h : w.heap[L]? = some (.cells #[v] t (0, 0))) : w.frozen? ⟨L, 0, none⟩ = false := by simp [World.frozen?, h]
theorem set_blk {w : World} {L : Nat} {v : Value} {t : TypeId} (u : Value) (h : w.heap[L]? = some (.cells #[v] t (0, 0))) : (w.setCell ⟨L, 0, none⟩ u).heap[L]? = some (.cells #[u] t (0, 0)) := heap_setCell_same w L 0 _ _ u h

theorem own_form {w : World} {base n t size : Nat} {v : Value} {xs : List Value} (h : w.ownsRow base t size v n xs) (hn : 0 < n) : ∃ g cap, v = .slice (some ⟨g, 0, none⟩) n cap := by
  rcases h.2 with ⟨_, h0⟩ | ⟨g, cap, cur, hv, _⟩
  · omega
  · exact ⟨g, cap, hv⟩
/-- What a call of Record leaves. -/
def RecPost (t : TypeId) (B L : Nat) (r : Option Nat) (ys : List Int) (w : World) (e : Ending) (w' : World) : Prop :=
  e = .returned (.int .i64 0) ∧ ∃ r', (r' = r ∨ ∃ k, r' = some k ∧ w.heap.size ≤ k) ∧ PrW t w' B L r' ys ∧ Chg (fun k => k = L ∨ r = some k) w w'
theorem PrV.set {t : TypeId} {w1 : World} {B L : Nat} {v v' : Value} {ys : List Int} (hb1 : w1.heap[L]? = some (.cells #[v] t (0, 0))) (hown : w1.ownsRow B 23 1 v' ys.length (vals ys)) (hne : v'.ownBlock ≠ some L) : PrV t (w1.setCell ⟨L, 0, none⟩ v') B L v' ys :=
  ⟨set_blk v' hb1, hown.kept (row := some L) ⟨rfl, rfl, rfl, by simp, fun k _ hk => heap_setCell_other w1 ⟨L, 0, none⟩ k v' (fun e => hk (by simp [e]))⟩ (.inr hne), hne⟩
theorem rec_fin {t : TypeId} {w w1 : World} {B L : Nat} {v : Value} {xs : List Int} {x : Int} {v' : Value} (h1 : w.heap[L]? = some (.cells #[v] t (0, 0))) (h4 : v.ownBlock ≠ some L)
    (hown : w1.ownsRow B 23 1 v' (xs.length + 1) (vals xs ++ [.int .u64 x])) (hg : (w.alloc (.cells #[.int .u64 x] 23)).grownBy w1 v.ownBlock) (hat : v'.ownBlock = v.ownBlock ∨ v'.ownBlock = some (w.heap.size + 1)) :
    (v'.ownBlock = v.ownBlock ∨ ∃ k, v'.ownBlock = some k ∧ w.heap.size ≤ k) ∧ PrV t (w1.setCell ⟨L, 0, none⟩ v') B L v' (xs ++ [x]) ∧ Chg (fun k => k = L ∨ v.ownBlock = some k) w (w1.setCell ⟨L, 0, none⟩ v') := by
  have hL : L < w.heap.size := (Array.getElem?_eq_some_iff.1 h1).1
  have hne : v'.ownBlock ≠ some L := by
    rcases hat with e | e
    · rw [e]; exact h4
    · rw [e]; simp; omega
  have hc1 : Chg (fun k => k = L ∨ v.ownBlock = some k) w w1 := (Chg.alloc _ w _).trans ((Chg.of_grown hg).mono fun k _ hk => .inr hk)
  have hb1 : w1.heap[L]? = some (.cells #[v] t (0, 0)) := by
    rw [hg.block L (by simp; omega) (fun e => h4 e.symm), Below.heap_alloc w _ L hL]; exact h1
  refine ⟨?_, PrV.set hb1 ?_ hne, hc1.trans ((Chg.set w1 L 0 v').mono fun k _ hk => .inl hk)⟩
  · rcases hat with e | e
    · exact .inl e
    · exact .inr ⟨_, e, by omega⟩
  · have e : vals (xs ++ [x]) = vals xs ++ [.int .u64 x] := by simp [vals]
    rw [e, show (xs ++ [x]).length = xs.length + 1 by simp]
    exact hown
set_option maxHeartbeats 1000000 in
/-- The reference's Record. -/
theorem rec_b (w : World) (B L : Nat) (r : Option Nat) (xs : List Int) (x : Int) (hx : x ≤ 1152921504606846976) (hn : xs.length ≤ 100) (hbw : B ≤ w.heap.size) (h : PrW 75 w B L r xs) :
    Calls Try.prog 33 #[.pointer (some ⟨L, 0, none⟩), .int .u64 x] w (RecPost 75 B L r (xs ++ [x]) w) := by
  obtain ⟨v, ⟨h1, h2, h4⟩, h3⟩ := h
  subst h3
  have hLw : L < w.heap.size := (Array.getElem?_eq_some_iff.1 h1).1
  have c0 := cell_of_blk h1
  obtain ⟨i0, hi, hzz⟩ := Option.map_eq_some_iff.1 info23
  simp only [Prod.mk.injEq] at hzz
  obtain ⟨hz, hs, hb⟩ := hzz
  have H1 := Lib.hid h1
  have H2 := Lib.hid h2
  have H4 := Lib.hid h4
  clear h1 h2 h4
  go_enter Try.func33, Try.ntmps33
  go_wp2_with (at_builtin; refine wpList_append_own_at _ rfl (.tmp 11) (.tmp 13) 50 rfl B 23 i0 _ 1 8 Try.underlying50 hi hz hs hb rfl (by decide) _ _ (vals xs) rfl (H2.out.alloc _) ⟨w.heap.size, 0, none⟩ 1 1 [.int .u64 x] rfl rfl ?c1 ?c2 ?c3 ?c4 ?c5 ?_)
  case c1 => intro j u hu; match j, hu with | 0, hu => simp at hu; subst hu; simp [Addr.add, go_sem]
  case c2 => intro u hu; simp at hu; subst hu; rfl
  case c3 => unfold maxLen; omega
  case c4 => omega
  case c5 => simp; omega
  intro v' w1 hown hgr _ hat
  have hb1 : w1.heap[L]? = some (.cells #[v] 75 (0, 0)) := by
    rw [hgr.block L (by simp; omega) (fun e => H4.out e.symm), Below.heap_alloc w _ L hLw]; exact H1.out
  have c1 := cell_of_blk hb1
  have z1 := frz_of_blk hb1
  obtain ⟨g, cap, rfl⟩ := own_form hown (by omega)
  have FIN := Lib.hid (rec_fin H1.out H4.out hown hgr hat)
  clear hown hgr hat hb1 c0
  go_wp2
  go_ret
  exact ⟨rfl, _, FIN.out.1, ⟨_, FIN.out.2.1, rfl⟩, FIN.out.2.2⟩
theorem rec_b_bad (w : World) (L : Nat) (x : Int) (hx : 1152921504606846976 < x) : Calls Try.prog 33 #[.pointer (some ⟨L, 0, none⟩), .int .u64 x] w fun e w' => e = .returned (.int .i64 1) ∧ w = w' := by
  go_enter Try.func33, Try.ntmps33
  go_wp2
  go_ret
  exact ⟨rfl, rfl⟩
theorem rec_a_bad (w : World) (L : Nat) (x : Int) (hx : 1152921504606846976 < x) : Calls Try.prog 32 #[.pointer (some ⟨L, 0, none⟩), .int .u64 x] w fun e w' => e = .returned (.int .i64 1) ∧ w = w' := by
  go_enter Try.func32, Try.ntmps32
  go_wp2
  go_ret
  exact ⟨rfl, rfl⟩
theorem oneU : Go.Proofs.OneCell (Value.int .u64) := fun _ => rfl
/-- slices.Delete(s, 0, 1) at a slice of the call's own. -/
theorem del_any (w : World) (B g n cap : Nat) (ys : List Int) (hn : 1 ≤ n) (h : w.ownsRow B 23 1 (.slice (some ⟨g, 0, none⟩) n cap) n (vals ys)) :
    Calls Try.prog 37 #[.slice (some ⟨g, 0, none⟩) n cap, .int .i64 0, .int .i64 1] w fun e w' => e = .returned (.slice (some ⟨g, 0, none⟩) (n - 1) cap) ∧
      w'.ownsRow B 23 1 (.slice (some ⟨g, 0, none⟩) (n - 1) cap) (n - 1) (vals (ys.drop 1)) ∧ Chg (fun k => k = g) w w' := by
  obtain ⟨i0, hi, hzz⟩ := Option.map_eq_some_iff.1 info23
  simp only [Prod.mk.injEq] at hzz
  obtain ⟨hz, hs, hb⟩ := hzz
  obtain ⟨g', cap', e0, -, hg, hnc, hm, hl, hH⟩ := Lib.holds_of_ownsRow (enc := Value.int .u64) h (by simp)
  injection e0 with e1 _ e3
  injection e1 with e1
  injection e1 with e1
  subst e1; subst e3
  have C := AnyE.slices_Delete Try.sdel (Value.int .u64) oneU (0 : Int) (fun w => by kernel_rfl) i0 hi hs g 0 cap 0 1 ys.toArray w hH (by simp; omega) (by unfold maxLen at hm; omega) (by omega) (by simp; omega)
  have hsz : ys.toArray.size = n := by simpa using hl
  rw [hsz] at C
  refine C.mono ?_
  rintro e w' ⟨rfl, q, rfl⟩
  have e2 : (List.take 0 ys.toArray.toList ++ List.drop 1 ys.toArray.toList ++ List.replicate (1 - 0) (0 : Int)).toArray = (ys.drop 1 ++ [0]).toArray := by simp
  rw [e2]
  refine ⟨rfl, ?_, ?_⟩
  · have := Lib.ownsRow_putRow (q := q) (k := n - 1) (ys := ys.drop 1 ++ [0]) h (by simp; omega) (by omega)
    have e3 : (ys.drop 1 ++ [0]).take (n - 1) = ys.drop 1 := by rw [List.take_append_of_le_length (by simp; omega)]; exact List.take_of_length_le (by simp; omega)
    rw [e3] at this
    exact this
  · refine ⟨rfl, rfl, rfl, by simp [Sort.putRow, Sort.mapBlock, Sort.ahead], fun k _ hk => ?_⟩
    simp [Sort.putRow, Sort.mapBlock, Sort.ahead, Array.getElem?_modify, show g ≠ k from fun e => hk e.symm]
/-- The last eight. -/
def last8 (xs : List Int) : List Int := xs.drop (xs.length - 8)
set_option maxHeartbeats 2000000 in
/-- idle's Record. -/
theorem rec_a (w : World) (B L : Nat) (r : Option Nat) (xs : List Int) (x : Int) (hx : x ≤ 1152921504606846976) (hn : xs.length ≤ 8) (hbw : B ≤ w.heap.size) (h : PrW 73 w B L r xs) :
    Calls Try.prog 32 #[.pointer (some ⟨L, 0, none⟩), .int .u64 x] w (RecPost 73 B L r (last8 (xs ++ [x])) w) := by
  obtain ⟨v, ⟨h1, h2, h4⟩, h3⟩ := h
  subst h3
  have hLw : L < w.heap.size := (Array.getElem?_eq_some_iff.1 h1).1
  have c0 := cell_of_blk h1
  obtain ⟨i0, hi, hzz⟩ := Option.map_eq_some_iff.1 info23
  simp only [Prod.mk.injEq] at hzz
  obtain ⟨hz, hs, hb⟩ := hzz
  have H1 := Lib.hid h1
  have H2 := Lib.hid h2
  have H4 := Lib.hid h4
  clear h1 h2 h4
  go_enter Try.func32, Try.ntmps32
  go_wp2_with (at_builtin; refine wpList_append_own_at _ rfl (.tmp 11) (.tmp 13) 50 rfl B 23 i0 _ 1 8 Try.underlying50 hi hz hs hb rfl (by decide) _ _ (vals xs) rfl (H2.out.alloc _) ⟨w.heap.size, 0, none⟩ 1 1 [.int .u64 x] rfl rfl ?c1 ?c2 ?c3 ?c4 ?c5 ?_)
  case c1 => intro j u hu; match j, hu with | 0, hu => simp at hu; subst hu; simp [Addr.add, go_sem]
  case c2 => intro u hu; simp at hu; subst hu; rfl
  case c3 => unfold maxLen; omega
  case c4 => omega
  case c5 => simp; omega
  intro v' w1 hown hgr _ hat
  have hb1 : w1.heap[L]? = some (.cells #[v] 73 (0, 0)) := by
    rw [hgr.block L (by simp; omega) (fun e => H4.out e.symm), Below.heap_alloc w _ L hLw]; exact H1.out
  have c1 := cell_of_blk hb1
  have z1 := frz_of_blk hb1
  obtain ⟨g, cap, rfl⟩ := own_form hown (by omega)
  obtain ⟨hr1, P1, C1⟩ := rec_fin H1.out H4.out hown hgr hat
  clear hown hgr hat hb1 c0
  by_cases h8 : xs.length = 8
  · have E8 : Hid (last8 (xs ++ [x]) = (xs ++ [x]).drop 1) := by show _ = _; simp [last8, h8]
    have hl9 : (xs ++ [x]).length = xs.length + 1 := by simp
    rw [h8] at P1 C1 hr1 ⊢
    rw [h8] at hl9
    have HL9 := Lib.hid hl9
    have HR := Lib.hid hr1
    have CC := Lib.hid C1
    have PP := Lib.hid P1
    clear hr1 C1 P1 hl9
    go_upto_region 4 with fail
    obtain ⟨p1, p2, p3⟩ := PP.out
    have C1 := CC.out
    clear PP CC
    generalize w1.setCell ⟨L, 0, none⟩ (.slice (some ⟨g, 0, none⟩) (8 + 1) cap) = w2 at *
    clear c1 z1
    have c2 := cell_of_blk p1
    rw [HL9.out] at p2
    have D := del_any w2 B g (8 + 1) cap (xs ++ [x]) (by omega) p2
    have P1 := Lib.hid p1
    have C1 := Lib.hid C1
    have P3 := Lib.hid p3
    clear p1 p2 p3
    go_wp2_with fail
    refine D.mono ?_
    rintro e w3 ⟨rfl, o3, k3⟩
    clear D c2
    have hL2 : L < w2.heap.size := (Array.getElem?_eq_some_iff.1 P1.out).1
    have hLg : ¬ L = g := fun e => P3.out (by simp [Value.ownBlock, e])
    have b3 := (k3.block L hL2 hLg).trans P1.out
    have c3 := cell_of_blk b3
    have z3 := frz_of_blk b3
    have FP := PrV.set b3 (v' := .slice (some ⟨g, 0, none⟩) (8 + 1 - 1) cap) (ys := (xs ++ [x]).drop 1) (by rw [List.length_drop, HL9.out]; exact o3) (by simpa [Value.ownBlock] using fun e => hLg e.symm)
    rw [← E8.out] at FP
    have FC : Chg (fun k => k = L ∨ v.ownBlock = some k) w (w3.setCell ⟨L, 0, none⟩ (.slice (some ⟨g, 0, none⟩) (8 + 1 - 1) cap)) := by
      refine Chg.trans (C1.out.trans2 k3 fun k hk hkg => ?_) ((Chg.set w3 L 0 _).mono fun k _ hk => .inl hk)
      subst hkg
      rcases HR.out with e | ⟨k', e, hk'⟩
      · exact .inr e.symm
      · simp [Value.ownBlock] at e; omega
    have FP := Lib.hid FP
    have FC := Lib.hid FC
    clear b3 o3 k3
    go_wp2
    go_ret
    exact ⟨rfl, _, HR.out, ⟨_, FP.out, rfl⟩, FC.out⟩
  · have E8 : Hid (last8 (xs ++ [x]) = xs ++ [x]) := by
      show _ = _
      unfold last8
      rw [show (xs ++ [x]).length - 8 = 0 by simp; omega]
      rfl
    have hlt : xs.length < 8 := by omega
    have HR := Lib.hid hr1
    have CC := Lib.hid C1
    have PP := Lib.hid P1
    clear hr1 C1 P1
    go_wp2
    go_ret
    exact ⟨rfl, _, HR.out, ⟨_, by rw [E8.out]; exact PP.out, rfl⟩, CC.out⟩
end Go.Proofs.Ytfbgkdjjfjlhhaa
