/- Raise. -/
import Derived.Test.YtdmbmjnobncgjaaRbk
import Derived.ArgAppend
import Derived.Deep.Upon
namespace Go.Proofs.Ytdmbmjnobncgjaa
open Go.RowKit

theorem raise_0 (w : World) (L : Nat) : Calls Try.prog 20 #[.pointer (some ⟨L, 0, none⟩), .int .u8 0] w (fun e w' => e = .returned (.int .i64 1) ∧ w = w') := by
  go_enter Try.func20, Try.ntmps20
  go_wp2
  go_ret
  exact ⟨rfl, rfl⟩
theorem raise_full (w : World) (L : Nat) (s : EcS) (q : Int) (h : EcQ w L s) (hq : q ≠ 0) (hf : 16 ≤ s.ql.length) : Calls Try.prog 20 #[.pointer (some ⟨L, 0, none⟩), .int .u8 q] w (fun e w' => e = .returned (.int .i64 8) ∧ w = w') := by
  obtain ⟨A, c, h⟩ := h
  have c1 : w.cell? ⟨L, 264, none⟩ = some (.slice A s.ql.length c) := er_q h.row
  have hl : s.ql.length ≤ 1000000 := h.ql.1
  generalize s.ql.length = n at *
  have hL := h.row.lt
  have hqb := beq_f hq
  have hd : decide (16 ≤ (n : Int)) = true := decide_eq_true (by omega)
  clear h hq
  go_enter Try.func20, Try.ntmps20
  go_wp2
  go_ret
  exact ⟨rfl, rfl⟩
theorem info5 : (Try.prog.info? 5).map (fun i => (i.zero, i.size, i.bytes)) = some (some (.int .u8 0), 1, 1) := by kernel_rfl
/-- What Raise may change: the controller and a queue's block. -/
def RB (L : Nat) (s : EcS) (k : Nat) : Prop := k = L ∨ (L + 1 ≤ k ∧ ¬ s.xq k)
def RP (w : World) (L : Nat) (s : EcS) (q : Int) (e : Ending) (w' : World) : Prop := e = .returned (.int .i64 0) ∧ EcQ w' L { s with ql := s.ql ++ [q] } ∧ Chg (RB L s) w w'
/-- The room behind an append in place. -/
theorem qx_room {B b off n c : Nat} {X : Nat → Prop} {w W : World} {l : List Int} {q : Int} (hX : ∀ k, X k → k < w.heap.size) (hn : l.length = n) (hB : B ≤ b) (hlt : b < w.heap.size) (hx : ¬ X b) (hsz : w.heap.size ≤ W.heap.size) (hb : W.heap[b]? = w.heap[b]?)
    (hc : ∀ i, i < l.length → w.cell? ⟨b, off + i, none⟩ = some (.int .u8 (l.getD i 0))) (hr : ∀ i, i < c → (w.cell? ⟨b, off + i, none⟩).isSome = true ∧ w.frozen? ⟨b, off + i, none⟩ = false) (hnc : n + 1 ≤ c) :
    QX B X (W.setCell ⟨b, off + n, none⟩ (.int .u8 q)) (some ⟨b, off, none⟩) (l ++ [q]) c := by
  have e : ∀ o, W.cell? ⟨b, o, none⟩ = w.cell? ⟨b, o, none⟩ := fun o => World.cell?_of_block hb
  have ef : ∀ o, W.frozen? ⟨b, o, none⟩ = w.frozen? ⟨b, o, none⟩ := fun o => by unfold World.frozen?; simp only [hb]
  obtain ⟨u, hu⟩ := Option.isSome_iff_exists.1 (hr n (by omega)).1
  have same : (W.setCell ⟨b, off + n, none⟩ (.int .u8 q)).cell? ⟨b, off + n, none⟩ = some (.int .u8 q) := World.cell?_setCell_same _ _ _ ((e _).trans hu)
  have other : ∀ i, i ≠ n → (W.setCell ⟨b, off + n, none⟩ (.int .u8 q)).cell? ⟨b, off + i, none⟩ = w.cell? ⟨b, off + i, none⟩ := fun i hi => by
    rw [World.cell?_setCell_other _ _ _ _ (by simp <;> omega), e]
  refine ⟨fun k hk => by have := hX k hk; simp; omega, .inr ⟨b, off, rfl, hB, by simp; omega, hx, fun i hi => ?_, fun i hi => ⟨?_, ?_⟩⟩⟩
  · simp at hi
    by_cases h : i = n
    · subst h
      rw [same, ← hn]
      simp
    · rw [other i h, hc i (by omega)]
      have : i < l.length := by omega
      simp [List.getD_eq_getElem?_getD, List.getElem?_append, this]
  · by_cases h : i = n
    · subst h; rw [same]; rfl
    · rw [other i h]; exact (hr i hi).1
  · rw [World.frozen?_setCell, ef]; exact (hr i hi).2
/-- The queue behind an append to new memory. -/
theorem qx_grow {B n : Nat} {X : Nat → Prop} {w W : World} {l : List Int} {q : Int} {v : Value} (hX : ∀ k, X k → k < w.heap.size) (hB : B ≤ w.heap.size) (hsz : w.heap.size ≤ W.heap.size) (hn : l.length = n)
    (hown : W.ownsRow w.heap.size 5 1 v (n + 1) (l.map (Value.int .u8) ++ [.int .u8 q])) : ∃ A c, v = .slice A (n + 1) c ∧ n + 1 ≤ c ∧ QX B X W A (l ++ [q]) c := by
  rcases hown.2 with ⟨_, h0⟩ | ⟨g, cap, cur, rfl, hg, hb, h1, h2, h3, h4⟩
  · omega
  · refine ⟨_, cap, rfl, h1, fun k hk => by have := hX k hk; omega, .inr ⟨g, 0, rfl, by omega, blk_lt hb, fun x => by have := hX g x; omega, fun i hi => ?_, fun i hi => ⟨?_, ?_⟩⟩⟩
    · simp at hi
      have hl : (l.map (Value.int .u8) ++ [.int .u8 q])[i]? = some (.int .u8 ((l ++ [q]).getD i 0)) := by
        have e : l.map (Value.int .u8) ++ [.int .u8 q] = (l ++ [q]).map (Value.int .u8) := by simp
        rw [e, List.getElem?_map, List.getD_eq_getElem?_getD, List.getElem?_eq_getElem (by simp; omega)]
        rfl
      rw [← h4, List.getElem?_take_of_lt (by omega)] at hl
      simp only [World.cell?, hb]
      simpa using hl
    · have : i < cur.size := by omega
      simp [World.cell?, hb, this]
    · simp [World.frozen?, hb]
theorem rai_fin {w W : World} {L : Nat} {s : EcS} {q : Int} {A0 A : Option Addr} {c0 c n : Nat} (h : Ec w L { s with qa := A0, qc := c0 }) (hn : s.ql.length = n) (hf : n < 16) (hu : U8 q) (hL : W.heap[L]? = w.heap[L]?) (hq : QX (L + 1) s.xq W A (s.ql ++ [q]) c) (hc : n + 1 ≤ c) :
    EcQ (W.setCell ⟨L, 264, none⟩ (.slice A (n + 1) c)) L { s with ql := s.ql ++ [q] } := by
  have hlen : n + 1 = (s.ql ++ [q]).length := by simp [hn]
  have g := g_store W L 264 (.slice A (n + 1) c)
  refine ⟨A, c, ⟨ew_q (h.row.of_block hL) A (s.ql ++ [q]) (n + 1) c hlen, hq.own g, h.dl, h.ck, h.du, h.reg, h.vl, h.ou, h.cd, h.aa, ⟨?_, fun x hx => ?_⟩, ?_⟩⟩
  · show (s.ql ++ [q]).length ≤ 1000000
    omega
  · rcases List.mem_append.1 hx with hx | hx
    · exact h.ql.2 x hx
    · rw [List.mem_singleton.1 hx]; exact hu
  · show (s.ql ++ [q]).length ≤ c
    omega
set_option maxRecDepth 100000 in
set_option maxHeartbeats 2000000 in
theorem raise_room (w : World) (L : Nat) (s : EcS) (q : Int) (b off n c : Nat) (h : Ec w L { s with qa := some ⟨b, off, none⟩, qc := c }) (hq : q ≠ 0) (hu : U8 q) (hn : s.ql.length = n) (hf : n < 16) (hB : L + 1 ≤ b) (hlt : b < w.heap.size) (hx : ¬ s.xq b)
    (hc : ∀ i, i < s.ql.length → w.cell? ⟨b, off + i, none⟩ = some (.int .u8 (s.ql.getD i 0))) (hr : ∀ i, i < c → (w.cell? ⟨b, off + i, none⟩).isSome = true ∧ w.frozen? ⟨b, off + i, none⟩ = false) :
    Calls Try.prog 20 #[.pointer (some ⟨L, 0, none⟩), .int .u8 q] w (RP w L s q) := by
  have c1 : w.cell? ⟨L, 264, none⟩ = some (.slice (some ⟨b, off, none⟩) s.ql.length c) := er_q h.row
  rw [hn] at c1
  have hL := h.row.lt
  have z1 := h.row.frozen 264
  have hqb := beq_f hq
  have hd : decide (16 ≤ (n : Int)) = false := decide_eq_false (by omega)
  obtain ⟨i0, hi, hz, hs, hb⟩ := info_parts info5
  have HI := Lib.hid (And.intro hi (And.intro hz (And.intro hs hb)))
  have H := Lib.hid h
  have HN := Lib.hid hn
  have HC := Lib.hid hc
  have HR := Lib.hid hr
  clear h hq hi hz hs hb hn hc hr
  go_enter Try.func20, Try.ntmps20
  go_wp2_with (at_builtin; refine wpList_append_arg _ rfl (.tmp 17) (.tmp 19) 42 rfl 5 i0 _ 1 1 Try.underlying42 HI.out.1 HI.out.2.1 HI.out.2.2.1 HI.out.2.2.2 rfl (by decide) b off n c (s.ql.map (Value.int .u8)) rfl (by simp [HN.out]) ?c0 ⟨w.heap.size, 0, none⟩ 1 1 [.int .u8 q] rfl rfl ?c1 ?c2 ?c3 ?c4 ?c5 ?c6 ?c7)
  case c0 =>
    intro j u hu
    rw [List.getElem?_map] at hu
    obtain ⟨x, hx, rfl⟩ := Option.map_eq_some_iff.1 hu
    obtain ⟨hj, rfl⟩ := List.getElem?_eq_some_iff.1 hx
    rw [World.cell?_of_block (Below.heap_alloc w _ b hlt), HC.out j hj]
    simp [hj]
  case c1 => intro j u hu; match j, hu with | 0, hu => simp at hu; subst hu; simp [Addr.add, go_sem]
  case c2 => intro u hu; simp at hu; subst hu; rfl
  case c3 =>
    intro hnc j hj
    simp at hj
    subst hj
    have := HR.out n (by omega)
    rw [World.cell?_of_block (Below.heap_alloc w _ b hlt)]
    refine ⟨by simpa using this.1, ?_⟩
    unfold World.frozen? at *
    simp only [Below.heap_alloc w _ b hlt]
    simpa using this.2
  case c4 => unfold maxLen; omega
  case c5 => omega
  case c6 =>
    intro hnc
    generalize hW0 : w.alloc _ = W0
    have hsz : w.heap.size ≤ W0.heap.size := by rw [← hW0]; simp
    have hb0 : W0.heap[b]? = w.heap[b]? := by rw [← hW0]; exact Below.heap_alloc w _ b hlt
    have hC0 : Chg (RB L s) w W0 := by rw [← hW0]; exact Chg.alloc _ _ _
    have hL0 : W0.heap[L]? = w.heap[L]? := by rw [← hW0]; exact Below.heap_alloc w _ L hL
    have hQ := qx_room (B := L + 1) (X := s.xq) (q := q) H.out.q.1 HN.out hB hlt hx hsz hb0 HC.out HR.out hnc
    have hC1 : Chg (RB L s) w (W0.setCell ⟨b, off + n, none⟩ (.int .u8 q)) := hC0.trans ((Chg.set W0 b (off + n) _).mono fun k _ e => .inr (by subst e; exact ⟨hB, hx⟩))
    have hL1 : (W0.setCell ⟨b, off + n, none⟩ (.int .u8 q)).heap[L]? = w.heap[L]? := (heap_setCell_other W0 ⟨b, off + n, none⟩ L _ (by show L ≠ b; omega)).trans hL0
    have FIN := Lib.hid (rai_fin H.out HN.out hf hu hL1 hQ hnc)
    simp only [World.setCells]
    generalize W0.setCell ⟨b, off + n, none⟩ (.int .u8 q) = W1 at *
    have hLt : L < W1.heap.size := Nat.lt_of_lt_of_le hL hC1.size
    have c1' : W1.cell? ⟨L, 264, none⟩ = some (.slice (some ⟨b, off, none⟩) n c) := (World.cell?_of_block hL1).trans c1
    have z1' : W1.frozen? ⟨L, 264, none⟩ = false := by unfold World.frozen? at *; rw [hL1]; exact z1
    have HC1 := Lib.hid hC1
    clear hW0 hsz hb0 hC0 hL0 hQ hC1 hL1 c1 z1
    go_wp2
    go_ret
    exact ⟨rfl, FIN.out, HC1.out.trans ((Chg.set W1 L 264 _).mono fun k _ e => .inl e)⟩
  case c7 =>
    intro hnc v' W1 hown hgr
    generalize hW0 : w.alloc _ = W0 at *
    have hL0 : W0.heap[L]? = w.heap[L]? := by rw [← hW0]; exact Below.heap_alloc w _ L hL
    have hC0 : Chg (RB L s) w W0 := by rw [← hW0]; exact Chg.alloc _ _ _
    have hs0 : W0.heap.size = w.heap.size + 1 := by rw [← hW0]; simp
    rw [← hs0] at hown
    have hC1 : Chg (RB L s) w W1 := hC0.trans ((Chg.of_grown hgr).mono fun k _ e => by cases e)
    have hL1 : W1.heap[L]? = w.heap[L]? := (hgr.block L (by omega) (by simp)).trans hL0
    obtain ⟨A, c', rfl, hc', hQ⟩ := qx_grow (B := L + 1) (X := s.xq) (w := W0) (fun k hk => by have := H.out.q.1 k hk; omega) (by omega) hgr.size HN.out hown
    have FIN := Lib.hid (rai_fin H.out HN.out hf hu hL1 hQ hc')
    have hLt : L < W1.heap.size := Nat.lt_of_lt_of_le hL hC1.size
    have c1' : W1.cell? ⟨L, 264, none⟩ = some (.slice (some ⟨b, off, none⟩) n c) := (World.cell?_of_block hL1).trans c1
    have z1' : W1.frozen? ⟨L, 264, none⟩ = false := by unfold World.frozen? at *; rw [hL1]; exact z1
    have HC1 := Lib.hid hC1
    clear hW0 hL0 hC0 hQ hC1 hL1 c1 z1 hown hgr hs0 hc'
    go_wp2
    go_ret
    exact ⟨rfl, FIN.out, HC1.out.trans ((Chg.set W1 L 264 _).mono fun k _ e => .inl e)⟩
set_option maxRecDepth 100000 in
set_option maxHeartbeats 2000000 in
theorem raise_new (w : World) (L : Nat) (s : EcS) (q : Int) (A0 : Option Addr) (h : Ec w L { s with qa := A0, qc := 0 }) (hq : q ≠ 0) (hu : U8 q) (hn : s.ql.length = 0) :
    Calls Try.prog 20 #[.pointer (some ⟨L, 0, none⟩), .int .u8 q] w (RP w L s q) := by
  have c1 : w.cell? ⟨L, 264, none⟩ = some (.slice A0 s.ql.length 0) := er_q h.row
  rw [hn] at c1
  have hL := h.row.lt
  have z1 := h.row.frozen 264
  have hqb := beq_f hq
  obtain ⟨i0, hi, hz, hs, hb⟩ := info_parts info5
  have HI := Lib.hid (And.intro hi (And.intro hz (And.intro hs hb)))
  have H := Lib.hid h
  have HN := Lib.hid hn
  clear h hq hi hz hs hb hn
  go_enter Try.func20, Try.ntmps20
  go_wp2_with (at_builtin; refine wpList_append_grows _ rfl (.tmp 17) (.tmp 19) 42 rfl 5 i0 _ 1 1 Try.underlying42 HI.out.1 HI.out.2.1 HI.out.2.2.1 HI.out.2.2.2 rfl (by decide) A0 0 0 (s.ql.map (Value.int .u8)) rfl (fun _ => ⟨rfl, rfl⟩) (by simp [HN.out]) ?c0 ⟨w.heap.size, 0, none⟩ 1 1 [.int .u8 q] rfl rfl ?c1 ?c2 (by omega) ?c4 ?c5 ?c7)
  case c0 =>
    intro b _ j u hu
    rw [List.length_eq_zero_iff.1 HN.out] at hu
    cases hu
  case c1 => intro j u hu; match j, hu with | 0, hu => simp at hu; subst hu; simp [Addr.add, go_sem]
  case c2 => intro u hu; simp at hu; subst hu; rfl
  case c4 => unfold maxLen; omega
  case c5 => omega
  case c7 =>
    intro v' W1 hown hgr
    generalize hW0 : w.alloc _ = W0 at *
    have hL0 : W0.heap[L]? = w.heap[L]? := by rw [← hW0]; exact Below.heap_alloc w _ L hL
    have hC0 : Chg (RB L s) w W0 := by rw [← hW0]; exact Chg.alloc _ _ _
    have hs0 : W0.heap.size = w.heap.size + 1 := by rw [← hW0]; simp
    rw [← hs0] at hown
    have hC1 : Chg (RB L s) w W1 := hC0.trans ((Chg.of_grown hgr).mono fun k _ e => by cases e)
    have hL1 : W1.heap[L]? = w.heap[L]? := (hgr.block L (by omega) (by simp)).trans hL0
    obtain ⟨A, c', rfl, hc', hQ⟩ := qx_grow (B := L + 1) (X := s.xq) (w := W0) (fun k hk => by have := H.out.q.1 k hk; omega) (by omega) hgr.size HN.out hown
    have FIN := Lib.hid (rai_fin H.out HN.out (by omega) hu hL1 hQ hc')
    have hLt : L < W1.heap.size := Nat.lt_of_lt_of_le hL hC1.size
    have c1' : W1.cell? ⟨L, 264, none⟩ = some (.slice A0 0 0) := (World.cell?_of_block hL1).trans c1
    have z1' : W1.frozen? ⟨L, 264, none⟩ = false := by unfold World.frozen? at *; rw [hL1]; exact z1
    have HC1 := Lib.hid hC1
    clear hW0 hL0 hC0 hQ hC1 hL1 c1 z1 hown hgr hs0 hc'
    go_wp2
    go_ret
    exact ⟨rfl, FIN.out, HC1.out.trans ((Chg.set W1 L 264 _).mono fun k _ e => .inl e)⟩
theorem raise_any (w : World) (L : Nat) (s : EcS) (q : Int) (h : EcQ w L s) (hq : q ≠ 0) (hu : U8 q) (hf : s.ql.length < 16) :
    Calls Try.prog 20 #[.pointer (some ⟨L, 0, none⟩), .int .u8 q] w (RP w L s q) := by
  obtain ⟨A, c, h⟩ := h
  rcases h.q.2 with ⟨h1, h2⟩ | ⟨b, off, hA, hB, hlt, hx, hc, hr⟩
  · have h1 : s.ql = [] := h1
    have h2 : c = 0 := h2
    subst h2
    exact raise_new w L s q A h hq hu (by rw [h1]; rfl)
  · have hA : A = some ⟨b, off, none⟩ := hA
    subst hA
    exact raise_room w L s q b off s.ql.length c h hq hu rfl hf hB hlt hx hc hr
end Go.Proofs.Ytdmbmjnobncgjaa
