/- A zone: Clone, NewZone and the reference's. -/
import Derived.Test.YtbblachhijpgeaaTrp
namespace Go.Proofs.Ytbblachhijpgeaa
open Go.ChangeShapes Go.WideShapes Go.ChangeAt Go.RowKit Go.Deep Go.Joins

theorem info34 : (Try.prog.info? 48).map (fun i => (i.zero, i.size, i.bytes)) = some (some (.agg #[.int .i64 0, .int .i64 0, .int .i64 0]), 3, 24) := by kernel_rfl
theorem info4 : (Try.prog.info? 4).map (fun i => (i.zero, i.size, i.bytes)) = some (some (.bool false), 1, 1) := by kernel_rfl
theorem sls_news {K : IntKind} {w : World} {b off n : Nat} {f : Nat → St} (hc : Sts K w b off n f) (j : Nat) (u : Value) (hu : (newsL K f n)[j]? = some u) : w.cell? (Addr.add ⟨b, off, none⟩ j) = some u := by
  obtain ⟨hj, rfl⟩ := (newsL_get K f n j u).1 hu
  rw [add_plain]
  obtain ⟨c0, c1, c2⟩ := hc (j / 3) (by omega)
  rcases (show j = j / 3 * 3 ∨ j = j / 3 * 3 + 1 ∨ j = j / 3 * 3 + 2 by omega) with e | e | e
  · rw [show off + j = off + j / 3 * 3 by omega, c0, e, cellOf_0, show j / 3 * 3 / 3 = j / 3 by omega]
  · rw [show off + j = off + j / 3 * 3 + 1 by omega, c1, e, cellOf_1, show (j / 3 * 3 + 1) / 3 = j / 3 by omega]
  · rw [show off + j = off + j / 3 * 3 + 2 by omega, c2, e, cellOf_2, show (j / 3 * 3 + 2) / 3 = j / 3 by omega]
theorem sl_nil (w : World) : (Go.binOp BinOp.eql 49 (.slice none 0 0) (.slice none 0 0)).run Try.prog w = .ok (.bool true) w := by kernel_rfl
theorem sl_ne (A : Addr) (n c : Nat) (w : World) : (Go.binOp BinOp.eql 49 (.slice (some A) n c) (.slice none 0 0)).run Try.prog w = .ok (.bool false) w := by kernel_rfl
theorem sl_ne51 (A : Addr) (n c : Nat) (w : World) : (Go.binOp BinOp.eql 91 (.slice (some A) n c) (.slice none 0 0)).run Try.prog w = .ok (.bool false) w := by kernel_rfl
def CloP (w : World) (n : Nat) (f : Nat → St) (e : Ending) (w' : World) : Prop :=
  ∃ A c, e = .returned (.slice A n c) ∧ SlS .i64 w' A n f ∧ (∀ a, A = some a → w.heap.size ≤ a.block) ∧ (A = none → n = 0 ∧ c = 0) ∧ Below w.heap.size w w'
set_option maxRecDepth 100000 in
set_option maxHeartbeats 2000000 in
theorem clo38 (A : Option Addr) (n c : Nat) (f : Nat → St) (w : World) (h : SlS .i64 w A n f) (hA : A = none → n = 0 ∧ c = 0) (hn : n ≤ 1000) : Calls Try.prog 31 #[.slice A n c] w (CloP w n f) := by
  cases A with
  | none =>
    obtain ⟨rfl, rfl⟩ := hA rfl
    have F : Hid (CloP w 0 f (.returned (.slice none 0 0)) w) := ⟨none, 0, rfl, h, (fun a e => by cases e), (fun _ => ⟨rfl, rfl⟩), Below.refl _ _⟩
    clear h
    have SN := sl_nil w
    go_enter Try.func31, Try.ntmps31
    go_wp2
    go_ret
    exact F.out
  | some T =>
    obtain ⟨i0, hi, hzz⟩ := Option.map_eq_some_iff.1 info34
    simp only [Prod.mk.injEq] at hzz
    obtain ⟨hz, hs, hb⟩ := hzz
    have B2 : Below w.heap.size w (w.alloc (.cells #[] 48)) := (Below.refl _ _).alloc (Nat.le_refl _) _
    have S2 := h.below B2 (Nat.le_refl _)
    have own : (w.alloc (.cells #[] 48)).ownsRow w.heap.size 48 3 (.slice (some ⟨w.heap.size, 0, none⟩) 0 0) 0 [] :=
      ⟨rfl, .inr ⟨w.heap.size, 0, #[], rfl, Nat.le_refl _, heap_alloc_new w _, Nat.le_refl _, by omega, rfl, rfl⟩⟩
    have HW := Lib.hid h.wf
    have SN := sl_ne T n c w
    have NW : Hid (∀ j u, (newsL .i64 f n)[j]? = some u → (w.alloc (.cells #[] 48)).cell? (T.add j) = some u) := fun j u hu => by
      rcases S2.row with h0 | ⟨b, off, hT, _, hc⟩
      · subst h0; simp [newsL] at hu
      · injection hT with hT
        subst hT
        exact sls_news hc j u hu
    clear h
    go_enter Try.func31, Try.ntmps31
    go_wp2_with (at_builtin; refine wpList_append_own _ rfl (.tmp 5) (.tmp 6) 49 rfl w.heap.size 48 i0 _ 3 24 Try.underlying49 hi hz hs hb rfl (by decide) _ 0 [] rfl own T n c (newsL .i64 f n) rfl (newsL_len .i64 f n) NW.out (newsL_one .i64 f n) ?c3 ?c4 ?c5 ?_)
    case c3 => unfold maxLen; omega
    case c4 => omega
    case c5 => exact B2.size
    intro v' w3 hown hgr hiff
    have hown : w3.ownsRow w.heap.size 48 3 v' n (newsL .i64 f n) := by simpa using hown
    obtain ⟨A2, cp, rfl, S4, hcp, hg⟩ := sls_of_own hown (by omega) HW.out
    have B3 : Below w.heap.size w w3 := B2.grown hgr B2.size (fun k hk => by simp [Value.ownBlock] at hk; omega)
    have FIN : Hid (CloP w n f (.returned (.slice A2 n cp)) w3) := by
      refine ⟨A2, cp, rfl, S4, fun a e => ?_, fun e => ?_, B3⟩
      · subst e
        obtain ⟨e, hb, _⟩ := hg a.block rfl
        exact hb
      · subst e
        rcases hown.2 with ⟨e, h0⟩ | ⟨g, cap, cur, e, _⟩
        · injection e with _ _ e
          exact ⟨h0, e⟩
        · cases e
    clear hown hgr hiff S4 hg B3
    go_wp2
    go_ret
    exact FIN.out
def zc (TA : Option Addr) (tc O n : Nat) (lv at_ : Int) (i : Nat) : Value :=
  if i = 0 then .slice TA n tc else if i = 1 then .slice (some ⟨O, 0, none⟩) n n else if i = 2 then .int .i64 lv else .int .i64 at_
/-- A zone at Z: its trip points, which are active (in block O), its levels and its level. -/
structure Zn (t : TypeId) (w : World) (Z O : Nat) (TA : Option Addr) (tc n : Nat) (f : Nat → St) (lv at_ : Int) (on : Nat → Bool) : Prop where
  row : w.rowIs Z t 4 (zc TA tc O n lv at_)
  tr : SlS .i64 w TA n f
  ta : ∀ a, TA = some a → 1 ≤ n → a.block ≠ Z ∧ a.block ≠ O
  orow : w.rowIs O 4 n (fun i => .bool (on i))
  ne : O ≠ Z
theorem SlS.chg {K : IntKind} {S : Nat → Prop} {w w' : World} {A : Option Addr} {n : Nat} {f : Nat → St} (h : SlS K w A n f) (hc : Chg S w w') (hn : ∀ a, A = some a → 1 ≤ n → ¬ S a.block) : SlS K w' A n f := by
  refine ⟨h.len, ?_, h.wf⟩
  rcases h.row with h0 | ⟨b, off, hA, hlt, hcell⟩
  · exact .inl h0
  · rcases Nat.eq_zero_or_pos n with h0 | h0
    · exact .inl h0
    · have hb := hc.block b hlt (hn _ hA h0)
      exact .inr ⟨b, off, hA, Nat.lt_of_lt_of_le hlt hc.size, fun i hi => by
        obtain ⟨c0, c1, c2⟩ := hcell i hi
        exact ⟨(World.cell?_of_block hb).trans c0, (World.cell?_of_block hb).trans c1, (World.cell?_of_block hb).trans c2⟩⟩
theorem Zn.chg {t : TypeId} {S : Nat → Prop} {w w' : World} {Z O : Nat} {TA : Option Addr} {tc n : Nat} {f : Nat → St} {lv at_ : Int} {on : Nat → Bool} (h : Zn t w Z O TA tc n f lv at_ on) (hc : Chg S w w') (h1 : ¬ S Z) (h2 : ¬ S O) (h3 : ∀ a, TA = some a → 1 ≤ n → ¬ S a.block) : Zn t w' Z O TA tc n f lv at_ on :=
  ⟨h.row.of_block (hc.block Z h.row.lt h1), h.tr.chg hc h3, h.ta, h.orow.of_block (hc.block O h.orow.lt h2), h.ne⟩
theorem Zn.below {t : TypeId} {w w' : World} {Z O : Nat} {TA : Option Addr} {tc n : Nat} {f : Nat → St} {lv at_ : Int} {on : Nat → Bool} (h : Zn t w Z O TA tc n f lv at_ on) (hb : Below w.heap.size w w') : Zn t w' Z O TA tc n f lv at_ on :=
  h.chg (Chg.of_below hb (fun _ => False)) (fun x => x) (fun x => x) (fun _ _ _ x => x)
def okZ (n : Nat) (f : Nat → St) (lv : Int) : Bool := vT n f && decide (0 ≤ lv ∧ lv ≤ 64)
/-- What NewZone leaves; B: from which block on the trip points lie. -/
def NzP (t : TypeId) (w : World) (n : Nat) (f : Nat → St) (lv : Int) (e : Ending) (w' : World) : Prop :=
  Below w.heap.size w w' ∧ ((okZ n f lv = false ∧ e = .returned (.tuple #[.pointer none, .int .i64 1])) ∨
    (okZ n f lv = true ∧ ∃ Z O TA tc, e = .returned (.tuple #[.pointer (some ⟨Z, 0, none⟩), .int .i64 0]) ∧ Zn t w' Z O TA tc n f lv 0 (fun _ => false) ∧ w.heap.size ≤ Z ∧ w.heap.size ≤ O ∧ (∀ a, TA = some a → 1 ≤ n → w.heap.size ≤ a.block)))
/-- The reference keeps the list that it was given. -/
def RzP (t : TypeId) (w : World) (n : Nat) (f : Nat → St) (lv : Int) (A : Option Addr) (c : Nat) (e : Ending) (w' : World) : Prop :=
  Below w.heap.size w w' ∧ ((okZ n f lv = false ∧ e = .returned (.tuple #[.pointer none, .int .i64 1])) ∨
    (okZ n f lv = true ∧ ∃ Z O, e = .returned (.tuple #[.pointer (some ⟨Z, 0, none⟩), .int .i64 0]) ∧ Zn t w' Z O A c n f lv 0 (fun _ => false) ∧ w.heap.size ≤ Z ∧ w.heap.size ≤ O))
theorem zn_make {t : TypeId} {w : World} {O : Nat} {TA : Option Addr} {tc n : Nat} {f : Nat → St} {lv : Int} (hT : SlS .i64 w TA n f) (hta : ∀ a, TA = some a → 1 ≤ n → a.block ≠ w.heap.size ∧ a.block ≠ O) (hO : w.rowIs O 4 n (fun _ => .bool false)) :
    Zn t (w.alloc (.cells #[.slice TA n tc, .slice (some ⟨O, 0, none⟩) n n, .int .i64 lv, .int .i64 0] t)) w.heap.size O TA tc n f lv 0 (fun _ => false) := by
  have b : Below w.heap.size w (w.alloc (.cells #[.slice TA n tc, .slice (some ⟨O, 0, none⟩) n n, .int .i64 lv, .int .i64 0] t)) := bal (Below.refl _ _) _
  refine ⟨World.rowIs_alloc w #[.slice TA n tc, .slice (some ⟨O, 0, none⟩) n n, .int .i64 lv, .int .i64 0] t (zc TA tc O n lv 0) fun j hj => ?_, hT.below b (Nat.le_refl _), hta, hO.alloc _, by have := hO.lt; omega⟩
  match j, hj with
  | 0, _ => rfl
  | 1, _ => rfl
  | 2, _ => rfl
  | 3, _ => rfl
end Go.Proofs.Ytbblachhijpgeaa
