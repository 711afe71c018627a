/- Update on the states. -/
import Derived.Test.YtbblachhijpgeaaNwz
namespace Go.Proofs.Ytbblachhijpgeaa
open Go.RowKit

def updO (T : Int) (f : Nat → St) (on : Nat → Bool) (i : Nat) : Bool := if (f i).b ≤ T then true else if T < (f i).b - (f i).c then false else on i
def mixO (T : Int) (f : Nat → St) (on : Nat → Bool) (k i : Nat) : Bool := if i < k then updO T f on i else on i
def pasK (f : Nat → St) (on : Nat → Bool) (kind : Int) : Nat → Bool
  | 0 => false
  | k + 1 => pasK f on kind k || (on k && (f k).a == kind)
def nxt (p : Bool) (a lv : Int) : Int := if p then min (a + 1) lv else max (a - 1) 0
/-- Valid trip points in bounds, and the levels. -/
structure GT (n : Nat) (f : Nat → St) (lv a : Int) : Prop where
  len : n ≤ 12
  ok : ∀ k, k < n → 1 ≤ (f k).a ∧ (f k).a ≤ 3 ∧ -67108864 ≤ (f k).b ∧ (f k).b ≤ 67108864 ∧ 0 ≤ (f k).c ∧ (f k).c ≤ 16777216
  a0 : 0 ≤ a
  al : a ≤ lv
  l64 : lv ≤ 64
theorem GT.nxt {n : Nat} {f : Nat → St} {lv a : Int} (h : GT n f lv a) (p : Bool) : GT n f lv (nxt p a lv) := by
  obtain ⟨h1, h2, h3, h4, h5⟩ := h
  refine ⟨h1, h2, ?_, ?_, h5⟩
  · unfold Go.Proofs.Ytbblachhijpgeaa.nxt; split <;> omega
  · unfold Go.Proofs.Ytbblachhijpgeaa.nxt; split <;> omega
theorem mixO_0 (T : Int) (f : Nat → St) (on : Nat → Bool) (i : Nat) : mixO T f on 0 i = on i := by unfold mixO; rw [if_neg (by omega)]
theorem pas_congr {f : Nat → St} {o o' : Nat → Bool} {kind : Int} {n : Nat} (h : ∀ i, i < n → o i = o' i) : pasK f o kind n = pasK f o' kind n := by
  induction n with
  | zero => rfl
  | succ n ih =>
    show (pasK f o kind n || (o n && _)) = (pasK f o' kind n || (o' n && _))
    rw [ih (fun i hi => h i (by omega)), h n (by omega)]
def ZO (Z O : Nat) (j : Nat) : Prop := j = Z ∨ j = O
def UpP (t : TypeId) (w : World) (Z O : Nat) (TA : Option Addr) (tc n : Nat) (f : Nat → St) (lv a : Int) (on : Nat → Bool) (T : Int) (e : Ending) (w' : World) : Prop :=
  e = .returned (.tuple #[.int .i64 (nxt (pasK f (updO T f on) 2 n) a lv), .bool (pasK f (updO T f on) 3 n), .int .i64 0]) ∧ Zn t w' Z O TA tc n f lv (nxt (pasK f (updO T f on) 2 n) a lv) (updO T f on) ∧ Chg (ZO Z O) w w'
theorem zc_set (TA : Option Addr) (tc O n : Nat) (lv a x : Int) {w : World} {Z : Nat} {t : TypeId} (h : w.rowIs Z t 4 (zc TA tc O n lv a)) : (w.setCell ⟨Z, 3, none⟩ (.int .i64 x)).rowIs Z t 4 (zc TA tc O n lv x) :=
  (h.set 3 _).congr fun i hi => by
    rcases (show i = 0 ∨ i = 1 ∨ i = 2 ∨ i = 3 by omega) with rfl | rfl | rfl | rfl <;> rfl
/-- The zone in the midst of Update: k trip points are done. -/
structure Zm (t : TypeId) (w0 w : World) (Z O : Nat) (TA : Option Addr) (tc n : Nat) (f : Nat → St) (lv a : Int) (on : Nat → Bool) (T : Int) (k : Nat) : Prop where
  row : w.rowIs Z t 4 (zc TA tc O n lv a)
  tr : SlS .i64 w TA n f
  ta : ∀ x, TA = some x → 1 ≤ n → x.block ≠ Z ∧ x.block ≠ O
  orow : w.rowIs O 4 n (fun i => .bool (mixO T f on k i))
  ne : O ≠ Z
  chg : Chg (ZO Z O) w0 w
theorem zm_start {t : TypeId} {w : World} {Z O : Nat} {TA : Option Addr} {tc n : Nat} {f : Nat → St} {lv a : Int} {on : Nat → Bool} {T : Int} (h : Zn t w Z O TA tc n f lv a on) : Zm t w w Z O TA tc n f lv a on T 0 :=
  ⟨h.row, h.tr, h.ta, h.orow.congr fun i _ => by rw [mixO_0], h.ne, Chg.refl _ _⟩
theorem Zm.below {t : TypeId} {w0 w w' : World} {Z O : Nat} {TA : Option Addr} {tc n : Nat} {f : Nat → St} {lv a : Int} {on : Nat → Bool} {T : Int} {k : Nat} (h : Zm t w0 w Z O TA tc n f lv a on T k) (hb : Below w.heap.size w w') : Zm t w0 w' Z O TA tc n f lv a on T k :=
  ⟨h.row.of_block (hb.block Z h.row.lt), h.tr.below hb (Nat.le_refl _), h.ta, h.orow.of_block (hb.block O h.orow.lt), h.ne, h.chg.trans (Chg.of_below hb _)⟩
theorem Zm.store {t : TypeId} {w0 w : World} {Z O : Nat} {TA : Option Addr} {tc n : Nat} {f : Nat → St} {lv a : Int} {on : Nat → Bool} {T : Int} {k : Nat} (h : Zm t w0 w Z O TA tc n f lv a on T k) (v : Bool) (hv : updO T f on k = v) : Zm t w0 (w.setCell ⟨O, k, none⟩ (.bool v)) Z O TA tc n f lv a on T (k + 1) := by
  have c := Chg.set w O k (.bool v)
  refine ⟨h.row.of_block (c.block Z h.row.lt (fun e => h.ne e.symm)), h.tr.chg c (fun x e hn hx => (h.ta x e hn).2 hx), h.ta, (h.orow.set k _).congr fun i _ => ?_, h.ne, h.chg.trans (c.mono fun j _ e => .inr e)⟩
  by_cases e : i = k
  · subst e; rw [if_pos rfl]; unfold mixO; rw [if_pos (by omega), hv]
  · rw [if_neg e]; unfold mixO
    by_cases h1 : i < k
    · rw [if_pos h1, if_pos (by omega)]
    · rw [if_neg h1, if_neg (by omega)]
theorem Zm.skip {t : TypeId} {w0 w : World} {Z O : Nat} {TA : Option Addr} {tc n : Nat} {f : Nat → St} {lv a : Int} {on : Nat → Bool} {T : Int} {k : Nat} (h : Zm t w0 w Z O TA tc n f lv a on T k) (hv : updO T f on k = on k) : Zm t w0 w Z O TA tc n f lv a on T (k + 1) := by
  refine ⟨h.row, h.tr, h.ta, h.orow.congr fun i _ => ?_, h.ne, h.chg⟩
  unfold mixO
  by_cases h1 : i < k
  · rw [if_pos h1, if_pos (by omega)]
  · rw [if_neg h1]
    by_cases h2 : i < k + 1
    · have : i = k := by omega
      subst this
      rw [if_pos h2, hv]
    · rw [if_neg h2]
theorem zm_end {t : TypeId} {w0 w : World} {Z O : Nat} {TA : Option Addr} {tc n : Nat} {f : Nat → St} {lv a : Int} {on : Nat → Bool} {T : Int} (x : Int) (h : Zm t w0 w Z O TA tc n f lv a on T n) : Zn t (w.setCell ⟨Z, 3, none⟩ (.int .i64 x)) Z O TA tc n f lv x (updO T f on) ∧ Chg (ZO Z O) w0 (w.setCell ⟨Z, 3, none⟩ (.int .i64 x)) := by
  have c := Chg.set w Z 3 (.int .i64 x)
  refine ⟨⟨zc_set _ _ _ _ _ _ _ h.row, h.tr.chg c (fun y e hn hx => (h.ta y e hn).1 hx), h.ta, (h.orow.of_block (c.block O h.orow.lt h.ne)).congr fun i hi => ?_, h.ne⟩, h.chg.trans (c.mono fun j _ e => .inl e)⟩
  unfold mixO
  rw [if_pos hi]
theorem UpP.drew {t : TypeId} {w w' : World} {Z O : Nat} {TA : Option Addr} {tc n : Nat} {f : Nat → St} {lv a : Int} {on : Nat → Bool} {T : Int} {e : Ending} (h : UpP t w Z O TA tc n f lv a on T e w') : UpP t w Z O TA tc n f lv a on T e w'.drew :=
  ⟨h.1, h.2.1.chg ((Chg.refl (fun _ => False) w').drew) (fun x => x) (fun x => x) (fun _ _ _ x => x), h.2.2.drew⟩
theorem upd_bad (Z : Nat) (T : Int) (w : World) (h : T < -134217728 ∨ 134217728 < T) : Calls Try.prog 16 #[.pointer (some ⟨Z, 0, none⟩), .int .i64 T] w (fun e w' => e = .returned (.tuple #[.int .i64 0, .bool false, .int .i64 1]) ∧ w = w') := by
  by_cases h1 : T < -134217728
  · go_enter Try.func16, Try.ntmps16
    go_wp2
    go_ret3
    exact ⟨rfl, rfl⟩
  · have h2 : 134217728 < T := by omega
    go_enter Try.func16, Try.ntmps16
    go_wp2
    go_ret3
    exact ⟨rfl, rfl⟩
set_option maxRecDepth 100000 in
set_option maxHeartbeats 8000000 in
theorem upd_any (Z O : Nat) (TA : Option Addr) (tc n : Nat) (f : Nat → St) (lv a : Int) (on : Nat → Bool) (T : Int) (w : World) (h : Zn 93 w Z O TA tc n f lv a on) (hg : GT n f lv a) (h1 : -134217728 ≤ T) (h2 : T ≤ 134217728) :
    Calls Try.prog 16 #[.pointer (some ⟨Z, 0, none⟩), .int .i64 T] w (UpP 93 w Z O TA tc n f lv a on T) := by
  have START : Hid (Zm 93 w w Z O TA tc n f lv a on T 0) := zm_start h
  have hn := hg.len
  have HG := Lib.hid hg
  have c0 : w.cell? ⟨Z, 0, none⟩ = some (.slice TA n tc) := h.row.cell (show 0 < 4 by omega)
  have hZ := h.row.lt
  clear h hg
  go_enter Try.func16, Try.ntmps16
  go_wp2_with fail
  clear c0 hZ
  go_loopg [22, 7, 8] (n + 1) (fun g vi vp vq wr => ∃ k : Nat, k + g = n + 1 ∧ k ≤ n ∧ vi = .int .i64 k ∧ vp = .bool (pasK f (updO T f on) 2 k) ∧ vq = .bool (pasK f (updO T f on) 3 k) ∧ Zm 93 w wr Z O TA tc n f lv a on T k)
  case atStart => exact ⟨0, by omega, by omega, rfl, rfl, rfl, START.out⟩
  case round =>
    clear START
    obtain ⟨k, hkg, hkn, rfl, rfl, rfl, hZ⟩ := hrel
    by_cases hlt : k < n
    · obtain ⟨g, rfl⟩ : ∃ g, gk = g + 1 := ⟨gk - 1, by omega⟩
      rcases hZ.tr.row with h0 | ⟨b, off, rfl, hb, hc⟩
      · omega
      obtain ⟨c0, c1, c2⟩ := hc k hlt
      obtain ⟨k1, k2, k3, k4, k5, k6⟩ := HG.out.ok k hlt
      have PN2 : Hid (pasK f (updO T f on) 2 (k + 1) = (pasK f (updO T f on) 2 k || (updO T f on k && (f k).a == 2))) := rfl
      have PN3 : Hid (pasK f (updO T f on) 3 (k + 1) = (pasK f (updO T f on) 3 k || (updO T f on k && (f k).a == 3))) := rfl
      have UE : Hid (updO T f on k = if (f k).b ≤ T then true else if T < (f k).b - (f k).c then false else on k) := rfl
      have M1 : Hid (∀ W, Below wr.heap.size wr W → Zm 93 w W Z O (some ⟨b, off, none⟩) tc n f lv a on T k) := fun W hW => hZ.below hW
      have STR : Hid (∀ W, Zm 93 w W Z O (some ⟨b, off, none⟩) tc n f lv a on T k → Zm 93 w (W.setCell ⟨O, k, none⟩ (.bool (updO T f on k))) Z O (some ⟨b, off, none⟩) tc n f lv a on T (k + 1)) := fun W h => h.store _ rfl
      have SKP : Hid (∀ W, Zm 93 w W Z O (some ⟨b, off, none⟩) tc n f lv a on T k → updO T f on k = on k → Zm 93 w W Z O (some ⟨b, off, none⟩) tc n f lv a on T (k + 1)) := fun W h e => h.skip e
      have FACT : Hid (∀ W, Zm 93 w W Z O (some ⟨b, off, none⟩) tc n f lv a on T (k + 1) → W.cell? ⟨Z, 1, none⟩ = some (.slice (some ⟨O, 0, none⟩) n n) ∧ W.cell? ⟨O, k, none⟩ = some (.bool (updO T f on k)) ∧ Z < W.heap.size ∧ O < W.heap.size) := fun W h => ⟨h.row.cell (show 1 < 4 by omega), by
        have := h.orow.cell hlt
        have e : mixO T f on (k + 1) k = updO T f on k := by unfold mixO; rw [if_pos (by omega)]
        rw [e] at this
        exact this, h.row.lt, h.orow.lt⟩
      have hOc := hZ.orow.cell hlt
      have hmk : mixO T f on k k = on k := by unfold mixO; rw [if_neg (by omega)]
      rw [hmk] at hOc
      have hOl := hZ.orow.lt
      have hOf := hZ.orow.frozen k
      have z1 : wr.cell? ⟨Z, 1, none⟩ = some (.slice (some ⟨O, 0, none⟩) n n) := hZ.row.cell (show 1 < 4 by omega)
      have hZl := hZ.row.lt
      clear hc hmk hZ
      generalize pasK f (updO T f on) 2 k = p at *
      generalize pasK f (updO T f on) 3 k = q at *
      generalize updO T f on k = v at *
      generalize hon : on k = onk at *
      clear hon
      generalize f k = s at *
      obtain ⟨x, y, z⟩ := s
      simp only at c0 c1 c2 k1 k2 k3 k4 k5 k6 UE PN2 PN3
      have b0 : Below wr.heap.size wr (wr.alloc (Obj.cells #[.int .i64 x, .int .i64 y, .int .i64 z] 48)) := bal (Below.refl _ _) _
      have M2 := Lib.hid (M1.out _ b0)
      obtain ⟨e0, e1, e2⟩ := box3 .i64 48 wr x y z
      have hLO : wr.heap.size ≠ O := by omega
      have hOc1 := (b0.cell (p := ⟨O, k, none⟩) hOl).trans hOc
      have hOf1 := (b0.frozen (p := ⟨O, k, none⟩) hOl).trans hOf
      have z11 := (b0.cell (p := ⟨Z, 1, none⟩) hZl).trans z1
      have hOl1 := Nat.lt_of_lt_of_le hOl b0.size
      have hZl1 := Nat.lt_of_lt_of_le hZl b0.size
      go_upto_region 7 with fail
      clear c0 c1 c2 hOc hOf z1 hOl hZl b0 hb
      generalize wr.heap.size = L9 at *
      generalize wr.alloc (Obj.cells #[.int .i64 x, .int .i64 y, .int .i64 z] 48) = W1 at *
      have ne9 : Hid (∀ o, (⟨O, k, none⟩ : Addr) ≠ ⟨L9, o, none⟩) := fun o e => by injection e with e _; exact hLO e.symm
      by_cases t1 : y ≤ T
      · have hv : v = true := by rw [UE.out, if_pos t1]
        subst hv
        have HM := STR.out _ M2.out
        have x0 := (World.cell?_setCell_other W1 _ _ (.bool true) (ne9.out 0)).trans e0
        go_upto_region 11 with fail
        generalize W1.setCell ⟨O, k, none⟩ (.bool true) = W2 at *
        clear e0 e1 e2 hOc1 hOf1 z11 hOl1 hZl1 M2 UE
        have HM := Lib.hid HM
        obtain ⟨z1', oc', hZl', hOl'⟩ := FACT.out W2 HM.out
        clear FACT STR SKP M1
        cases p <;> cases q
        all_goals
          go_wp2
          go_roundg g
          case measure => omega
          case rel => exact ⟨k + 1, by omega, by omega, rfl, by rw [PN2.out]; rfl, by rw [PN3.out]; rfl, HM.out⟩
      by_cases t2 : T < y - z
      · have hv : v = false := by rw [UE.out, if_neg t1, if_pos t2]
        subst hv
        have HM := STR.out _ M2.out
        have x0 := (World.cell?_setCell_other W1 _ _ (.bool false) (ne9.out 0)).trans e0
        go_upto_region 11 with fail
        generalize W1.setCell ⟨O, k, none⟩ (.bool false) = W2 at *
        clear e0 e1 e2 hOc1 hOf1 z11 hOl1 hZl1 M2 UE
        have HM := Lib.hid HM
        obtain ⟨z1', oc', hZl', hOl'⟩ := FACT.out W2 HM.out
        clear FACT STR SKP M1
        cases p <;> cases q
        all_goals
          go_wp2
          go_roundg g
          case measure => omega
          case rel => exact ⟨k + 1, by omega, by omega, rfl, by rw [PN2.out]; rfl, by rw [PN3.out]; rfl, HM.out⟩
      · have hv : v = onk := by rw [UE.out, if_neg t1, if_neg t2]
        have HM := SKP.out _ M2.out hv
        clear hOc1
        have x0 := e0
        go_upto_region 11 with fail
        generalize W1 = W2 at *
        clear e0 e1 e2 hOf1 z11 hOl1 hZl1 M2 UE hv
        have HM := Lib.hid HM
        obtain ⟨z1', oc', hZl', hOl'⟩ := FACT.out W2 HM.out
        clear FACT STR SKP M1
        cases p <;> cases v <;> cases q
        all_goals
          go_wp2
          go_roundg g
          case measure => omega
          case rel => exact ⟨k + 1, by omega, by omega, rfl, by rw [PN2.out]; rfl, by rw [PN3.out]; rfl, HM.out⟩
    · have hkn2 : k = n := by omega
      have zl := hZ.row.lt
      have z2 : wr.cell? ⟨Z, 2, none⟩ = some (.int .i64 lv) := hZ.row.cell (show 2 < 4 by omega)
      have z3 : wr.cell? ⟨Z, 3, none⟩ = some (.int .i64 a) := hZ.row.cell (show 3 < 4 by omega)
      have zf := hZ.row.frozen 3
      have g1 := HG.out.a0
      have g2 := HG.out.al
      have g3 := HG.out.l64
      have FIN : Hid (∀ x, x = nxt (pasK f (updO T f on) 2 k) a lv → UpP 93 w Z O TA tc n f lv a on T (.returned (.tuple #[.int .i64 x, .bool (pasK f (updO T f on) 3 k), .int .i64 0])) (wr.setCell ⟨Z, 3, none⟩ (.int .i64 x))) := by
        rw [hkn2] at hZ ⊢
        intro x hx
        obtain ⟨q1, q2⟩ := zm_end x hZ
        subst hx
        exact ⟨rfl, q1, q2⟩
      clear hZ hkn2
      generalize pasK f (updO T f on) 2 k = p at *
      generalize pasK f (updO T f on) 3 k = q at *
      cases p
      · by_cases q1 : a - 1 < 0
        · have F := Lib.hid (FIN.out 0 (by show (0 : Int) = max (a - 1) 0; omega))
          clear FIN
          go_wp2
          go_ret3
          exact F.out
        · have F := Lib.hid (FIN.out (a - 1) (by show a - 1 = max (a - 1) 0; omega))
          clear FIN
          go_wp2
          go_ret3
          exact F.out
      · by_cases q1 : lv < a + 1
        · have F := Lib.hid (FIN.out lv (by show lv = min (a + 1) lv; omega))
          clear FIN
          go_wp2_with fail
          have hwr : IntKind.i64.wrap (a + 1) = a + 1 := IntWalk.i64_in _ (by omega)
          go_still_tail 12, (by kernel_rfl)
          clear hwr
          go_wp2
          go_ret3
          exact F.out.drew
        · have F := Lib.hid (FIN.out (a + 1) (by show a + 1 = min (a + 1) lv; omega))
          clear FIN
          go_wp2_with fail
          have hwr : IntKind.i64.wrap (a + 1) = a + 1 := IntWalk.i64_in _ (by omega)
          go_still_tail 12, (by kernel_rfl)
          clear hwr
          go_wp2
          go_ret3
          exact F.out.drew
end Go.Proofs.Ytbblachhijpgeaa
