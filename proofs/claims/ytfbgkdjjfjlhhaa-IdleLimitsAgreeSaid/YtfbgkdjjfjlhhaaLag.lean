/- The law that the set of requests answers as the reference's does: its walk. -/
import Derived.Test.YtfbgkdjjfjlhhaaRlm
import Derived.Test.YtfbgkdjjfjlhhaaOpen
import Derived.Deep.AppendLies
namespace Go.Proofs.Ytfbgkdjjfjlhhaa
open Go.RowKit Go.ChangeShapes Go.WideShapes

/-- A call of the sequence. -/
structure Rq where
  c : Int
  l : Int
  rm : Bool
  raw : Bool
structure Rqs (w : World) (A : Option Addr) (n : Nat) (f : Nat → Rq) : Prop where
  len : n ≤ 9223372036854775807
  row : n = 0 ∨ ∃ b off, A = some ⟨b, off, none⟩ ∧ b < w.heap.size ∧ ∀ i, i < n → w.cell? ⟨b, off + i * 4, none⟩ = some (.int .i64 (f i).c) ∧ w.cell? ⟨b, off + i * 4 + 1, none⟩ = some (.int .u64 (f i).l) ∧
    w.cell? ⟨b, off + i * 4 + 2, none⟩ = some (.bool (f i).rm) ∧ w.cell? ⟨b, off + i * 4 + 3, none⟩ = some (.bool (f i).raw)
theorem open_rqs {H : Type} {enc : TypeId × Value → H} {w : World} {a : Option Addr} {len cap : Nat} {d : DataW H} {p : List MemPlace}
    (h : DataW.Trod enc Try.prog w 0 (fun _ => true) true 39 (.slice a len cap) d p) : ∃ f, Rqs w a len f := by
  obtain ⟨fuel, hf⟩ := h
  rcases open_slice_fields Try.underlying39 Try.underlying45 (by kernel_rfl) (by kernel_rfl) hf with ⟨hcs, _⟩ | ⟨x, l, c, m, D, Pl, hcs, _, hl, hm, hmm, _, hi⟩
  · simp [Value.cells] at hcs
    obtain ⟨rfl, rfl, rfl⟩ := hcs
    exact ⟨fun _ => ⟨0, 0, false, false⟩, by omega, .inl rfl⟩
  · simp [Value.cells] at hcs
    obtain ⟨rfl, rfl, rfl⟩ := hcs
    have hmm : m = cap := by simpa using hmm
    subst hmm
    have K : ∀ i, ∃ s : Rq, i < len → w.cell? (x.add (i * 4 + 0)) = some (.int .i64 s.c) ∧ w.cell? (x.add (i * 4 + 1)) = some (.int .u64 s.l) ∧ w.cell? (x.add (i * 4 + 2)) = some (.bool s.rm) ∧ w.cell? (x.add (i * 4 + 3)) = some (.bool s.raw) := by
      intro i
      by_cases hil : i < len
      · obtain ⟨ys, n, _, _, _, hf⟩ := hi i (by omega)
        obtain ⟨v0, y0, c0, _, t0⟩ := hf 0 _ rfl
        obtain ⟨v1, y1, c1, _, t1⟩ := hf 1 _ rfl
        obtain ⟨v2, y2, c2, _, t2⟩ := hf 2 _ rfl
        obtain ⟨v3, y3, c3, _, t3⟩ := hf 3 _ rfl
        obtain ⟨l0, e0, _, _⟩ := DataW.trod_int Try.underlying3 t0
        obtain ⟨l1, e1, _, _⟩ := DataW.trod_int Try.underlying23 t1
        obtain ⟨l2, e2, _⟩ := DataW.trod_bool Try.underlying4 t2
        obtain ⟨l3, e3, _⟩ := DataW.trod_bool Try.underlying4 t3
        simp at e0 e1 e2 e3
        subst e0 e1 e2 e3
        exact ⟨⟨l0, l1, l2, l3⟩, fun _ => ⟨c0, c1, c2, c3⟩⟩
      · exact ⟨⟨0, 0, false, false⟩, fun h => absurd h hil⟩
    obtain ⟨g, hg⟩ := Classical.axiomOfChoice K
    refine ⟨g, by unfold maxLen at hm; omega, ?_⟩
    rcases Nat.eq_zero_or_pos len with h0 | h0
    · exact .inl h0
    · obtain ⟨b, off, spot⟩ := x
      have hspot : spot = none := by simpa [Addr.add] using World.cell?_spot (hg 0 h0).1
      subst hspot
      refine .inr ⟨b, off, rfl, ?_, fun i hil => ?_⟩
      · have := cell_lt (hg 0 h0).1
        simpa [Addr.add] using this
      · obtain ⟨c0, c1, c2, c3⟩ := hg i hil
        rw [add_plain, ← Nat.add_assoc] at c0 c1 c2 c3
        exact ⟨c0, c1, c2, c3⟩

def Jn (U : Nat → Bool) (V V' : Nat → Int) : Prop := ∀ j, U j = true → V j = V' j
theorem Jn.lim {U : Nat → Bool} {V V' : Nat → Int} (h : Jn U V V') : limV U V' = limV U V := by
  unfold limV
  rw [limTo_congr (U := U) (U' := U) (V := V) (V' := V') 32 fun j _ => ⟨rfl, h j⟩]
def nU (U : Nat → Bool) (c : Int) : Nat → Bool := if inR c then updF U c.toNat true else U
def nV (V : Nat → Int) (c v : Int) : Nat → Int := if inR c then updF V c.toNat v else V
def mU (U : Nat → Bool) (c : Int) : Nat → Bool := if remB U c then updF U c.toNat false else U
def mV (U : Nat → Bool) (V : Nat → Int) (c : Int) : Nat → Int := if remB U c then updF V c.toNat 0 else V
def setR (c : Int) : Int := if inR c then 0 else 1
def remR (U : Nat → Bool) (c : Int) : Int := if inR c then (if U c.toNat then 0 else 6) else 1
theorem Jn.set_ {U : Nat → Bool} {V V' : Nat → Int} (h : Jn U V V') (c v : Int) : Jn (nU U c) (nV V c v) (nV V' c v) := by
  unfold nU nV
  by_cases hc : inR c = true
  · rw [if_pos hc, if_pos hc, if_pos hc]
    intro j hj
    unfold updF at *
    by_cases e : j = c.toNat
    · simp [e]
    · rw [if_neg e] at hj ⊢
      rw [if_neg e]
      exact h j hj
  · rw [if_neg hc, if_neg hc, if_neg hc]; exact h
theorem Jn.rem_ {U : Nat → Bool} {V V' : Nat → Int} (h : Jn U V V') (c : Int) : Jn (mU U c) (mV U V c) V' := by
  unfold mU mV
  by_cases hc : remB U c = true
  · rw [if_pos hc, if_pos hc]
    intro j hj
    unfold updF at *
    by_cases e : j = c.toNat
    · rw [if_pos e] at hj; cases hj
    · rw [if_neg e] at hj ⊢
      exact h j hj
  · rw [if_neg hc, if_neg hc]; exact h
def Pst (w : World) (b t : Nat) (x : Int) (φ : Nat → Value) (e : Ending) (w' : World) : Prop := e = .returned (.int .i64 x) ∧ w'.rowIs b t 64 φ ∧ w.grownBy w' (some b)
theorem set_ev (b : Nat) (U : Nat → Bool) (V : Nat → Int) (c v : Int) (w : World) (h : w.rowIs b 66 64 (lcell U V)) :
    Calls Try.prog 26 #[.pointer (some ⟨b, 0, none⟩), .int .i64 c, .int .u64 v] w (Pst w b 66 (setR c) (lcell (nU U c) (nV V c v))) := set_any b U V c v w h
theorem rset_ev (b : Nat) (U : Nat → Bool) (V : Nat → Int) (c v : Int) (w : World) (h : w.rowIs b 70 64 (rcell U V)) :
    Calls Try.prog 27 #[.pointer (some ⟨b, 0, none⟩), .int .i64 c, .int .u64 v] w (Pst w b 70 (setR c) (rcell (nU U c) (nV V c v))) := rset_any b U V c v w h
theorem rem_ev (b : Nat) (U : Nat → Bool) (V : Nat → Int) (c : Int) (w : World) (h : w.rowIs b 66 64 (lcell U V)) :
    Calls Try.prog 24 #[.pointer (some ⟨b, 0, none⟩), .int .i64 c] w (Pst w b 66 (remR U c) (lcell (mU U c) (mV U V c))) := rem_any b U V c w h
theorem rrem_ev (b : Nat) (U : Nat → Bool) (V : Nat → Int) (c : Int) (w : World) (h : w.rowIs b 70 64 (rcell U V)) :
    Calls Try.prog 25 #[.pointer (some ⟨b, 0, none⟩), .int .i64 c] w (Pst w b 70 (remR U c) (rcell (mU U c) V)) := rrem_any b U V c w h
theorem rlim_ev (b : Nat) (U : Nat → Bool) (V V' : Nat → Int) (w : World) (h : w.rowIs b 70 64 (rcell U V')) (hj : Jn U V V') :
    Calls Try.prog 29 #[.pointer (some ⟨b, 0, none⟩)] w fun e w' => e = .returned (.int .u64 (limV U V)) ∧ w = w' :=
  (rlim_any b U V' w h).mono fun e w' ⟨he, hw⟩ => ⟨by rw [he, hj.lim], hw⟩
theorem mod5 (v : Int) (w : World) : Calls Try.prog 15 #[.int .i64 v, .int .i64 5] w fun e w' => e = .returned (.int .i64 (modOf v 5 : Nat)) ∧ w = w' := mod_any v 5 (by omega) (by omega) w
theorem box4 (w : World) (x y : Int) (r s : Bool) :
    (w.alloc (Obj.cells #[.int .i64 x, .int .u64 y, .bool r, .bool s] 45)).cell? ⟨w.heap.size, 0, none⟩ = some (.int .i64 x) ∧
    (w.alloc (Obj.cells #[.int .i64 x, .int .u64 y, .bool r, .bool s] 45)).cell? ⟨w.heap.size, 1, none⟩ = some (.int .u64 y) ∧
    (w.alloc (Obj.cells #[.int .i64 x, .int .u64 y, .bool r, .bool s] 45)).cell? ⟨w.heap.size, 2, none⟩ = some (.bool r) ∧
    (w.alloc (Obj.cells #[.int .i64 x, .int .u64 y, .bool r, .bool s] 45)).cell? ⟨w.heap.size, 3, none⟩ = some (.bool s) := by
  refine ⟨?_, ?_, ?_, ?_⟩ <;> simp [go_sem]

set_option maxRecDepth 100000 in
set_option maxHeartbeats 4000000 in
theorem lag_pos (b off n c : Nat) (f : Nat → Rq) (w : World) (h0 : 1 ≤ n) (h60 : n ≤ 60) (hb : b < w.heap.size)
    (hc : ∀ i, i < n → w.cell? ⟨b, off + i * 4, none⟩ = some (.int .i64 (f i).c) ∧ w.cell? ⟨b, off + i * 4 + 1, none⟩ = some (.int .u64 (f i).l) ∧
      w.cell? ⟨b, off + i * 4 + 2, none⟩ = some (.bool (f i).rm) ∧ w.cell? ⟨b, off + i * 4 + 3, none⟩ = some (.bool (f i).raw)) :
    Calls Try.prog 8 #[.slice (some ⟨b, off, none⟩) n c] w (LawPost w) := by
  have HC := Lib.hid hc; clear hc
  go_enter Try.func8, Try.ntmps8
  go_wp2_with fail
  refine (new_any w).mono ?_
  rintro e w1 ⟨rfl, RA, hb1⟩
  have hpw0 : w.heap.size < w1.heap.size := RA.lt
  go_wp2_with fail
  refine (rnew_any w1).mono ?_
  rintro e w2 ⟨rfl, RB, hb2⟩
  have RA := row_below RA hb2 (Nat.le_refl _)
  have B2 := bel2 hb1 hb2
  clear hb1 hb2
  have hpw : w.heap.size ≤ w.heap.size := Nat.le_refl _
  have hqw : w.heap.size ≤ w1.heap.size := by omega
  have hbp : b < w.heap.size := hb
  obtain ⟨p, hp⟩ : ∃ p, p = w.heap.size := ⟨_, rfl⟩
  rw [← hp] at RA hpw0
  have hpw : w.heap.size ≤ p := by omega
  have hbp : b < p := by omega
  rw [← hp]
  have HP := Lib.hid hp; clear hp
  generalize w1.heap.size = q at *
  have hpq : p < q := hpw0
  go_wp2_with fail
  go_loopw [5] (fun i wr => ∃ (k : Nat) (U : Nat → Bool) (V V' : Nat → Int), k ≤ n ∧ i = .int .i64 k ∧ wr.rowIs p 66 64 (lcell U V) ∧ wr.rowIs q 70 64 (rcell U V') ∧ Jn U V V' ∧ Below w.heap.size w wr) (fun i _ => n - (intOf i).toNat)
  case atStart => exact ⟨0, U0, V0, V0, Nat.zero_le _, rfl, RA, RB, fun _ _ => rfl, B2⟩
  case round =>
    clear RA RB B2
    obtain ⟨k, U, V, V', hk, rfl, RA, RB, J, B⟩ := hrel
    have J := Lib.hid J
    have hqx0 : q < wr.heap.size := RB.lt
    by_cases hlt : k < n
    · obtain ⟨c0, c1, c2, c3⟩ := HC.out k hlt
      rw [← B.cell hb] at c0 c1 c2 c3
      generalize f k = r at *
      obtain ⟨cl, l, rm, raw⟩ := r
      simp only at c0 c1 c2 c3
      obtain ⟨b0, b1, b2, b3⟩ := box4 wr cl l rm raw
      have RA := RA.alloc (Obj.cells #[.int .i64 cl, .int .u64 l, .bool rm, .bool raw] 45)
      have RB := RB.alloc (Obj.cells #[.int .i64 cl, .int .u64 l, .bool rm, .bool raw] 45)
      have BW := B.alloc B.size (Obj.cells #[.int .i64 cl, .int .u64 l, .bool rm, .bool raw] 45)
      have hbx : wr.heap.size < (wr.alloc (Obj.cells #[.int .i64 cl, .int .u64 l, .bool rm, .bool raw] 45)).heap.size := by simp
      have hqx : q < wr.heap.size := hqx0
      clear B
      go_wp2_with fail
      refine (mod5 cl _).mono ?_
      rintro e W' ⟨rfl, rfl⟩
      generalize modOf cl 5 = md at *
      generalize hW : wr.alloc (Obj.cells #[.int .i64 cl, .int .u64 l, .bool rm, .bool raw] 45) = W at *
      generalize hx : wr.heap.size = bx at *
      clear hW hx c0 c1 c2 c3
      cases raw <;> cases rm
      · go_wp2_with fail
        have RAd := RA.drew
        have RBd := RB.drew
        have hqd : q < W.drew.heap.size := RBd.lt
        have hqp : some q ≠ some p := fun x => by injection x with x; omega
        have hpq2 : some p ≠ some q := fun x => by injection x with x; omega
        have hbd : bx < W.drew.heap.size := hbx
        have hbp : some bx ≠ some p := fun x => by injection x with x; omega
        have b1d : W.drew.cell? ⟨bx, 1, none⟩ = some (.int .u64 l) := b1
        have HS := Lib.hid (And.intro hqd (And.intro hqp (And.intro hpq2 (And.intro hbd (And.intro hbp b1d)))))
        clear hqd hqp hpq2 hbd hbp b1d
        go_region_with (first | (go_at_call 26; refine (set_ev p U V (md : Int) l _ RAd).mono ?_; rintro e x1 ⟨rfl, RA1, hg1⟩; have RB1 := RBd.of_block (hg1.block q HS.out.1 HS.out.2.1); have c1 := (hg1.cell_far ⟨bx, 1, none⟩ HS.out.2.2.2.1 HS.out.2.2.2.2.1).trans HS.out.2.2.2.2.2) | (go_at_call 27; refine (rset_ev q U V' (md : Int) l _ RB1).mono ?_; rintro e x2 ⟨rfl, RB2, hg2⟩; have RA2 := RA1.of_block (hg2.block p RA1.lt HS.out.2.2.1)))
        all_goals
          have B2 := bel_only (bel_only BW.drew hg1 hpw) hg2 hqw
          clear RA RB BW hg1 hg2 RAd RBd HS RB1 c1 RA1
          have J2 := Lib.hid (J.out.set_ (md : Int) l)
          generalize setR (md : Int) = ra at *
          generalize nU U (md : Int) = U2 at *
          generalize nV V (md : Int) l = V2 at *
          generalize nV V' (md : Int) l = V3 at *
          go_wp2_with fail
          refine (lim_any p U2 V2 x2 RA2).mono ?_
          rintro e x3 ⟨rfl, hb3⟩
          have RA3 := row_below RA2 hb3 (Nat.le_refl _)
          have RB3 := row_below RB2 hb3 (Nat.le_refl _)
          have B3 := bel2 B2 hb3
          clear RA2 RB2 B2 hb3
          go_wp2_with fail
          refine (rlim_ev q U2 V2 V3 x3 RB3 J2.out).mono ?_
          rintro e x4 ⟨rfl, rfl⟩
          generalize limV U2 V2 = lv at *
          go_wp2
          go_roundw
          case rel => exact ⟨k + 1, U2, V2, V3, by omega, by go_num, RA3, RB3, J2.out, B3⟩
          case measure => simp [intOf]; omega
      · go_wp2_with fail
        refine (rem_ev p U V (md : Int) W RA).mono ?_
        rintro e x1 ⟨rfl, RA1, hg1⟩
        have RB1 := RB.of_block (hg1.block q RB.lt (fun x => by injection x with x; omega))
        have B1 := bel_only BW hg1 hpw
        clear RA RB BW hg1
        go_wp2_with fail
        refine (rrem_ev q U V' (md : Int) x1 RB1).mono ?_
        rintro e x2 ⟨rfl, RB2, hg2⟩
        have RA2 := RA1.of_block (hg2.block p RA1.lt (fun x => by injection x with x; omega))
        have B2 := bel_only B1 hg2 hqw
        clear RA1 RB1 B1 hg2
        generalize remR U (md : Int) = ra at *
        have J2 := Lib.hid (J.out.rem_ (md : Int))
        generalize mU U (md : Int) = U2 at *
        generalize mV U V (md : Int) = V2 at *
        go_wp2_with fail
        refine (lim_any p U2 V2 x2 RA2).mono ?_
        rintro e x3 ⟨rfl, hb3⟩
        have RA3 := row_below RA2 hb3 (Nat.le_refl _)
        have RB3 := row_below RB2 hb3 (Nat.le_refl _)
        have B3 := bel2 B2 hb3
        clear RA2 RB2 B2 hb3
        go_wp2_with fail
        refine (rlim_ev q U2 V2 V' x3 RB3 J2.out).mono ?_
        rintro e x4 ⟨rfl, rfl⟩
        generalize limV U2 V2 = lv at *
        go_wp2
        go_roundw
        case rel => exact ⟨k + 1, U2, V2, V', by omega, by go_num, RA3, RB3, J2.out, B3⟩
        case measure => simp [intOf]; omega
      · go_wp2_with fail
        have RAd := RA.drew
        have RBd := RB.drew
        have hqd : q < W.drew.heap.size := RBd.lt
        have hqp : some q ≠ some p := fun x => by injection x with x; omega
        have hpq2 : some p ≠ some q := fun x => by injection x with x; omega
        have hbd : bx < W.drew.heap.size := hbx
        have hbp : some bx ≠ some p := fun x => by injection x with x; omega
        have b1d : W.drew.cell? ⟨bx, 1, none⟩ = some (.int .u64 l) := b1
        have HS := Lib.hid (And.intro hqd (And.intro hqp (And.intro hpq2 (And.intro hbd (And.intro hbp b1d)))))
        clear hqd hqp hpq2 hbd hbp b1d
        go_region_with (first | (go_at_call 26; refine (set_ev p U V cl l _ RAd).mono ?_; rintro e x1 ⟨rfl, RA1, hg1⟩; have RB1 := RBd.of_block (hg1.block q HS.out.1 HS.out.2.1); have c1 := (hg1.cell_far ⟨bx, 1, none⟩ HS.out.2.2.2.1 HS.out.2.2.2.2.1).trans HS.out.2.2.2.2.2) | (go_at_call 27; refine (rset_ev q U V' cl l _ RB1).mono ?_; rintro e x2 ⟨rfl, RB2, hg2⟩; have RA2 := RA1.of_block (hg2.block p RA1.lt HS.out.2.2.1)))
        all_goals
          have B2 := bel_only (bel_only BW.drew hg1 hpw) hg2 hqw
          clear RA RB BW hg1 hg2 RAd RBd HS RB1 c1 RA1
          have J2 := Lib.hid (J.out.set_ cl l)
          generalize setR cl = ra at *
          generalize nU U cl = U2 at *
          generalize nV V cl l = V2 at *
          generalize nV V' cl l = V3 at *
          go_wp2_with fail
          refine (lim_any p U2 V2 x2 RA2).mono ?_
          rintro e x3 ⟨rfl, hb3⟩
          have RA3 := row_below RA2 hb3 (Nat.le_refl _)
          have RB3 := row_below RB2 hb3 (Nat.le_refl _)
          have B3 := bel2 B2 hb3
          clear RA2 RB2 B2 hb3
          go_wp2_with fail
          refine (rlim_ev q U2 V2 V3 x3 RB3 J2.out).mono ?_
          rintro e x4 ⟨rfl, rfl⟩
          generalize limV U2 V2 = lv at *
          go_wp2
          go_roundw
          case rel => exact ⟨k + 1, U2, V2, V3, by omega, by go_num, RA3, RB3, J2.out, B3⟩
          case measure => simp [intOf]; omega
      · go_wp2_with fail
        refine (rem_ev p U V cl W RA).mono ?_
        rintro e x1 ⟨rfl, RA1, hg1⟩
        have RB1 := RB.of_block (hg1.block q RB.lt (fun x => by injection x with x; omega))
        have B1 := bel_only BW hg1 hpw
        clear RA RB BW hg1
        go_wp2_with fail
        refine (rrem_ev q U V' cl x1 RB1).mono ?_
        rintro e x2 ⟨rfl, RB2, hg2⟩
        have RA2 := RA1.of_block (hg2.block p RA1.lt (fun x => by injection x with x; omega))
        have B2 := bel_only B1 hg2 hqw
        clear RA1 RB1 B1 hg2
        generalize remR U cl = ra at *
        have J2 := Lib.hid (J.out.rem_ cl)
        generalize mU U cl = U2 at *
        generalize mV U V cl = V2 at *
        go_wp2_with fail
        refine (lim_any p U2 V2 x2 RA2).mono ?_
        rintro e x3 ⟨rfl, hb3⟩
        have RA3 := row_below RA2 hb3 (Nat.le_refl _)
        have RB3 := row_below RB2 hb3 (Nat.le_refl _)
        have B3 := bel2 B2 hb3
        clear RA2 RB2 B2 hb3
        go_wp2_with fail
        refine (rlim_ev q U2 V2 V' x3 RB3 J2.out).mono ?_
        rintro e x4 ⟨rfl, rfl⟩
        generalize limV U2 V2 = lv at *
        go_wp2
        go_roundw
        case rel => exact ⟨k + 1, U2, V2, V', by omega, by go_num, RA3, RB3, J2.out, B3⟩
        case measure => simp [intOf]; omega
    · have : k = n := by omega
      subst this
      go_wp2_with fail
      refine (awake_any _).mono ?_
      rintro e x1 ⟨rfl, hx1⟩
      go_wp2
      go_ret
      exact ⟨rfl, bel2 B hx1⟩
end Go.Proofs.Ytfbgkdjjfjlhhaa
