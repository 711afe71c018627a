/- awake, and the statement on the delays. -/
import Derived.Test.YtdmbmjnobncgjaaSte
namespace Go.Proofs.Ytdmbmjnobncgjaa
open Go.RowKit

theorem trw_of {w : World} {T : Nat} {cd ad dt dl st vl : Int} (h : TrB w T cd ad dt dl st vl) (h1 : U8 cd) (h2 : U8 ad) (h3 : U8 dt) (h4 : U64 dl) (h5 : U8 vl) : TrW w T ⟨cd, ad, dt, dl, st, vl⟩ :=
  ⟨⟨_, h, rfl, fun i hi => by
    rcases (show i = 0 ∨ i = 1 ∨ i = 2 ∨ i = 3 ∨ i = 4 ∨ i = 5 by omega) with rfl | rfl | rfl | rfl | rfl | rfl <;> rfl⟩, h1, h2, h3, h4, h5⟩
def addX (s : EcS) (T : Nat) : EcS := { s with xq := fun b => s.xq b ∨ b = T }
/-- A transaction laid behind the controller: the queue is not in it. -/
theorem ecq_add {w w' : World} {L T : Nat} {s : EcS} (h : EcQ w L s) (hb : Below w.heap.size w w') (hT : w.heap.size ≤ T) (hT' : T < w'.heap.size) : EcQ w' L (addX s T) := by
  obtain ⟨A, c, k⟩ := h
  refine ⟨A, c, ⟨k.row.of_block (hb.block L k.row.lt), ?_, k.dl, k.ck, k.du, k.reg, k.vl, k.ou, k.cd, k.aa, k.ql, k.qn⟩⟩
  have q := k.q.chg (Chg.of_below hb (fun _ => False)) (fun _ _ _ x => x)
  refine ⟨fun b hx => hx.elim (fun x => Nat.lt_of_lt_of_le (k.q.1 b x) hb.size) (fun x => by subst x; exact hT'), ?_⟩
  rcases k.q.2 with h0 | ⟨b, off, hA, hB, hlt, hx, hc, hr⟩
  · exact .inl h0
  · rcases q.2 with h0 | ⟨b', off', hA', hB', hlt', hx', hc', hr'⟩
    · exact .inl h0
    · have e : b = b' := by
        have := hA.symm.trans hA'
        injection this with this
        injection this
      subst e
      exact .inr ⟨b, off', hA', hB', hlt', fun x => x.elim hx' (fun y => by omega), hc', hr'⟩
theorem u8_lit (n : Int) (h : 0 ≤ n ∧ n ≤ 255) : U8 n := h
theorem u64_lit (n : Int) (h : 0 ≤ n ∧ n < 18446744073709551616) : U64 n := h
def sw1 : EcS := { ({ e0 with dl := 2 } : EcS) with reg := updR e0.reg 7 9 }
def tw1 : TrS := ⟨128, 7, 0, 100, 0, 0⟩
theorem sStep_T (t : TrS) (s : EcS) (now : Int) : (sStep t s now).2.xq = s.xq := by
  have hR : ∀ k t s, (sRun k t s now).2.xq = s.xq := by
    intro k
    induction k with
    | zero => exact fun _ _ => rfl
    | succ k ih =>
      intro t s
      show (if t.st < 5 then _ else _ : TrS × EcS).2.xq = _
      split
      · split
        · rw [ih]; exact (act_keep t s now).1
        · exact (act_keep t s now).1
      · rfl
  show (if _ then _ else _ : TrS × EcS).2.xq = _
  split
  · exact hR 18 t s
  · exact hR 18 t s
/-- A state under another ghost. -/
def EcS.X (s : EcS) (X : Nat → Prop) : EcS := { s with xq := X }
def a1 : TrS := ⟨128, 7, 0, 100, 1, 0⟩
def a2 : TrS := ⟨128, 7, 0, 100, 3, 0⟩
def a3 : TrS := ⟨128, 7, 0, 100, 5, 9⟩
def b1 (X : Nat → Prop) : EcS := { sw1.X X with us := true, cm := true, vl := 128, du := 2 }
def b2 (X : Nat → Prop) : EcS := { sw1.X X with ck := 2, us := true, cm := false, vl := 7, du := 4, cd := 128, ad := false }
def b3 (X : Nat → Prop) : EcS := { sw1.X X with ck := 4, us := false, cm := false, vl := 7, du := 4, cd := 0, ad := false, ou := 9, un := false }
theorem st_1 (X : Nat → Prop) : sStep tw1 (sw1.X X) 0 = (a1, b1 X) := by rfl
theorem st_2 (X : Nat → Prop) : sStep a1 (b1 X) 2 = (a2, b2 X) := by rfl
theorem st_3 (X : Nat → Prop) : sStep a2 (b2 X) 4 = (a3, b3 X) := by rfl
theorem new_2 (w : World) : Calls Try.prog 9 #[.int .u64 2] w (fun e w' => e = .returned (.tuple #[.pointer (some ⟨w.heap.size, 0, none⟩), .int .i64 0]) ∧ EcQ w' w.heap.size { e0 with dl := 2 } ∧ Below w.heap.size w w') := new_good w 2 (by omega) (by omega)
def StepTo (w : World) (L T : Nat) (t : TrS) (s : EcS) (v : Value) (e : Ending) (w' : World) : Prop := e = .returned v ∧ EcQ w' L s ∧ TrW w' T t ∧ Chg (TL T L) w w'
theorem step_to {w : World} {L T : Nat} {s s' : EcS} {t t' : TrS} {now : Int} {v : Value} (h : EcQ w L s) (hn : U64 now) (ht : TrW w T t) (hne : T ≠ L) (hx : s.xq T) (h0 : 0 ≤ t.st) (h6 : t.st ≤ 6) (hs : sStep t s now = (t', s')) (hv : stVal t' = v) :
    Calls Try.prog 34 #[.pointer (some ⟨T, 0, none⟩), .pointer (some ⟨L, 0, none⟩), .int .u64 now] w (StepTo w L T t' s' v) := by
  have := step_any w L T s t now h hn ht hne hx h0 h6
  rw [hs] at this
  exact this.mono fun e w' k => ⟨by rw [← hv]; exact k.1, k.2⟩
theorem tl_below {w0 w w' : World} {T L : Nat} (h : Below w0.heap.size w0 w) (k : Chg (TL T L) w w') (h1 : w0.heap.size ≤ T) (h2 : w0.heap.size ≤ L) : Below w0.heap.size w0 w' :=
  Below.chg h k h.size (fun j hj => by rcases hj with rfl | rfl <;> assumption)
set_option maxRecDepth 100000 in
set_option maxHeartbeats 2000000 in
theorem awake_any (w : World) : Calls Try.prog 10 #[] w (LawPost w) := by
  go_enter Try.func10, Try.ntmps10
  go_wp2_with fail
  refine (new_2 w).mono ?_
  rintro e w1 ⟨rfl, k1, b1'⟩
  have K1 := Lib.hid k1
  have B1 := Lib.hid b1'
  have hlt1 : w.heap.size < w1.heap.size := by obtain ⟨A, c, k⟩ := k1; exact k.row.lt
  clear k1 b1'
  generalize hL : w.heap.size = L at *
  have HL := Lib.hid hL
  clear hL
  go_wp2_with fail
  refine (setreg_any w1 L _ 7 9 K1.out (by omega) (by exact u8_lit 9 (by omega))).mono ?_
  rintro e w2 ⟨rfl, k2, g2⟩
  have K2 : Hid (EcQ w2 L sw1) := k2
  have B2 : Hid (Below w.heap.size w w2) := bel_only (HL.out ▸ B1.out) g2 (by rw [HL.out]; exact Nat.le_refl _)
  have hlt2 : L < w2.heap.size := Nat.lt_of_lt_of_le hlt1 g2.size
  clear k2 g2 K1 B1 hlt1
  go_wp2_with fail
  refine (read_new w2 7 0 100 (u64_lit 0 (by omega)) (u64_lit 100 (by omega))).mono ?_
  rintro e w3 ⟨rfl, t3, b3'⟩
  have hlt3 : w2.heap.size < w3.heap.size := blk_lt t3
  have TT3 : Hid (TrW w3 w2.heap.size tw1) := trw_of t3 (u8_lit _ (by omega)) (u8_lit _ (by omega)) (u8_lit _ (by omega)) (u64_lit _ (by show 0 ≤ (100 : Int) ∧ (100 : Int) < 18446744073709551616; omega)) (u8_lit _ (by omega))
  have K3 : Hid (EcQ w3 L (addX sw1 w2.heap.size)) := ecq_add K2.out b3' (Nat.le_refl _) hlt3
  have B3 : Hid (Below w.heap.size w w3) := bel2 B2.out b3'
  generalize hT : w2.heap.size = T at *
  have hX : Hid ((fun b => sw1.xq b ∨ b = T) T) := .inr rfl
  have K3 : Hid (EcQ w3 L (sw1.X (fun b => sw1.xq b ∨ b = T))) := K3
  generalize (fun b => sw1.xq b ∨ b = T) = X at *
  have hne : T ≠ L := by omega
  have hTL : Hid (w.heap.size ≤ T ∧ w.heap.size ≤ L) := by rw [HL.out]; exact ⟨by omega, Nat.le_refl _⟩
  clear t3 b3' K2 B2 hT
  go_wp2_with fail
  refine (step_to (v := .tuple #[.int .u8 0, .bool false, .int .i64 0]) K3.out (u64_lit 0 (by omega)) TT3.out hne hX.out (by show (0 : Int) ≤ 0; omega) (by show (0 : Int) ≤ 6; omega) (st_1 X) rfl).mono ?_
  rintro e w4 ⟨rfl, k4, t4, c4⟩
  have K4 := Lib.hid k4
  have T4 := Lib.hid t4
  have B4 := Lib.hid (tl_below B3.out c4 hTL.out.1 hTL.out.2)
  clear k4 t4 c4 K3 TT3 B3
  go_wp2_with fail
  refine (step_to (v := .tuple #[.int .u8 0, .bool false, .int .i64 0]) K4.out (u64_lit 2 (by omega)) T4.out hne hX.out (by show (0 : Int) ≤ 1; omega) (by show (1 : Int) ≤ 6; omega) (st_2 X) rfl).mono ?_
  rintro e w5 ⟨rfl, k5, t5, c5⟩
  have K5 := Lib.hid k5
  have T5 := Lib.hid t5
  have B5 := Lib.hid (tl_below B4.out c5 hTL.out.1 hTL.out.2)
  clear k5 t5 c5 K4 T4 B4
  go_wp2_with fail
  refine (step_to (v := .tuple #[.int .u8 9, .bool true, .int .i64 0]) K5.out (u64_lit 4 (by omega)) T5.out hne hX.out (by show (0 : Int) ≤ 3; omega) (by show (3 : Int) ≤ 6; omega) (st_3 X) rfl).mono ?_
  rintro e w6 ⟨rfl, k6, t6, c6⟩
  have B6 := Lib.hid (tl_below B5.out c6 hTL.out.1 hTL.out.2)
  clear k6 t6 c6 K5 T5 B5
  go_wp2
  go_ret
  exact ⟨rfl, B6.out⟩
end Go.Proofs.Ytdmbmjnobncgjaa
