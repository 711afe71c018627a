/- Complete. -/
import Derived.Test.YtcmklipifhpgmaaMet
namespace Go.Proofs.Ytcmklipifhpgmaa
open Go.ChangeShapes Go.WideShapes Go.ChangeAt Go.RowKit Go.Deep Go.Joins

def addS (S : Int → Int → Bool) (x : Op) : Int → Int → Bool := fun a c => (decide (a = x.1) && decide (c = x.2)) || S a c
/-- A sequence after a result for its pending operation. -/
def cplS (s : SQ) (r : Int) : SQ × Int :=
  match s.p with
  | [] => (s, 9)
  | x :: q => if s.st = 0 then (if r = 0 then ({ s with st := stl 0 q.length, p := q, S := addS s.S x, nS := s.nS + 1 }, 0) else (undS s r, 0))
    else ({ s with st := stl s.st q.length, p := q, r := if s.r = 0 then r else s.r }, 0)
theorem oV_tail (x : Op) (q : List Op) (j : Nat) : oV (x :: q) (2 + j) = oV q j := by
  unfold oV
  rw [show (2 + j) % 2 = j % 2 by omega, show (2 + j) / 2 = j / 2 + 1 by omega]
  rfl
theorem Fl.tail {w : World} {b off : Nat} {x : Op} {q : List Op} (h : Fl w (some ⟨b, off, none⟩) 2 (q.length + 1) (oV (x :: q))) : Fl w (some ⟨b, off + 2, none⟩) 2 q.length (oV q) := by
  refine ⟨by have := h.len; omega, ?_⟩
  rcases h.row with h0 | ⟨b', off', hA, hlt, hc⟩
  · omega
  · injection hA with hA
    injection hA with h1 h2 _
    subst h1 h2
    exact .inr ⟨b, off + 2, rfl, hlt, fun j hj => by rw [← oV_tail x q j, show off + 2 + j = off + (2 + j) by omega]; exact hc _ (by omega)⟩
theorem Fl.none0 {w : World} {A : Option Addr} {n : Nat} {p q : List Op} (_ : Fl w A 2 n (oV p)) (hq : q.length = 0) : Fl w A 2 q.length (oV q) := ⟨by omega, .inl hq⟩
theorem Sd.nocell {w : World} {b n : Nat} {S : Int → Int → Bool} (h : Sd w b n S) (j : Nat) : w.cell? ⟨b, j, none⟩ = none := by
  obtain ⟨D, ⟨es, clock, hb, _⟩, _⟩ := h
  unfold World.cell?
  rw [hb]
theorem Sb.put {w w' : World} {s : SQ} {v : Value} {S' : Int → Int → Bool} {n' : Nat} (h : Sb w s v) (hc : Chg (fun k => k = s.M) w w') (hm : Sd w' s.M n' S') : Sb w' { s with S := S', nS := n' } v := by
  have eL := hc.block s.L h.lL (fun e => h.mL e.symm)
  refine ⟨(blk_cell eL _).trans h.c0, (blk_cell eL _).trans h.c1, (blk_cell eL _).trans h.c2, (blk_cell eL _).trans h.c3, (blk_cell eL _).trans h.c4, fun j => (blk_frz eL j).trans (h.fz j), Nat.lt_of_lt_of_le h.lL hc.size, h.od.chg hc (fun a e hn ha => ?_), h.on, fun a e => ⟨(h.oL a e).1, Nat.lt_of_lt_of_le (h.oL a e).2 hc.size⟩, hm, h.mL⟩
  rcases h.od.row with h0 | ⟨b, off, hA, _, hcell⟩
  · omega
  · have h1 := hcell 0 (by omega)
    rw [hA] at e
    injection e with e
    subst e
    have ha : b = s.M := ha
    subst ha
    rw [h.mp.nocell] at h1
    cases h1
set_option maxRecDepth 20000 in
set_option maxHeartbeats 4000000 in
theorem cpl_any {Z : Nat → Prop} {w : World} {s : SQ} (h : Sq Z w s) (hd : Dv s) (hO : ∀ x ∈ s.p, OpOk x) (hn : s.nS ≤ 10000) (r : Int) : Calls Try.prog 18 #[.pointer (some ⟨s.L, 0, none⟩), .int .i64 r] w (MeP Z w s (cplS s r).1 (cplS s r).2) := by
  have NX := nxt_any h
  unfold NxP nxT at NX
  cases hp : s.p with
  | nil =>
    have e : cplS s r = (s, 9) := by unfold cplS; rw [hp]
    rw [e]
    rw [hp] at NX
    have HS := Lib.hid h
    clear h hO e hp
    go_enter Try.func18, Try.ntmps18
    go_wp2_with fail
    refine NX.mono ?_
    clear NX
    rintro e w1 ⟨rfl, hb1⟩
    have FIN : ∀ w2, Below w.heap.size w w2 → Hid (MeP Z w s s 9 (.returned (.int .i64 9)) w2) := fun w2 h2 => ⟨rfl, HS.out.below h2, Chg.of_below h2 _⟩
    have hB := Lib.hid hb1
    clear hb1
    simp only [List.length_nil, Nat.lt_irrefl, decide_false, List.getD_nil]
    unfold opV
    go_wp2
    go_ret
    exact (FIN _ (by first | exact hB.out | exact bal hB.out _)).out
  | cons x q =>
    rw [hp] at NX
    obtain ⟨ph, d⟩ := x
    have hok : OpOk (ph, d) := hO _ (by rw [hp]; exact List.mem_cons_self)
    obtain ⟨PA, pc, hb, hF, hpc, hcm, hab⟩ := h.ex
    have hZ := h.far
    rw [hp] at hF hpc
    rw [hp] at hb
    have NX : Calls Try.prog 24 #[.pointer (some ⟨s.L, 0, none⟩)] w (fun e w' => e = .returned (.tuple #[.agg #[.int .i64 ph, .int .i64 d], .bool true]) ∧ Below w.heap.size w w') := by
      refine NX.mono ?_
      rintro e w1 ⟨rfl, h1⟩
      exact ⟨by simp [opV], h1⟩
    obtain ⟨b, off, rfl, hlt⟩ := hF.addr (by simp)
    have hab := hab _ rfl
    have hoL : s.L < w.heap.size := hb.lL
    have hmL : s.M < w.heap.size := hb.mp.lt
    have hmne : s.M ≠ s.L := hb.mL
    have hOA := Lib.hid hb.oL
    have HB := Lib.hid hb
    have HF := Lib.hid hF
    have hpc : q.length + 1 ≤ pc := hpc
    by_cases h0 : s.st = 0
    · by_cases hr : r = 0
      · have e : cplS s r = ({ s with st := stl 0 q.length, p := q, S := addS s.S (ph, d), nS := s.nS + 1 }, 0) := by unfold cplS; rw [hp]; simp only [h0, hr, if_true]
        rw [e]
        subst hr
        have HH := Lib.hid (And.intro h0 hab)
        clear h hO e hp hb hF hab
        go_enter Try.func18, Try.ntmps18
        go_wp2_with fail
        refine NX.mono ?_
        clear NX
        rintro e w1 ⟨rfl, hb1⟩
        have hx : Below w.heap.size w (w1.alloc (.cells #[.int .i64 ph, .int .i64 d] 30)) := bal hb1 _
        have HX := Lib.hid hx
        have x0 := (bx2 w1 (.int .i64 ph) (.int .i64 d) 30).1
        have x1 := (bx2 w1 (.int .i64 ph) (.int .i64 d) 30).2
        have l1 : w1.heap.size < (w1.alloc (.cells #[.int .i64 ph, .int .i64 d] 30)).heap.size := by simp
        have hge : w.heap.size ≤ w1.heap.size := hb1.size
        go_upto_region 2 with fail
        generalize w1.alloc (.cells #[.int .i64 ph, .int .i64 d] 30) = W at *
        have B1 := HB.out.below hx
        have c1 := B1.c1
        have lL : s.L < W.heap.size := B1.lL
        have c1 : W.cell? ⟨s.L, 1, none⟩ = some (.int .i64 0) := c1.trans (by rw [HH.out.1])
        have c3 := B1.c3
        have dlt : Chg (fun _ => False) W W.drew := (Chg.refl _ _).drew
        obtain ⟨WX, hput, hsd, hch⟩ := (B1.mp.chg dlt (fun x => x)).put ph d (w64 (by have := hok.1; omega)) (w64 (by have := hok.2; omega)) (by omega)
        unfold pv at hput
        have BX : Hid (Sb WX { s with st := 0, S := addS s.S (ph, d), nS := s.nS + 1 } (.slice (some ⟨b, off, none⟩) (q.length + 1) pc)) := (((B1.chg dlt (fun x => x) (fun x => x) (fun _ _ x => x)).put hch hsd)).id HH.out.1.symm
        have FX : Hid (Fl WX (some ⟨b, off, none⟩) 2 (q.length + 1) (oV ((ph, d) :: q))) := ((HF.out.chg (Chg.of_below hx (fun _ => False)) (fun _ _ _ x => x)).chg dlt (fun _ _ _ x => x)).chg hch (fun a e _ => by injection e with e; subst e; exact HH.out.2.1.2.1)
        have CX : Hid (Chg (fun b => b = s.L ∨ b = s.M ∨ w.heap.size ≤ b) w WX) := ((Chg.of_below hx _).drew).trans (hch.mono (fun b _ e => .inr (.inl e)))
        clear hx B1 hsd hch dlt hb1
        go_upto_region 8 with fail
        go_still_tail 5, (by kernel_rfl)
        go_upto_region 11 with fail
        clear hput x0 x1 c1 c3 lL
        have c2x := BX.out.c2
        have f2x := BX.out.fz 2
        have lLx := BX.out.lL
        have c2x : WX.cell? ⟨s.L, 2, none⟩ = some (.slice (some ⟨b, off, none⟩) (q.length + 1) pc) := c2x
        have f2x : WX.frozen? ⟨s.L, 2, none⟩ = false := f2x
        have lLx : s.L < WX.heap.size := lLx
        have h1m : (1 : Int) ≤ ((q.length + 1 : Nat) : Int) := by omega
        have h1c : ((q.length + 1 : Nat) : Int) ≤ (pc : Int) := by omega
        by_cases hp1 : pc = 1
        · subst hp1
          obtain rfl : q = [] := List.length_eq_zero_iff.1 (by omega)
          have c2x : WX.cell? ⟨s.L, 2, none⟩ = some (.slice (some ⟨b, off, none⟩) 1 1) := c2x
          clear h1m h1c
          have ST := stl_any (BX.out.set2 (.slice (some ⟨b, off, none⟩) 0 (0)))
          go_wp2_with fail
          refine ST.mono ?_
          clear ST
          rintro e w7 ⟨rfl, hS, hC⟩
          have FIN : Hid (MeP Z w s { s with st := stl 0 0, p := [], S := addS s.S (ph, d), nS := s.nS + 1 } 0 (.returned (.int .i64 0)) w7) := by
            have hab := HH.out.2
            have hc7 := (Chg.set WX s.L 2 (.slice (some ⟨b, off, none⟩) 0 (0))).trans hC
            have f7 := ((Fl.none0 (q := []) FX.out rfl)).chg hc7 (fun a e _ => by injection e with e; subst e; exact hab.1.1)
            have hlx : b < w7.heap.size := by have := CX.out.size; have := hc7.size; omega
            have hlw : w.heap.size ≤ w7.heap.size := Nat.le_trans CX.out.size hc7.size
            refine ⟨rfl, ⟨⟨some ⟨b, off, none⟩, 0, ?_, f7, by show 0 ≤ 0; omega, by omega, fun a e => by injection e with e; subst e; exact ⟨hab.1, hlx⟩⟩, fun k hk => Nat.lt_of_lt_of_le (hZ k hk) hlw⟩, CX.out.trans (hc7.mono (fun b _ e => .inl e))⟩
            exact hS.other rfl rfl rfl rfl rfl rfl rfl rfl rfl rfl
          clear hS hC
          go_wp2
          go_ret
          exact FIN.out
        · have ST := stl_any (BX.out.set2 (.slice (some ⟨b, off + 2, none⟩) q.length (pc - 1)))
          go_wp2_with fail
          refine ST.mono ?_
          clear ST
          rintro e w7 ⟨rfl, hS, hC⟩
          have FIN : Hid (MeP Z w s { s with st := stl 0 q.length, p := q, S := addS s.S (ph, d), nS := s.nS + 1 } 0 (.returned (.int .i64 0)) w7) := by
            have hab := HH.out.2
            have hc7 := (Chg.set WX s.L 2 (.slice (some ⟨b, off + 2, none⟩) q.length (pc - 1))).trans hC
            have f7 := (Fl.tail FX.out).chg hc7 (fun a e _ => by injection e with e; subst e; exact hab.1.1)
            have hlx : b < w7.heap.size := by have := CX.out.size; have := hc7.size; omega
            have hlw : w.heap.size ≤ w7.heap.size := Nat.le_trans CX.out.size hc7.size
            refine ⟨rfl, ⟨⟨some ⟨b, off + 2, none⟩, pc - 1, ?_, f7, by show q.length ≤ pc - 1; omega, by omega, fun a e => by injection e with e; subst e; exact ⟨hab.1, hlx⟩⟩, fun k hk => Nat.lt_of_lt_of_le (hZ k hk) hlw⟩, CX.out.trans (hc7.mono (fun b _ e => .inl e))⟩
            exact hS.other rfl rfl rfl rfl rfl rfl rfl rfl rfl rfl
          clear hS hC
          go_wp2
          go_ret
          exact FIN.out
      · have e : cplS s r = (undS s r, 0) := by unfold cplS; rw [hp]; simp only [h0, hr, if_true, if_false]
        rw [e]
        have HH := Lib.hid (And.intro h0 hab)
        clear h hO e hp hb hF hab
        go_enter Try.func18, Try.ntmps18
        go_wp2_with fail
        refine NX.mono ?_
        clear NX
        rintro e w1 ⟨rfl, hb1⟩
        have hx : Below w.heap.size w (w1.alloc (.cells #[.int .i64 ph, .int .i64 d] 30)) := bal hb1 _
        have HX := Lib.hid hx
        have x0 := (bx2 w1 (.int .i64 ph) (.int .i64 d) 30).1
        have x1 := (bx2 w1 (.int .i64 ph) (.int .i64 d) 30).2
        have l1 : w1.heap.size < (w1.alloc (.cells #[.int .i64 ph, .int .i64 d] 30)).heap.size := by simp
        have hge : w.heap.size ≤ w1.heap.size := hb1.size
        go_upto_region 2 with fail
        generalize w1.alloc (.cells #[.int .i64 ph, .int .i64 d] 30) = W at *
        have B1 := HB.out.below hx
        have c1 := B1.c1
        have lL : s.L < W.heap.size := B1.lL
        have c1 : W.cell? ⟨s.L, 1, none⟩ = some (.int .i64 0) := c1.trans (by rw [HH.out.1])
        have UN := und_any B1 hd (Z := Z) (fun k hk => Nat.lt_of_lt_of_le (hZ k hk) hx.size) r
        have er : (r != 0) = true := by simpa using hr
        clear hx B1 hb1 hr
        go_wp2_with fail
        refine UN.mono ?_
        clear UN
        rintro e w7 ⟨rfl, hS, hC⟩
        have FIN : Hid (MeP Z w s (undS s r) 0 (.returned (.int .i64 0)) w7) := ⟨rfl, hS, (Chg.of_below HX.out _).trans2 hC (fun b hb e => by rcases e with e | e; exact .inl e; omega)⟩
        clear hS hC
        go_wp2
        go_ret
        exact FIN.out
    · have e : cplS s r = ({ s with st := stl s.st q.length, p := q, r := if s.r = 0 then r else s.r }, 0) := by unfold cplS; rw [hp]; simp only [h0, if_false]
      rw [e]
      clear e
      by_cases hr : s.r = 0
      · have HH := Lib.hid (And.intro h0 hab)
        clear h hO hp hb hF hab
        have er : (if s.r = 0 then r else s.r) = r := by rw [if_pos hr]
        rw [er]
        clear er
        go_enter Try.func18, Try.ntmps18
        go_wp2_with fail
        refine NX.mono ?_
        clear NX
        rintro e w1 ⟨rfl, hb1⟩
        have hx : Below w.heap.size w (w1.alloc (.cells #[.int .i64 ph, .int .i64 d] 30)) := bal hb1 _
        have HX := Lib.hid hx
        have x0 := (bx2 w1 (.int .i64 ph) (.int .i64 d) 30).1
        have x1 := (bx2 w1 (.int .i64 ph) (.int .i64 d) 30).2
        have l1 : w1.heap.size < (w1.alloc (.cells #[.int .i64 ph, .int .i64 d] 30)).heap.size := by simp
        have hge : w.heap.size ≤ w1.heap.size := hb1.size
        go_upto_region 2 with fail
        generalize w1.alloc (.cells #[.int .i64 ph, .int .i64 d] 30) = W at *
        have B1 := HB.out.below hx
        have c1 := B1.c1
        have lL : s.L < W.heap.size := B1.lL
        obtain ⟨x, hxs⟩ : ∃ x, x = s.st := ⟨_, rfl⟩
        rw [← hxs] at c1 h0
        have e0 : (x == 0) = false := by simpa using h0
        have c4 := B1.c4
        have f4 := B1.fz 4
        obtain ⟨y, hy⟩ : ∃ y, y = s.r := ⟨_, rfl⟩
        rw [← hy] at c4 hr
        subst hr
        have BX := Lib.hid (B1.set4 r)
        have FX : Hid (Fl (W.setCell ⟨s.L, 4, none⟩ (.int .i64 r)) (some ⟨b, off, none⟩) 2 (q.length + 1) (oV ((ph, d) :: q))) := (HF.out.chg (Chg.of_below hx (fun _ => False)) (fun _ _ _ x => x)).chg (Chg.set W s.L 4 (.int .i64 r)) (fun a e _ => by injection e with e; subst e; exact HH.out.2.1.1)
        have CX : Hid (Chg (fun b => b = s.L ∨ b = s.M ∨ w.heap.size ≤ b) w (W.setCell ⟨s.L, 4, none⟩ (.int .i64 r))) := (Chg.of_below hx _).trans ((Chg.set W s.L 4 (.int .i64 r)).mono (fun b _ e => .inl e))
        clear hx B1 hb1 h0 hy hxs
        go_upto_region 11 with fail
        generalize W.setCell ⟨s.L, 4, none⟩ (.int .i64 r) = WX at *
        clear x0 x1 c1 c4 f4 lL l1 hge HX
        have c2x := BX.out.c2
        have f2x := BX.out.fz 2
        have lLx := BX.out.lL
        have c2x : WX.cell? ⟨s.L, 2, none⟩ = some (.slice (some ⟨b, off, none⟩) (q.length + 1) pc) := c2x
        have f2x : WX.frozen? ⟨s.L, 2, none⟩ = false := f2x
        have lLx : s.L < WX.heap.size := lLx
        have h1m : (1 : Int) ≤ ((q.length + 1 : Nat) : Int) := by omega
        have h1c : ((q.length + 1 : Nat) : Int) ≤ (pc : Int) := by omega
        by_cases hp1 : pc = 1
        · subst hp1
          obtain rfl : q = [] := List.length_eq_zero_iff.1 (by omega)
          have c2x : WX.cell? ⟨s.L, 2, none⟩ = some (.slice (some ⟨b, off, none⟩) 1 1) := c2x
          clear h1m h1c
          have ST := stl_any (BX.out.set2 (.slice (some ⟨b, off, none⟩) 0 (0)))
          go_wp2_with fail
          refine ST.mono ?_
          clear ST
          rintro e w7 ⟨rfl, hS, hC⟩
          have FIN : Hid (MeP Z w s { s with st := stl s.st 0, p := [], r := r } 0 (.returned (.int .i64 0)) w7) := by
            have hab := HH.out.2
            have hc7 := (Chg.set WX s.L 2 (.slice (some ⟨b, off, none⟩) 0 (0))).trans hC
            have f7 := ((Fl.none0 (q := []) FX.out rfl)).chg hc7 (fun a e _ => by injection e with e; subst e; exact hab.1.1)
            have hlx : b < w7.heap.size := by have := CX.out.size; have := hc7.size; omega
            have hlw : w.heap.size ≤ w7.heap.size := Nat.le_trans CX.out.size hc7.size
            refine ⟨rfl, ⟨⟨some ⟨b, off, none⟩, 0, ?_, f7, by show 0 ≤ 0; omega, by omega, fun a e => by injection e with e; subst e; exact ⟨hab.1, hlx⟩⟩, fun k hk => Nat.lt_of_lt_of_le (hZ k hk) hlw⟩, CX.out.trans (hc7.mono (fun b _ e => .inl e))⟩
            exact hS.other rfl rfl rfl rfl rfl rfl rfl rfl rfl rfl
          clear hS hC
          go_wp2
          go_ret
          exact FIN.out
        · have ST := stl_any (BX.out.set2 (.slice (some ⟨b, off + 2, none⟩) q.length (pc - 1)))
          go_wp2_with fail
          refine ST.mono ?_
          clear ST
          rintro e w7 ⟨rfl, hS, hC⟩
          have FIN : Hid (MeP Z w s { s with st := stl s.st q.length, p := q, r := r } 0 (.returned (.int .i64 0)) w7) := by
            have hab := HH.out.2
            have hc7 := (Chg.set WX s.L 2 (.slice (some ⟨b, off + 2, none⟩) q.length (pc - 1))).trans hC
            have f7 := (Fl.tail FX.out).chg hc7 (fun a e _ => by injection e with e; subst e; exact hab.1.1)
            have hlx : b < w7.heap.size := by have := CX.out.size; have := hc7.size; omega
            have hlw : w.heap.size ≤ w7.heap.size := Nat.le_trans CX.out.size hc7.size
            refine ⟨rfl, ⟨⟨some ⟨b, off + 2, none⟩, pc - 1, ?_, f7, by show q.length ≤ pc - 1; omega, by omega, fun a e => by injection e with e; subst e; exact ⟨hab.1, hlx⟩⟩, fun k hk => Nat.lt_of_lt_of_le (hZ k hk) hlw⟩, CX.out.trans (hc7.mono (fun b _ e => .inl e))⟩
            exact hS.other rfl rfl rfl rfl rfl rfl rfl rfl rfl rfl
          clear hS hC
          go_wp2
          go_ret
          exact FIN.out
      · have HH := Lib.hid (And.intro h0 hab)
        clear h hO hp hb hF hab
        have er : (if s.r = 0 then r else s.r) = s.r := by rw [if_neg hr]
        rw [er]
        clear er
        go_enter Try.func18, Try.ntmps18
        go_wp2_with fail
        refine NX.mono ?_
        clear NX
        rintro e w1 ⟨rfl, hb1⟩
        have hx : Below w.heap.size w (w1.alloc (.cells #[.int .i64 ph, .int .i64 d] 30)) := bal hb1 _
        have HX := Lib.hid hx
        have x0 := (bx2 w1 (.int .i64 ph) (.int .i64 d) 30).1
        have x1 := (bx2 w1 (.int .i64 ph) (.int .i64 d) 30).2
        have l1 : w1.heap.size < (w1.alloc (.cells #[.int .i64 ph, .int .i64 d] 30)).heap.size := by simp
        have hge : w.heap.size ≤ w1.heap.size := hb1.size
        go_upto_region 2 with fail
        generalize w1.alloc (.cells #[.int .i64 ph, .int .i64 d] 30) = W at *
        have B1 := HB.out.below hx
        have c1 := B1.c1
        have lL : s.L < W.heap.size := B1.lL
        obtain ⟨x, hxs⟩ : ∃ x, x = s.st := ⟨_, rfl⟩
        rw [← hxs] at c1 h0
        have e0 : (x == 0) = false := by simpa using h0
        have c4 := B1.c4
        have f4 := B1.fz 4
        obtain ⟨y, hy⟩ : ∃ y, y = s.r := ⟨_, rfl⟩
        rw [← hy] at c4 hr
        have er0 : (y == 0) = false := by simpa using hr
        have BX := Lib.hid B1
        have FX : Hid (Fl W (some ⟨b, off, none⟩) 2 (q.length + 1) (oV ((ph, d) :: q))) := (HF.out.chg (Chg.of_below hx (fun _ => False)) (fun _ _ _ x => x))
        have CX : Hid (Chg (fun b => b = s.L ∨ b = s.M ∨ w.heap.size ≤ b) w W) := (Chg.of_below hx _)
        clear hx B1 hb1 h0 hy hxs hr
        go_upto_region 11 with fail
        generalize W = WX at *
        clear x0 x1 c1 c4 f4 lL l1 hge HX
        have c2x := BX.out.c2
        have f2x := BX.out.fz 2
        have lLx := BX.out.lL
        have c2x : WX.cell? ⟨s.L, 2, none⟩ = some (.slice (some ⟨b, off, none⟩) (q.length + 1) pc) := c2x
        have f2x : WX.frozen? ⟨s.L, 2, none⟩ = false := f2x
        have lLx : s.L < WX.heap.size := lLx
        have h1m : (1 : Int) ≤ ((q.length + 1 : Nat) : Int) := by omega
        have h1c : ((q.length + 1 : Nat) : Int) ≤ (pc : Int) := by omega
        by_cases hp1 : pc = 1
        · subst hp1
          obtain rfl : q = [] := List.length_eq_zero_iff.1 (by omega)
          have c2x : WX.cell? ⟨s.L, 2, none⟩ = some (.slice (some ⟨b, off, none⟩) 1 1) := c2x
          clear h1m h1c
          have ST := stl_any (BX.out.set2 (.slice (some ⟨b, off, none⟩) 0 (0)))
          go_wp2_with fail
          refine ST.mono ?_
          clear ST
          rintro e w7 ⟨rfl, hS, hC⟩
          have FIN : Hid (MeP Z w s { s with st := stl s.st 0, p := [], r := s.r } 0 (.returned (.int .i64 0)) w7) := by
            have hab := HH.out.2
            have hc7 := (Chg.set WX s.L 2 (.slice (some ⟨b, off, none⟩) 0 (0))).trans hC
            have f7 := ((Fl.none0 (q := []) FX.out rfl)).chg hc7 (fun a e _ => by injection e with e; subst e; exact hab.1.1)
            have hlx : b < w7.heap.size := by have := CX.out.size; have := hc7.size; omega
            have hlw : w.heap.size ≤ w7.heap.size := Nat.le_trans CX.out.size hc7.size
            refine ⟨rfl, ⟨⟨some ⟨b, off, none⟩, 0, ?_, f7, by show 0 ≤ 0; omega, by omega, fun a e => by injection e with e; subst e; exact ⟨hab.1, hlx⟩⟩, fun k hk => Nat.lt_of_lt_of_le (hZ k hk) hlw⟩, CX.out.trans (hc7.mono (fun b _ e => .inl e))⟩
            exact hS.other rfl rfl rfl rfl rfl rfl rfl rfl rfl rfl
          clear hS hC
          go_wp2
          go_ret
          exact FIN.out
        · have ST := stl_any (BX.out.set2 (.slice (some ⟨b, off + 2, none⟩) q.length (pc - 1)))
          go_wp2_with fail
          refine ST.mono ?_
          clear ST
          rintro e w7 ⟨rfl, hS, hC⟩
          have FIN : Hid (MeP Z w s { s with st := stl s.st q.length, p := q, r := s.r } 0 (.returned (.int .i64 0)) w7) := by
            have hab := HH.out.2
            have hc7 := (Chg.set WX s.L 2 (.slice (some ⟨b, off + 2, none⟩) q.length (pc - 1))).trans hC
            have f7 := (Fl.tail FX.out).chg hc7 (fun a e _ => by injection e with e; subst e; exact hab.1.1)
            have hlx : b < w7.heap.size := by have := CX.out.size; have := hc7.size; omega
            have hlw : w.heap.size ≤ w7.heap.size := Nat.le_trans CX.out.size hc7.size
            refine ⟨rfl, ⟨⟨some ⟨b, off + 2, none⟩, pc - 1, ?_, f7, by show q.length ≤ pc - 1; omega, by omega, fun a e => by injection e with e; subst e; exact ⟨hab.1, hlx⟩⟩, fun k hk => Nat.lt_of_lt_of_le (hZ k hk) hlw⟩, CX.out.trans (hc7.mono (fun b _ e => .inl e))⟩
            exact hS.other rfl rfl rfl rfl rfl rfl rfl rfl rfl rfl
          clear hS hC
          go_wp2
          go_ret
          exact FIN.out
end Go.Proofs.Ytcmklipifhpgmaa
