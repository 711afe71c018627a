/- Mod, sector, and the comparison of lists of strings. -/
import Derived.Test.YtoafoikphpdimaaGen
namespace Go.Proofs.Ytoafoikphpdimaa
open Go.ChangeShapes Go.WideShapes Go.ChangeAt Go.RowKit Go.Deep Go.Joins

theorem mod_big (v : Int) (n : Nat) (hn : 1 ≤ n) (hn2 : n ≤ 4611686018427387904) : wrap64 ((IntKind.u64.wrap v).tmod n) = (modOf v n : Nat) ∧ modOf v n < n := by
  have h0 : 0 ≤ IntKind.u64.wrap v := by rw [IntKind.wrap_u64]; omega
  have h1 : (IntKind.u64.wrap v).tmod n = (IntKind.u64.wrap v) % n := Int.tmod_eq_emod_of_nonneg h0
  have h2 : 0 ≤ (IntKind.u64.wrap v) % n := Int.emod_nonneg _ (by omega)
  have h3 : (IntKind.u64.wrap v) % n < n := Int.emod_lt_of_pos _ (by omega)
  have h4 : wrap64 ((IntKind.u64.wrap v).tmod n) = (IntKind.u64.wrap v) % n := by rw [h1]; exact IntWalk.wrap64_in _ (by omega)
  unfold modOf
  rw [h4]
  omega
set_option maxHeartbeats 1000000 in
theorem mod_any (v : Int) (n : Nat) (hn : 1 ≤ n) (hn2 : n ≤ 4611686018427387904) (w : World) : Calls Try.prog 11 #[.int .i64 v, .int .i64 n] w fun e w' => e = .returned (.int .i64 (modOf v n : Nat)) ∧ w = w' := by
  have H := Lib.hid (mod_big v n hn hn2).1
  have hnz : ((n : Int) == 0) = false := beq_eq_false_iff_ne.2 (by omega)
  have hw : IntKind.u64.wrap (n : Int) = n := by rw [IntKind.wrap_u64]; omega
  go_enter Try.func11, Try.ntmps11
  go_wp2
  go_ret
  refine ⟨?_, rfl⟩
  rw [H.out]
  rfl
theorem str_t {a b : ByteArray} (h : a = b) : (a.toList == b.toList) = true := by subst h; simp
theorem str_f {a b : ByteArray} (h : a ≠ b) : (a.toList == b.toList) = false := by
  refine beq_eq_false_iff_ne.2 fun e => h ?_
  rw [ByteArray.toList_eq, ByteArray.toList_eq] at e
  exact ByteArray.ext (Array.toList_inj.1 e)
/-- A list of strings in cells. -/
structure Sl (w : World) (A : Option Addr) (l : List ByteArray) : Prop where
  len : l.length ≤ 9223372036854775807
  row : l = [] ∨ ∃ b off, A = some ⟨b, off, none⟩ ∧ b < w.heap.size ∧ ∀ i, i < l.length → w.cell? ⟨b, off + i, none⟩ = some (.string (l.getD i ByteArray.empty))
theorem Sl.below {w w' : World} {A : Option Addr} {l : List ByteArray} (h : Sl w A l) (hb : Below w.heap.size w w') : Sl w' A l := by
  refine ⟨h.len, ?_⟩
  rcases h.row with h0 | ⟨b, off, hA, hlt, hc⟩
  · exact .inl h0
  · exact .inr ⟨b, off, hA, Nat.lt_of_lt_of_le hlt hb.size, fun i hi => (hb.cell (by exact hlt)).trans (hc i hi)⟩
def BPost (w : World) (b : Bool) (e : Ending) (w' : World) : Prop := e = .returned (.bool b) ∧ Below w.heap.size w w'
def eqTo (l m : List ByteArray) (k : Nat) : Prop := ∀ i, i < k → l.getD i ByteArray.empty = m.getD i ByteArray.empty
theorem eq_of_to {l m : List ByteArray} (h : l.length = m.length) : eqTo l m l.length → l = m := by
  intro H
  apply List.ext_getElem h
  intro i h1 h2
  have := H i h1
  simpa [List.getD_eq_getElem?_getD, List.getElem?_eq_getElem h1, List.getElem?_eq_getElem h2] using this
set_option maxRecDepth 100000 in
set_option maxHeartbeats 2000000 in
theorem eql_any (A B : Option Addr) (c d : Nat) (l m : List ByteArray) (w : World) (hl : Sl w A l) (hm : Sl w B m) : Calls Try.prog 19 #[.slice A l.length c, .slice B m.length d] w (BPost w (decide (l = m))) := by
  have ln := hl.1
  have mn := hm.1
  have HL := Lib.hid hl
  have HM := Lib.hid hm
  clear hl hm
  by_cases hn : l.length = m.length
  · have HN := Lib.hid hn
    have EQ : Hid (eqTo l m l.length → l = m) := eq_of_to hn
    generalize hb : decide (l = m) = bb
    have HBB := Lib.hid hb
    have hnl : m.length = l.length := hn.symm
    rw [hnl]
    generalize hk : l.length = n at *
    have HK := Lib.hid hk
    clear hk hn hb hnl mn
    go_enter Try.func19, Try.ntmps19
    go_wp2_with fail
    go_loopw [5] (fun i wr => ∃ k : Nat, k ≤ n ∧ i = .int .i64 k ∧ Below w.heap.size w wr ∧ Hid (eqTo l m k)) (fun i _ => n - (intOf i).toNat)
    case atStart => exact ⟨0, Nat.zero_le _, rfl, Below.refl _ _, fun i hi => by omega⟩
    case round =>
      obtain ⟨k, hk, rfl, hB, HT⟩ := hrel
      by_cases hlt : k < n
      · rcases HL.out.row with h0 | ⟨b1, o1, rfl, l1, c1⟩
        · have := HK.out; rw [h0] at this; simp at this; omega
        rcases HM.out.row with h0 | ⟨b2, o2, rfl, l2, c2⟩
        · have := HN.out; have := HK.out; rw [h0] at *; simp at *; omega
        have e1 := (hB.cell (p := ⟨b1, o1 + k, none⟩) l1).trans (c1 k (by have := HK.out; omega))
        have e2 := (hB.cell (p := ⟨b2, o2 + k, none⟩) l2).trans (c2 k (by have := HK.out; have := HN.out; omega))
        have NX : Hid (l.getD k ByteArray.empty = m.getD k ByteArray.empty → eqTo l m (k + 1)) := fun e i hi => by
          rcases Nat.lt_or_ge i k with h | h
          · exact HT.out i h
          · have : i = k := by omega
            subst this; exact e
        have NO : Hid (l.getD k ByteArray.empty ≠ m.getD k ByteArray.empty → bb = false) := fun e => by
          rw [← HBB.out]
          exact decide_eq_false (fun h => e (by rw [h]))
        clear c1 c2
        generalize l.getD k ByteArray.empty = x at *
        generalize m.getD k ByteArray.empty = y at *
        have HB := Lib.hid hB
        clear hB
        by_cases hxy : x = y
        · have KEEP := Lib.hid (NX.out hxy)
          have hne : (x.toList == y.toList) = true := str_t hxy
          have hne2 : (x.toList != y.toList) = false := by simp [hne, bne]
          clear NX NO hxy
          go_wp2_with fail
          go_quiet (fail)
          go_wp2
          go_roundw
          case rel => exact ⟨k + 1, by omega, by go_num, below_drewN HB.out _, KEEP⟩
          case measure => simp [intOf]; omega
        · have F := Lib.hid (NO.out hxy)
          have hne : (x.toList == y.toList) = false := str_f hxy
          have hne2 : (x.toList != y.toList) = true := by simp [hne, bne]
          clear NX NO hxy
          go_wp2_with fail
          go_quiet (fail)
          go_wp2
          go_ret
          exact ⟨by rw [F.out]; rfl, below_drewN HB.out _⟩
      · have hkn : k = n := by omega
        have F : Hid (bb = true) := by
          show bb = true
          rw [← HBB.out]
          exact decide_eq_true (EQ.out (by rw [hkn] at HT; have := HT.out; exact this))
        have HB := Lib.hid hB
        clear hB hkn
        go_wp2
        go_ret
        exact ⟨by rw [F.out]; rfl, HB.out⟩
  · have F : Hid (decide (l = m) = false) := decide_eq_false (fun h => hn (by rw [h]))
    have hne : ((l.length : Int) != (m.length : Int)) = true := by simp; omega
    clear HL HM
    generalize l.length = x at *
    generalize m.length = y at *
    go_enter Try.func19, Try.ntmps19
    go_wp2
    go_ret
    exact ⟨by rw [F.out]; rfl, Below.refl _ _⟩
/-- The bytes of a sector. -/
structure Sc (w wr : World) (L : List Int) : Prop where
  len : L.length = 64
  own : wr.ownsRow w.heap.size 5 1 (.slice (some ⟨w.heap.size, 0, none⟩) 64 64) 64 (L.map (Value.int .u8))
  bel : Below w.heap.size w wr
theorem info5 : (Try.prog.info? 5).map (fun i => (i.zero, i.size, i.bytes)) = some (some (.int .u8 0), 1, 1) := by kernel_rfl
theorem make64 (w : World) : (Instr.makeSlice 46 (.int .i64 64) (.int .i64 64)).run Try.prog w = .ok (.slice (some ⟨w.heap.size, 0, none⟩) 64 64) (w.alloc (.cells (madeCells #[.int .u8 0] 64) 5)) :=
  run_make_row' 46 5 (.int .u8 0) 1 Try.underlying46 info5 rfl .i64 .i64 64 (by decide) (by decide) w
theorem sc_0 (w : World) : Sc w (w.alloc (.cells (madeCells #[.int .u8 0] 64) 5)) (List.replicate 64 0) := by
  refine ⟨List.length_replicate, ?_, bal (Below.refl _ _) _⟩
  have := World.ownsRow_lit (base := w.heap.size) (e := 5) (size := 1) w (madeCells #[Value.int IntKind.u8 0] 64) 64 (Nat.le_refl _) (by unfold maxLen; omega) (by kernel_rfl)
  rw [toList_madeCells_one] at this
  rw [List.map_replicate]
  exact this
theorem Sc.set {w wr : World} {L : List Int} (h : Sc w wr L) (k : Nat) (x : Int) : Sc w (wr.setCell ⟨w.heap.size, k, none⟩ (.int .u8 x)) (L.set k x) := by
  obtain ⟨o, g⟩ := h.own.stored k (.int .u8 x)
  rw [← List.map_set] at o
  exact ⟨by simp [h.len], o, h.bel.grown g (by have := h.bel.size; omega) (fun j hj => by injection hj with hj; omega)⟩
theorem Sc.cell {w wr : World} {L : List Int} (h : Sc w wr L) (k : Nat) (hk : k < 64) : ∃ v, wr.cell? ⟨w.heap.size, k, none⟩ = some v := by
  refine ⟨.int .u8 (L.getD k 0), ?_⟩
  rw [h.own.cellAt k (by omega), List.getElem?_map, List.getD_eq_getElem?_getD, List.getElem?_eq_getElem (by rw [h.len]; exact hk)]
  rfl
def sbyte (k : Int) (i : Nat) : Int := ((modOf k 1099511627776 : Nat) : Int) / 2 ^ (8 * i) % 256
def secL (k : Int) : Nat → List Int
  | 0 => List.replicate 64 0
  | i + 1 => (secL k i).set i (sbyte k i)
def secS (k : Int) : ByteArray := strOfNums ((secL k 8).set 63 1)
theorem secL_len (k : Int) (i : Nat) : (secL k i).length = 64 := by
  induction i with
  | zero => exact List.length_replicate
  | succ i ih => show ((secL k i).set i _).length = 64; rw [List.length_set, ih]
theorem secS_size (k : Int) : (secS k).size = 64 := by
  unfold secS
  rw [strOfNums_size, List.length_set, secL_len]
set_option maxRecDepth 20000 in
set_option maxHeartbeats 4000000 in
theorem sec_any (k : Int) (w : World) : Calls Try.prog 25 #[.int .i64 k] w fun e w' => e = .returned (.string (secS k)) ∧ Below w.heap.size w w' := by
  have hmk := make64 w
  have P : ∀ W, _ := fun W => mod_any k 1099511627776 (by omega) (by omega) W
  have S0 := Lib.hid (sc_0 w)
  generalize hm : modOf k 1099511627776 = m at *
  have HM := Lib.hid hm
  clear hm
  go_enter Try.func25, Try.ntmps25
  go_wp2_with fail
  go_loopg [4] 8 (fun g vi wr => ∃ i : Nat, i + g = 8 ∧ vi = .int .i64 i ∧ Sc w wr (secL k i))
  case atStart => exact ⟨0, rfl, rfl, S0.out⟩
  case round =>
    clear S0
    obtain ⟨i, hi, rfl, hS⟩ := hrel
    have HS := Lib.hid hS
    by_cases hlt : i < 8
    · obtain ⟨g, rfl⟩ : ∃ g, gk = g + 1 := ⟨gk - 1, by omega⟩
      obtain ⟨v, hv⟩ := hS.cell i (by omega)
      have hf := hS.own.frozenAt i
      have HI := Lib.hid hi
      clear hi hS
      go_wp2_with (go_at_call 11; refine (P _).mono ?_; rintro e w1 ⟨rfl, rfl⟩)
      go_roundg g
      case measure => omega
      case rel => exact ⟨i + 1, by have := HI.out; omega, by go_num, by rw [← HM.out] at *; exact HS.out.set i _⟩
    · have h8 : i = 8 := by omega
      subst h8
      obtain ⟨v, hv⟩ := hS.cell 63 (by omega)
      have hf := hS.own.frozenAt 63
      clear hS
      have S9 := HS.out.set 63 1
      obtain ⟨o9, b9⟩ : _ ∧ _ := ⟨S9.own, S9.bel⟩
      have hcv := run_convert_bytes_arg (P := Try.prog) (wr.setCell ⟨w.heap.size, 63, none⟩ (.int .u8 1)) 46 5 Try.underlying46 Try.underlying5 w.heap.size 0 64 64 ((secL k 8).set 63 1) S9.len (fun j hj => by
        rw [Nat.zero_add, o9.cellAt j (by omega), List.getElem?_map, List.getD_eq_getElem?_getD, List.getElem?_eq_getElem (by rw [S9.len]; exact hj)]
        rfl) 9 Try.underlying9
      have E : Hid (strOfNums ((secL k 8).set 63 1) = secS k) := rfl
      clear S9 o9 HS
      generalize strOfNums ((secL k 8).set 63 1) = z at *
      have HB := Lib.hid b9
      clear b9
      go_wp2
      go_ret
      exact ⟨by rw [← E.out]; rfl, HB.out⟩
end Go.Proofs.Ytoafoikphpdimaa
