/- Page gives a string of 256 bytes. -/
import Derived.Test.YtpfaicdoaldioaaCmp
import Derived.Deep.LoopGhost
import Derived.Deep.CutBlock
namespace Go.Proofs.Ytpfaicdoaldioaa
open Go.ChangeShapes Go.WideShapes Go.ChangeAt Go.RowKit Go.Deep Go.Joins

theorem make256 (w : World) : (Instr.makeSlice 31 (.int .i64 256) (.int .i64 256)).run Try.prog w = .ok (.slice (some ⟨w.heap.size, 0, none⟩) 256 256) (w.alloc (.cells (madeCells #[.int .u8 0] 256) 5)) :=
  run_make_row' 31 5 (.int .u8 0) 1 Try.underlying31 info5 rfl .i64 .i64 256 (by decide) (by decide) w
structure Pg (w wr : World) (L : List Int) : Prop where
  len : L.length = 256
  own : wr.ownsRow w.heap.size 5 1 (.slice (some ⟨w.heap.size, 0, none⟩) 256 256) 256 (L.map (Value.int .u8))
  bel : Below w.heap.size w wr
theorem pg_0 (w : World) : Pg w (w.alloc (.cells (madeCells #[.int .u8 0] 256) 5)) (List.replicate 256 0) := by
  refine ⟨List.length_replicate, ?_, bal (Below.refl _ _) _⟩
  have := World.ownsRow_lit (base := w.heap.size) (e := 5) (size := 1) w (madeCells #[Value.int IntKind.u8 0] 256) 256 (Nat.le_refl _) (by unfold maxLen; omega) (by kernel_rfl)
  rw [toList_madeCells_one] at this
  rw [List.map_replicate]
  exact this
theorem Pg.set {w wr : World} {L : List Int} (h : Pg w wr L) (k : Nat) (x : Int) : Pg w (wr.setCell ⟨w.heap.size, k, none⟩ (.int .u8 x)) (L.set k x) := by
  obtain ⟨o, g⟩ := h.own.stored k (.int .u8 x)
  rw [← List.map_set] at o
  exact ⟨by simp [h.len], o, h.bel.grown g (by have := h.bel.size; omega) (fun j hj => by injection hj with hj; omega)⟩
theorem Pg.cell {w wr : World} {L : List Int} (h : Pg w wr L) (k : Nat) (hk : k < 256) : ∃ v, wr.cell? ⟨w.heap.size, k, none⟩ = some v := by
  refine ⟨.int .u8 (L.getD k 0), ?_⟩
  rw [h.own.cellAt k (by omega), List.getElem?_map, List.getD_eq_getElem?_getD, List.getElem?_eq_getElem (by rw [h.len]; exact hk)]
  rfl
def PgP (w : World) (e : Ending) (w' : World) : Prop := ∃ p : ByteArray, p.size = 256 ∧ e = .returned (.string p) ∧ Below w.heap.size w w'
set_option maxRecDepth 20000 in
set_option maxHeartbeats 4000000 in
theorem page_any (A : Option Addr) (n c : Nat) (Z : Nat → Int) (s : Int) (w : World) (h : Ns .u32 w A n Z) (hn : n ≤ 64) (hs : 0 ≤ s ∧ s < 256) : Calls Try.prog 13 #[.slice A n c, .int .u8 s] w (PgP w) := by
  have m1 := make256 w
  have hs4 : s.tmod 4 = s % 4 := Int.tmod_eq_emod_of_nonneg hs.1
  have HN := Lib.hid h
  clear h
  go_enter Try.func13, Try.ntmps13
  go_wp2_with fail
  have P0 := Lib.hid (pg_0 w)
  clear m1
  generalize hw0 : w.alloc _ = w0 at *
  clear hw0
  go_loopg [6] 64 (fun g vi wr => ∃ i : Nat, ∃ L : List Int, i + g = 64 ∧ vi = .int .i64 i ∧ Pg w wr L)
  case atStart => exact ⟨0, _, rfl, rfl, P0.out⟩
  case round =>
    clear P0
    obtain ⟨i, L, hi, rfl, hP⟩ := hrel
    by_cases hlt : i < 64 ∧ 0 < n
    · obtain ⟨g, rfl⟩ : ∃ g, gk = g + 1 := ⟨gk - 1, by omega⟩
      obtain ⟨hlt, hn0⟩ := hlt
      have HG := Lib.hid hi
      have HP := Lib.hid hP
      clear hi hP
      go_upto_if 23 with fail
      go_cut [7] (fun v wx => ∃ k : Nat, v = .int .i64 k ∧ k < 64 ∧ wr = wx)
      case first =>
        have hm : ((i : Int)).tmod (1 + s) = ((i % (1 + s).toNat : Nat) : Int) := by
          rw [Int.tmod_eq_emod_of_nonneg (by omega), Int.natCast_emod, show (((1 + s).toNat : Nat) : Int) = 1 + s by omega]
        have hmb : i % (1 + s).toNat < 64 := Nat.lt_of_le_of_lt (Nat.mod_le _ _) hlt
        generalize i % (1 + s).toNat = k at *
        by_cases hq : 0 < s % 4
        · go_wp2
          go_meet
          exact ⟨k, by go_num, hmb, rfl⟩
        · go_wp2
          go_meet
          exact ⟨i, rfl, hlt, rfl⟩
      case rest =>
        obtain ⟨k, rfl, hk, rfl⟩ := hcut
        go_upto_if 32 with fail
        go_cut [8] (fun v wx => ∃ x : Int, v = .int .u32 x ∧ wr = wx)
        case first =>
          by_cases hkn : k < n
          · obtain ⟨b, off, rfl, hc⟩ := HN.out.at HP.out.bel (Nat.le_refl _) hkn
            generalize Z k = x at *
            go_wp2
            go_meet
            exact ⟨x, rfl, rfl⟩
          · go_wp2
            go_meet
            exact ⟨0, rfl, rfl⟩
        case rest =>
          obtain ⟨x, rfl, rfl⟩ := hcut
          go_upto_region 11 with fail
          go_cut [41] (fun v wx => ∃ y : Int, v = .int .i64 y ∧ wr = wx)
          case first =>
            have hm : (s + (i : Int)).tmod 7 = (s + i) % 7 := Int.tmod_eq_emod_of_nonneg (by omega)
            go_wp2
            go_meet
            exact ⟨_, rfl, rfl⟩
          case rest =>
            obtain ⟨y, rfl, rfl⟩ := hcut
            apply_assumption
            go_cut [8] (fun v wx => ∃ x : Int, v = .int .u32 x ∧ wr = wx)
            case first =>
              by_cases h0 : y = 0
              · subst h0
                go_wp2
                go_meet
                exact ⟨_, rfl, rfl⟩
              have e0 : (y == 0) = false := beq_eq_false_iff_ne.2 h0
              by_cases h1 : y = 1
              · subst h1
                go_wp2
                go_meet
                exact ⟨_, rfl, rfl⟩
              have e1 : (y == 1) = false := beq_eq_false_iff_ne.2 h1
              by_cases h2 : y = 2
              · subst h2
                go_wp2
                go_meet
                exact ⟨_, rfl, rfl⟩
              have e2 : (y == 2) = false := beq_eq_false_iff_ne.2 h2
              go_wp2
              go_meet
              exact ⟨_, rfl, rfl⟩
            case rest =>
              obtain ⟨x, rfl, rfl⟩ := hcut
              go_wp2_with fail
              go_loopg [9] 4 (fun g2 vj wx => ∃ j : Nat, ∃ L : List Int, j + g2 = 4 ∧ vj = .int .i64 j ∧ Pg w wx L)
              case atStart => exact ⟨0, L, rfl, rfl, HP.out⟩
              case round =>
                clear HP
                obtain ⟨j, L2, hj, rfl, hP2⟩ := hrel
                have HP2 := Lib.hid hP2
                by_cases hj4 : j < 4
                · obtain ⟨v, hv⟩ := hP2.cell (4 * i + j) (by omega)
                  have hf := hP2.own.frozenAt (4 * i + j)
                  have HJ := Lib.hid hj
                  obtain ⟨g3, rfl⟩ : ∃ g3, gk = g3 + 1 := ⟨gk - 1, by omega⟩
                  clear hP2 hj
                  go_wp2_with fail
                  go_roundg g3
                  case measure => omega
                  case rel => exact ⟨j + 1, _, by have := HJ.out; omega, by go_num, HP2.out.set (4 * i + j) _⟩
                · have HJ := Lib.hid hj
                  clear hP2 hj
                  go_wp2_with fail
                  go_roundg g
                  case measure => omega
                  case rel => exact ⟨i + 1, L2, by have := HG.out; omega, by go_num, HP2.out⟩
    · have hlt2 : i = 64 ∨ (i < 64 ∧ n = 0) := by omega
      have hO := hP.own
      have hcv := run_convert_bytes_arg (P := Try.prog) wr 31 5 Try.underlying31 Try.underlying5 w.heap.size 0 256 256 L hP.len (fun j hj => by
        rw [Nat.zero_add, hO.cellAt j (by omega), List.getElem?_map, List.getD_eq_getElem?_getD, List.getElem?_eq_getElem (by rw [hP.len]; exact hj)]
        rfl) 9 Try.underlying9
      have HZ : Hid ((strOfNums L).size = 256) := by show _ = _; rw [son_size]; exact hP.len
      have HB := Lib.hid hP.bel
      clear hP hO hlt HN
      generalize strOfNums L = z at *
      rcases hlt2 with h64 | ⟨hlt, rfl⟩
      · have h3 : ¬ (i : Int) < 64 := by omega
        clear h64 hi
        go_wp2
        go_ret
        exact ⟨z, HZ.out, rfl, HB.out⟩
      · clear hi
        go_wp2
        go_ret
        exact ⟨z, HZ.out, rfl, HB.out⟩
end Go.Proofs.Ytpfaicdoaldioaa
