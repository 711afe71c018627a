/- The reference's Update. -/
import Derived.Test.YtopbfnnmgckikaaUpd
namespace Go.Proofs.Ytopbfnnmgckikaa
open Go.RowKit

theorem Zm.drewN {t : TypeId} {w0 w : World} {Z O : Nat} {TA : Option Addr} {tc n : Nat} {f : Nat → St} {lv a : Int} {on : Nat → Bool} {T : Int} {k : Nat} (h : Zm t w0 w Z O TA tc n f lv a on T k) (m : Nat) : Zm t w0 (w.drewN m) Z O TA tc n f lv a on T k :=
  ⟨h.row.of_block rfl, h.tr.chg ((Chg.refl (fun _ => False) w).drewN m) (fun _ _ _ x => x), h.ta, h.orow.of_block rfl, h.ne, h.chg.drewN m⟩
set_option maxRecDepth 100000 in
set_option maxHeartbeats 8000000 in
theorem rupd_any (Z O : Nat) (TA : Option Addr) (tc n : Nat) (f : Nat → St) (lv a : Int) (on : Nat → Bool) (T : Int) (w : World) (h : Zn 72 w Z O TA tc n f lv a on) (hg : GT n f lv a) (h1 : -134217728 ≤ T) (h2 : T ≤ 134217728) :
    Calls Try.prog 23 #[.pointer (some ⟨Z, 0, none⟩), .int .i64 T] w (UpP 72 w Z O TA tc n f lv a on T) := by
  have START : Hid (Zm 72 w w Z O TA tc n f lv a on T 0) := zm_start h
  have hn := hg.len
  have HG := Lib.hid hg
  clear h hg
  go_enter Try.func23, Try.ntmps23
  go_wp2_with fail
  go_loopg [9, 7, 8] (n + 1) (fun g vi vp vq wr => ∃ k : Nat, k + g = n + 1 ∧ k ≤ n ∧ vi = .int .i64 k ∧ vp = .bool (pasK f (updO T f on) 2 k) ∧ vq = .bool (pasK f (updO T f on) 3 k) ∧ Zm 72 w wr Z O TA tc n f lv a on T k)
  case atStart => exact ⟨0, by omega, by omega, rfl, rfl, rfl, START.out⟩
  case round =>
    clear START
    obtain ⟨k, hkg, hkn, rfl, rfl, rfl, hZ⟩ := hrel
    by_cases hlt : k < n
    · obtain ⟨g, rfl⟩ : ∃ g, gk = g + 1 := ⟨gk - 1, by omega⟩
      rcases hZ.tr.row with h0 | ⟨b, off, rfl, hb, hc⟩
      · omega
      obtain ⟨c0, c1, c2⟩ := hc k hlt
      obtain ⟨k1, k2, k3, k4, k5, k6⟩ := HG.out.ok k hlt
      have PN2 : Hid (pasK f (updO T f on) 2 (k + 1) = (pasK f (updO T f on) 2 k || (updO T f on k && (f k).a == 2))) := rfl
      have PN3 : Hid (pasK f (updO T f on) 3 (k + 1) = (pasK f (updO T f on) 3 k || (updO T f on k && (f k).a == 3))) := rfl
      have UE : Hid (updO T f on k = if (f k).b ≤ T then true else if T < (f k).b - (f k).c then false else on k) := rfl
      have STR : Hid (∀ W, Zm 72 w W Z O (some ⟨b, off, none⟩) tc n f lv a on T k → Zm 72 w (W.setCell ⟨O, k, none⟩ (.bool (updO T f on k))) Z O (some ⟨b, off, none⟩) tc n f lv a on T (k + 1)) := fun W h => h.store _ rfl
      have SKP : Hid (∀ W, Zm 72 w W Z O (some ⟨b, off, none⟩) tc n f lv a on T k → updO T f on k = on k → Zm 72 w W Z O (some ⟨b, off, none⟩) tc n f lv a on T (k + 1)) := fun W h e => h.skip e
      have FACT : Hid (∀ W, Zm 72 w W Z O (some ⟨b, off, none⟩) tc n f lv a on T (k + 1) → W.cell? ⟨Z, 0, none⟩ = some (.slice (some ⟨b, off, none⟩) n tc) ∧ W.cell? ⟨Z, 1, none⟩ = some (.slice (some ⟨O, 0, none⟩) n n) ∧ W.cell? ⟨O, k, none⟩ = some (.bool (updO T f on k)) ∧ W.cell? ⟨b, off + k * 3, none⟩ = some (.int .i64 (f k).a) ∧ Z < W.heap.size ∧ O < W.heap.size ∧ b < W.heap.size) := fun W h => ⟨h.row.cell (show 0 < 4 by omega), h.row.cell (show 1 < 4 by omega), by
        have := h.orow.cell hlt
        have e : mixO T f on (k + 1) k = updO T f on k := by unfold mixO; rw [if_pos (by omega)]
        rw [e] at this
        exact this, by
        rcases h.tr.row with h0 | ⟨b', off', e, _, hc'⟩
        · omega
        · injection e with e
          injection e with e1 e2
          subst e1 e2
          exact (hc' k hlt).1, h.row.lt, h.orow.lt, by
        rcases h.tr.row with h0 | ⟨b', off', e, hb', _⟩
        · omega
        · injection e with e
          injection e with e1 e2
          subst e1
          exact hb'⟩
      have hOc := hZ.orow.cell hlt
      have hmk : mixO T f on k k = on k := by unfold mixO; rw [if_neg (by omega)]
      rw [hmk] at hOc
      have hOl := hZ.orow.lt
      have hOf := hZ.orow.frozen k
      have z0 : wr.cell? ⟨Z, 0, none⟩ = some (.slice (some ⟨b, off, none⟩) n tc) := hZ.row.cell (show 0 < 4 by omega)
      have z1 : wr.cell? ⟨Z, 1, none⟩ = some (.slice (some ⟨O, 0, none⟩) n n) := hZ.row.cell (show 1 < 4 by omega)
      have hZl := hZ.row.lt
      have M2 := Lib.hid hZ
      clear hc hmk hZ
      generalize pasK f (updO T f on) 2 k = p at *
      generalize pasK f (updO T f on) 3 k = q at *
      generalize updO T f on k = v at *
      generalize hon : on k = onk at *
      clear hon
      generalize f k = s at *
      obtain ⟨x, y, z⟩ := s
      simp only at c0 c1 c2 k1 k2 k3 k4 k5 k6 UE PN2 PN3 FACT
      by_cases t1 : y ≤ T
      · have hv : v = true := by rw [UE.out, if_pos t1]
        subst hv
        have HM := STR.out _ M2.out
        go_upto_region 11 with fail
        generalize wr.setCell ⟨O, k, none⟩ (.bool true) = W2 at *
        clear c0 c1 c2 hOc hOf z0 z1 hOl hZl hb M2 UE
        have HM := Lib.hid HM
        obtain ⟨z0', z1', oc', k0', hZl', hOl', hbl'⟩ := FACT.out W2 HM.out
        clear FACT STR SKP
        cases p <;> cases q
        all_goals
          go_wp2
          go_roundg g
          case measure => omega
          case rel => exact ⟨k + 1, by omega, by omega, rfl, by rw [PN2.out]; rfl, by rw [PN3.out]; rfl, HM.out⟩
      by_cases t2 : T < y - z
      · have hv : v = false := by rw [UE.out, if_neg t1, if_pos t2]
        subst hv
        go_upto_region 9 with fail
        have hwr : IntKind.i64.wrap (y - z) = y - z := IntWalk.i64_in _ (by omega)
        go_quiet (fail)
        clear hwr
        have HM := STR.out _ (M2.out.drewN nq)
        go_upto_region 11 with fail
        generalize (wr.drewN nq).setCell ⟨O, k, none⟩ (.bool false) = W2 at *
        clear c0 c1 c2 hOc hOf z0 z1 hOl hZl hb M2 UE
        have HM := Lib.hid HM
        obtain ⟨z0', z1', oc', k0', hZl', hOl', hbl'⟩ := FACT.out W2 HM.out
        clear FACT STR SKP
        cases p <;> cases q
        all_goals
          go_wp2
          go_roundg g
          case measure => omega
          case rel => exact ⟨k + 1, by omega, by omega, rfl, by rw [PN2.out]; rfl, by rw [PN3.out]; rfl, HM.out⟩
      · have hv : v = onk := by rw [UE.out, if_neg t1, if_neg t2]
        have HV := Lib.hid hv
        clear hv
        go_upto_region 9 with fail
        have hwr : IntKind.i64.wrap (y - z) = y - z := IntWalk.i64_in _ (by omega)
        go_quiet (fail)
        clear hwr
        have HM := SKP.out _ (M2.out.drewN nq) HV.out
        go_upto_region 11 with fail
        generalize wr.drewN nq = W2 at *
        clear c0 c1 c2 hOc hOf z0 z1 hOl hZl hb M2 UE HV
        have HM := Lib.hid HM
        obtain ⟨z0', z1', oc', k0', hZl', hOl', hbl'⟩ := FACT.out W2 HM.out
        clear FACT STR SKP
        cases p <;> cases v <;> cases q
        all_goals
          go_wp2
          go_roundg g
          case measure => omega
          case rel => exact ⟨k + 1, by omega, by omega, rfl, by rw [PN2.out]; rfl, by rw [PN3.out]; rfl, HM.out⟩
    · have hkn2 : k = n := by omega
      have zl := hZ.row.lt
      have zt : wr.cell? ⟨Z, 0, none⟩ = some (.slice TA n tc) := hZ.row.cell (show 0 < 4 by omega)
      have z2 : wr.cell? ⟨Z, 2, none⟩ = some (.int .i64 lv) := hZ.row.cell (show 2 < 4 by omega)
      have z3 : wr.cell? ⟨Z, 3, none⟩ = some (.int .i64 a) := hZ.row.cell (show 3 < 4 by omega)
      have zf := hZ.row.frozen 3
      have g1 := HG.out.a0
      have g2 := HG.out.al
      have g3 := HG.out.l64
      have FIN : Hid (∀ x, x = nxt (pasK f (updO T f on) 2 k) a lv → UpP 72 w Z O TA tc n f lv a on T (.returned (.tuple #[.int .i64 x, .bool (pasK f (updO T f on) 3 k), .int .i64 0])) (wr.setCell ⟨Z, 3, none⟩ (.int .i64 x))) := by
        rw [hkn2] at hZ ⊢
        intro x hx
        obtain ⟨q1, q2⟩ := zm_end x hZ
        subst hx
        exact ⟨rfl, q1, q2⟩
      clear hZ hkn2
      generalize pasK f (updO T f on) 2 k = p at *
      generalize pasK f (updO T f on) 3 k = q at *
      cases p
      · by_cases q1 : a - 1 < 0
        · have F := Lib.hid (FIN.out 0 (by show (0 : Int) = max (a - 1) 0; omega))
          clear FIN
          go_wp2
          go_ret3
          exact F.out
        · have F := Lib.hid (FIN.out (a - 1) (by show a - 1 = max (a - 1) 0; omega))
          clear FIN
          go_wp2
          go_ret3
          exact F.out
      · by_cases q1 : lv < a + 1
        · have F := Lib.hid (FIN.out lv (by show lv = min (a + 1) lv; omega))
          clear FIN
          go_wp2_with fail
          have hwr : IntKind.i64.wrap (a + 1) = a + 1 := IntWalk.i64_in _ (by omega)
          go_still_tail 12, (by kernel_rfl)
          clear hwr
          go_wp2
          go_ret3
          exact F.out.drew
        · have F := Lib.hid (FIN.out (a + 1) (by show a + 1 = min (a + 1) lv; omega))
          clear FIN
          go_wp2_with fail
          have hwr : IntKind.i64.wrap (a + 1) = a + 1 := IntWalk.i64_in _ (by omega)
          go_still_tail 12, (by kernel_rfl)
          clear hwr
          go_wp2
          go_ret3
          exact F.out.drew
end Go.Proofs.Ytopbfnnmgckikaa
