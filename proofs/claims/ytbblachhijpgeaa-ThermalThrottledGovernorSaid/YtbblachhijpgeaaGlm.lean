/- Limit and Current of the governor. -/
import Derived.Test.YtbblachhijpgeaaGov
namespace Go.Proofs.Ytbblachhijpgeaa
open Go.RowKit

theorem SlS.grown {K : IntKind} {w w' : World} {G n : Nat} {f : Nat → St} {b : Nat} (h : SlS K w (some ⟨G, 0, none⟩) n f) (hg : w.grownBy w' (some b)) (hne : G ≠ b) : SlS K w' (some ⟨G, 0, none⟩) n f := by
  refine ⟨h.len, ?_, h.wf⟩
  rcases h.row with h0 | ⟨b', off, hA, hlt, hc⟩
  · exact .inl h0
  · refine .inr ⟨b', off, hA, Nat.lt_of_lt_of_le hlt hg.size, fun i hi => ?_⟩
    have hb : b' = G := by injection hA with hA; injection hA with h1 _; exact h1.symm
    obtain ⟨c0, c1, c2⟩ := hc i hi
    have e : ∀ o, w'.cell? ⟨b', o, none⟩ = w.cell? ⟨b', o, none⟩ := fun o => World.cell?_of_block (hg.block b' hlt (fun x => by injection x with x; omega))
    rw [← e] at c0 c1 c2
    exact ⟨c0, c1, c2⟩
theorem row_field {w : World} {L T n c t : Nat} {s s' : GV} (j : Nat) (v : Nat) (h : w.rowIs L t 8 (gcell T n c s)) (hs : ∀ i, i < 8 → gcell T n c s' i = if i = j then .int .i64 (v : Int) else gcell T n c s i) :
    (w.setCell ⟨L, j, none⟩ (.int .i64 (v : Int))).rowIs L t 8 (gcell T n c s') :=
  (h.set j _).congr fun i hi => (hs i hi).symm
theorem row_lo {w : World} {L T n c t : Nat} {s : GV} (v : Nat) (h : w.rowIs L t 8 (gcell T n c s)) : (w.setCell ⟨L, 4, none⟩ (.int .i64 (v : Int))).rowIs L t 8 (gcell T n c { s with lo := v }) :=
  row_field 4 v h fun i hi => by
    match i, hi with
    | 0, _ | 1, _ | 2, _ | 3, _ | 4, _ | 5, _ | 6, _ | 7, _ => rfl
theorem row_hi {w : World} {L T n c t : Nat} {s : GV} (v : Nat) (h : w.rowIs L t 8 (gcell T n c s)) : (w.setCell ⟨L, 5, none⟩ (.int .i64 (v : Int))).rowIs L t 8 (gcell T n c { s with hi := v }) :=
  row_field 5 v h fun i hi => by
    match i, hi with
    | 0, _ | 1, _ | 2, _ | 3, _ | 4, _ | 5, _ | 6, _ | 7, _ => rfl
theorem row_cu {w : World} {L T n c t : Nat} {s : GV} (v : Nat) (h : w.rowIs L t 8 (gcell T n c s)) : (w.setCell ⟨L, 6, none⟩ (.int .i64 (v : Int))).rowIs L t 8 (gcell T n c { s with cu := v }) :=
  row_field 6 v h fun i hi => by
    match i, hi with
    | 0, _ | 1, _ | 2, _ | 3, _ | 4, _ | 5, _ | 6, _ | 7, _ => rfl
theorem row_lz {w : World} {L T n c t : Nat} {s : GV} (v : Nat) (h : w.rowIs L t 8 (gcell T n c s)) : (w.setCell ⟨L, 7, none⟩ (.int .i64 (v : Int))).rowIs L t 8 (gcell T n c { s with lz := v }) :=
  row_field 7 v h fun i hi => by
    match i, hi with
    | 0, _ | 1, _ | 2, _ | 3, _ | 4, _ | 5, _ | 6, _ | 7, _ => rfl
def limS (s : GV) (lo hi : Nat) : GV := { s with lo := lo, hi := hi, cu := min (max s.cu lo) hi, lz := 0 }
/-- A call that changed the governor at L to s'. -/
def GPost (t : TypeId) (L T n c : Nat) (s' : GV) (v : Value) (w : World) (e : Ending) (w' : World) : Prop :=
  e = .returned v ∧ w'.rowIs L t 8 (gcell T n c s') ∧ w.grownBy w' (some L)
theorem lim_bad (L T n c : Nat) (s : GV) (a b : Int) (w : World) (hR : w.rowIs L 102 8 (gcell T n c s)) (_hn : n ≤ 9223372036854775807) (h : a < 0 ∨ b < a ∨ (n : Int) ≤ b) :
    Calls Try.prog 22 #[.pointer (some ⟨L, 0, none⟩), .int .i64 a, .int .i64 b] w (GPost 102 L T n c s (.int .i64 1) w) := by
  have c0 := g_tb hR
  have HR := Lib.hid hR
  clear hR
  by_cases h1 : a < 0
  · clear h
    go_enter Try.func22, Try.ntmps22
    go_wp2
    go_ret
    exact ⟨rfl, HR.out, World.grownBy.refl _ _⟩
  by_cases h2 : b < a
  · clear h
    go_enter Try.func22, Try.ntmps22
    go_wp2
    go_ret
    exact ⟨rfl, HR.out, World.grownBy.refl _ _⟩
  · have h3 : (n : Int) ≤ b := by omega
    clear h
    go_enter Try.func22, Try.ntmps22
    go_wp2
    go_ret
    exact ⟨rfl, HR.out, World.grownBy.refl _ _⟩
set_option maxRecDepth 100000 in
set_option maxHeartbeats 2000000 in
theorem lim_good (L T n c : Nat) (s : GV) (a b : Nat) (w : World) (hR : w.rowIs L 102 8 (gcell T n c s)) (_hn : n ≤ 9223372036854775807) (h : a ≤ b ∧ b < n) :
    Calls Try.prog 22 #[.pointer (some ⟨L, 0, none⟩), .int .i64 (a : Nat), .int .i64 (b : Nat)] w (GPost 102 L T n c (limS s a b) (.int .i64 0) w) := by
  have c0 := g_tb hR
  have c4 := g_lo hR
  have c5 := g_hi hR
  have c6 := g_cu hR
  have c7 := g_lz hR
  have z4 := hR.frozen 4
  have z5 := hR.frozen 5
  have z6 := hR.frozen 6
  have z7 := hR.frozen 7
  obtain ⟨h1, h2⟩ := h
  have hLw := hR.lt
  have R4 := Lib.hid (row_lz 0 (row_cu (min (max s.cu a) b) (row_hi b (row_lo a hR))))
  have G4 := Lib.hid (g_then (g_then (g_then (g_store w L 4 (.int .i64 (a : Nat))) (g_store _ L 5 (.int .i64 (b : Nat)))) (g_store _ L 6 (.int .i64 (min (max s.cu a) b : Nat)))) (g_store _ L 7 (.int .i64 (0 : Nat))))
  have E := Lib.hid (show limS s a b = { s with lo := a, hi := b, cu := min (max s.cu a) b, lz := 0 } from rfl)
  generalize hM : min (max s.cu a) b = M at *
  have HM := Lib.hid hM
  clear hM hR
  generalize s.cu = cu at *
  generalize s.lo = lo0 at *
  generalize s.hi = hi0 at *
  generalize s.lz = lz0 at *
  rcases Nat.lt_or_ge cu a with k1 | k1
  · have HMa : M = a := by rw [← HM.out]; omega
    subst HMa
    go_enter Try.func22, Try.ntmps22
    go_wp2
    go_ret
    exact ⟨rfl, by rw [E.out]; exact R4.out, G4.out⟩
  · rcases Nat.lt_or_ge b cu with k2 | k2
    · have HMa : M = b := by rw [← HM.out]; omega
      subst HMa
      go_enter Try.func22, Try.ntmps22
      go_wp2
      go_ret
      exact ⟨rfl, by rw [E.out]; exact R4.out, G4.out⟩
    · have HMa : M = cu := by rw [← HM.out]; omega
      subst HMa
      go_enter Try.func22, Try.ntmps22
      go_wp2
      go_ret
      exact ⟨rfl, by rw [E.out]; exact R4.out, G4.out⟩
/-- What a sample does. -/
def smpS (f : Nat → St) (s : GV) (x : Nat) : GV :=
  if s.up < x then { s with cu := s.hi, lz := 0 } else if x < s.dn then (if s.sp ≤ s.lz + 1 then { s with lz := 0, cu := suf f s.up (x * (f s.cu).a) s.lo s.cu } else { s with lz := s.lz + 1 }) else { s with lz := 0 }
theorem smp_bad (L T n c : Nat) (s : GV) (a : Int) (w : World) (hR : w.rowIs L 102 8 (gcell T n c s)) (h : a < 0 ∨ 100 < a) :
    Calls Try.prog 23 #[.pointer (some ⟨L, 0, none⟩), .int .i64 a] w (GPost 102 L T n c s (.tuple #[.int .i64 0, .int .i64 1]) w) := by
  have HR := Lib.hid hR
  clear hR
  by_cases h1 : a < 0
  · clear h
    go_enter Try.func23, Try.ntmps23
    go_wp2
    go_ret2
    exact ⟨rfl, HR.out, World.grownBy.refl _ _⟩
  · have h3 : 100 < a := by omega
    clear h
    go_enter Try.func23, Try.ntmps23
    go_wp2
    go_ret2
    exact ⟨rfl, HR.out, World.grownBy.refl _ _⟩
set_option maxRecDepth 100000 in
set_option maxHeartbeats 2000000 in
theorem smp_good (L T n c : Nat) (s : GV) (f : Nat → St) (x : Nat) (w : World) (hR : w.rowIs L 102 8 (gcell T n c s)) (hS : SlS .u64 w (some ⟨T, 0, none⟩) n f) (hk : GOk n s) (hx : x ≤ 100) (hTL : T ≠ L)
    (hv : ∀ i, i < n → (f i).a ≤ 1099511627776) :
    Calls Try.prog 23 #[.pointer (some ⟨L, 0, none⟩), .int .i64 (x : Nat)] w (GPost 102 L T n c (smpS f s x) (.tuple #[.int .i64 ((smpS f s x).cu : Nat), .int .i64 0]) w) := by
  have c1 := g_up hR
  have c2 := g_dn hR
  have c3 := g_sp hR
  have c5 := g_hi hR
  have c6 := g_cu hR
  have c7 := g_lz hR
  have z6 := hR.frozen 6
  have z7 := hR.frozen 7
  have hLw := hR.lt
  have E := Lib.hid (show smpS f s x = if s.up < x then { s with cu := s.hi, lz := 0 } else if x < s.dn then (if s.sp ≤ s.lz + 1 then { s with lz := 0, cu := suf f s.up (x * (f s.cu).a) s.lo s.cu } else { s with lz := s.lz + 1 }) else { s with lz := 0 } from rfl)
  have HR := Lib.hid hR
  have HS := Lib.hid hS
  have HK := Lib.hid hk
  obtain ⟨⟨k1, k2⟩, k3, ⟨k4, k5⟩, k6, k7, k8, k9⟩ := hk
  have hn := hS.len
  clear hR hS
  generalize smpS f s x = s1 at *
  obtain ⟨up, dn, sp, lo, hi, cu, lz⟩ := s
  simp only at *
  by_cases h1 : up < x
  · rw [if_pos h1] at E
    have HR2 := Lib.hid (row_lz 0 (row_cu hi HR.out))
    have HG2 := Lib.hid (g_then (g_store w L 6 (.int .i64 (hi : Nat))) (g_store _ L 7 (.int .i64 (0 : Nat))))
    go_enter Try.func23, Try.ntmps23
    go_wp2
    go_ret2
    exact ⟨by rw [E.out]; rfl, by rw [E.out]; exact HR2.out, HG2.out⟩
  · rw [if_neg h1] at E
    by_cases h2 : x < dn
    · rw [if_pos h2] at E
      by_cases h3 : sp ≤ lz + 1
      · rw [if_pos h3] at E
        have i1 : (sp : Int) ≤ (lz : Int) + 1 := by omega
        have HR1 := row_lz (lz + 1) HR.out
        have HG1 := g_store w L 7 (.int .i64 (lz + 1 : Nat))
        have hSL := HS.out.lt (by omega)
        have HS1 := HS.out.grown HG1 hTL
        rw [show ((lz + 1 : Nat) : Int) = (lz : Int) + 1 from by omega] at HR1 HG1 HS1
        have HR1 := Lib.hid HR1
        have HG1 := Lib.hid HG1
        have HS1 := Lib.hid HS1
        go_enter Try.func23, Try.ntmps23
        go_wp2_with fail
        go_quiet (fail)
        have HR1 := row_below HR1.out (below_drewN (Below.refl _ _) nq) (Nat.le_refl _)
        have HG1 := g_drewN HG1.out nq
        have HS1 := HS1.out.below (below_drewN (Below.refl _ _) nq) (Nat.le_refl _)
        generalize (w.setCell ⟨L, 7, none⟩ (.int .i64 ((lz : Int) + 1))).drewN nq = W1 at *
        clear c1 c2 c3 c5 c6 c7 z6 z7
        have z7 := HR1.frozen 7
        have c7 := g_lz HR1
        have hL1 := HR1.lt
        have HR2 := row_lz 0 HR1
        have HG2 := g_then HG1 (g_store W1 L 7 (.int .i64 (0 : Nat)))
        have HS2 := HS1.grown (g_store W1 L 7 (.int .i64 (0 : Nat))) hTL
        rw [show ((0 : Nat) : Int) = 0 from rfl] at HR2 HG2 HS2
        have HR2 := Lib.hid HR2
        have HG2 := Lib.hid HG2
        have HS2 := Lib.hid HS2
        clear HR1 HG1 HS1
        go_upto_region 11 with fail
        have HR2 := HR2.out
        have HG2 := HG2.out
        have HS2 := HS2.out
        generalize W1.setCell ⟨L, 7, none⟩ (.int .i64 0) = W2 at *
        clear z7 c7 hL1
        have SU := suf_any L T n c ⟨up, dn, sp, lo, hi, cu, 0⟩ f x W2 HR2 HS2 ⟨⟨k1, k2⟩, k3, ⟨k4, k5⟩, by simp only; omega, k7, k8, k9⟩ hx hv
        have HR2 := Lib.hid HR2
        have HG2 := Lib.hid HG2
        clear HS2
        go_wp2_with fail
        refine SU.mono ?_
        rintro e W3 ⟨rfl, b3⟩
        clear SU
        have HR3 := row_below HR2.out b3 (Nat.le_refl _)
        have HG3 := g_below HG2.out b3
        simp only at *
        generalize suf f up (x * (f cu).a) lo cu = cu2 at *
        have z6 := HR3.frozen 6
        have c6 := g_cu HR3
        have hL3 := HR3.lt
        have HR4 := Lib.hid (row_cu cu2 HR3)
        have HG4 := Lib.hid (g_then HG3 (g_store W3 L 6 (.int .i64 (cu2 : Nat))))
        clear HR3 HG3
        go_wp2
        go_ret2
        exact ⟨by rw [E.out]; rfl, by rw [E.out]; exact HR4.out, HG4.out⟩
      · rw [if_neg h3] at E
        have HR2 := Lib.hid (row_lz (lz + 1) HR.out)
        have HG2 := Lib.hid (g_store w L 7 (.int .i64 (lz + 1 : Nat)))
        have i1 : (lz : Int) + 1 < sp := by omega
        go_enter Try.func23, Try.ntmps23
        go_wp2_with fail
        go_quiet (fail)
        go_wp2
        go_ret2
        exact ⟨by rw [E.out]; rfl, by rw [E.out]; exact HR2.out, g_drewN HG2.out _⟩
    · rw [if_neg h2] at E
      have HR2 := Lib.hid (row_lz 0 HR.out)
      have HG2 := Lib.hid (g_store w L 7 (.int .i64 (0 : Nat)))
      go_enter Try.func23, Try.ntmps23
      go_wp2
      go_ret2
      exact ⟨by rw [E.out]; rfl, by rw [E.out]; exact HR2.out, HG2.out⟩
end Go.Proofs.Ytbblachhijpgeaa
