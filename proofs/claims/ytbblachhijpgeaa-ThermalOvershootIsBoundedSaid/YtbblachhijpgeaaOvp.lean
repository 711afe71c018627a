/- Overshoot: pure facts, and a step that tells the energy. -/
import Derived.Test.YtbblachhijpgeaaOne
import Derived.Test.YtbblachhijpgeaaFpu
namespace Go.Proofs.Ytbblachhijpgeaa
open Go.ChangeShapes Go.WideShapes Go.ChangeAt Go.RowKit Go.Deep Go.Joins

/-- The energy behind a step. -/
def nxE (c a s z E : Int) : Int := E + (z - a * (E / c - s))
def S1X (w : World) (h : Mo) (top o e0 z : Int) (e : Ending) (w' : World) : Prop :=
  ∃ (ab ao c : Nat) (E' : Nat → Int) (o' : Int), e = .returned (.tuple #[.slice (some ⟨ab, ao, none⟩) 1 c, .int .i64 0]) ∧ w'.cell? ⟨ab, ao, none⟩ = some (.int .i64 (E' 0 / (h.D 0).c)) ∧ ab < w'.heap.size ∧ h.s ≤ E' 0 / (h.D 0).c ∧ E' 0 / (h.D 0).c ≤ top ∧
    E' 0 = nxE (h.D 0).c (h.D 0).a h.s z e0 ∧ Hm w' (h.at E' o') ∧ Inv (h.at E' o') top ∧ o ≤ o' ∧ o' ≤ o + 12000 ∧ Chg h.wr w w'
theorem step1x {w : World} {h : Mo} {E : Nat → Int} {o top z : Int} {Y c : Nat} (hn : h.n = 1) (hm : h.m = 0) (s1 : -100 ≤ h.s) (s2 : h.s ≤ 100) (ht : top ≤ h.s + 1000) (k : Hm w (h.at E o)) (I : Inv (h.at E o) top) (o1 : 0 ≤ o) (o2 : o ≤ 1000000000)
    (hY : Fl w (some ⟨Y, 0, none⟩) 1 1 (eV fun _ => z)) (z0 : 0 ≤ z) (z1 : z ≤ (h.D 0).a * (top - h.s)) (z2 : z ≤ 16777216) (hYL : ¬ h.wr Y) :
    Calls Try.prog 13 #[.pointer (some ⟨h.L, 0, none⟩), .slice (some ⟨Y, 0, none⟩) 1 c] w (S1X w h top o (E 0) z) := by
  have HS : (h.at E o).s = h.s := rfl
  have R : Rg (h.at E o) (fun _ => z) := I.rg s1 (by rw [HS]; omega) (by rw [HS]; omega) (by show h.m ≤ 12; omega) (fun _ _ => ⟨z0, z2⟩) (by show _ ≤ o; omega) (by show o ≤ _; omega)
  have S := stp_any k (some ⟨Y, 0, none⟩) c (fun _ => z) (by rw [show (h.at E o).n = 1 from hn]; exact hY) R (fun a e => by injection e with e; subst e; exact hYL)
  rw [show (h.at E o).n = 1 from hn] at S
  have I2 := I.step (Z := fun _ => z) (fun i hi => by
    have hi : i < h.n := hi
    rw [hn] at hi
    obtain rfl : i = 0 := by omega
    exact ⟨z0, z1⟩)
  have O := I.ou (by rw [HS]; omega) 1 (by show 1 ≤ h.n; omega)
  have EE : ((h.at E o).stp (fun _ => z)).E 0 = nxE (h.D 0).c (h.D 0).a h.s z (E 0) := by
    show (h.at E o).e1 (fun _ => z) 0 + (h.at E o).flK h.m 0 = _
    rw [hm]
    show E 0 + (z - (h.D 0).a * (E 0 / (h.D 0).c - h.s)) + 0 = E 0 + (z - (h.D 0).a * (E 0 / (h.D 0).c - h.s))
    omega
  refine S.mono ?_
  rintro e w' ⟨v, rfl, hT, hK, hC⟩
  rw [show (h.at E o).n = 1 from hn] at hT
  obtain ⟨A, c', rfl, hF, hA⟩ := hT
  obtain ⟨b, off, rfl, hb, hc⟩ := hF.eat (show 0 < 1 by omega)
  rw [at_stp] at hK I2
  have T := I2.T (i := 0) (by show 0 < h.n; omega)
  refine ⟨b, off, c', _, _, rfl, hc, hb, T.1, T.2, EE, hK, I2, ?_, ?_, hC⟩
  · show o ≤ o + (h.at E o).ouK (h.at E o).n
    rw [show (h.at E o).n = 1 from hn]
    omega
  · show o + (h.at E o).ouK (h.at E o).n ≤ _
    rw [show (h.at E o).n = 1 from hn]
    omega
/-- While the domain is too hot, its excess is bounded by the level. -/
def Ovi (c a trip G E lv : Int) : Prop := c * trip ≤ E → E - c * trip ≤ a - 1 + lv * G
theorem ov_up {c a s trip low top n lv p E : Int} (a1 : 1 ≤ a) (ac : a ≤ c) (hl : low = a * (trip - s)) (lt : low ≤ top) (l0 : 0 ≤ lv) (p2 : p ≤ top) (pn : lv = n → p = low) (n1 : 1 ≤ n) (ln : lv ≤ n)
    (I : Ovi c a trip (top - low) E lv) : nxE c a s p E - c * trip ≤ a - 1 + (min (lv + 1) n) * (top - low) := by
  have r0 := Int.emod_nonneg E (show c ≠ 0 by omega)
  have r1 := Int.emod_lt_of_pos E (show 0 < c by omega)
  have re : E % c + c * (E / c) = E := Int.emod_add_mul_ediv _ _
  unfold nxE
  generalize E / c = q at *
  generalize E % c = r at *
  obtain ⟨G, hG⟩ : ∃ G, top - low = G := ⟨_, rfl⟩
  rw [hG] at I ⊢
  have g0 : 0 ≤ G := by omega
  have m1 : 0 ≤ lv * G := Int.mul_nonneg l0 g0
  by_cases hE : E < c * trip
  · have hq : q ≤ trip - 1 := by
      have : c * q < c * trip := by omega
      have := Int.lt_of_mul_lt_mul_left this (by omega)
      omega
    have m2 : 0 ≤ (c - a) * (trip - 1 - q) := Int.mul_nonneg (by omega) (by omega)
    have m3 : G ≤ (min (lv + 1) n) * G := by
      have : 1 * G ≤ (min (lv + 1) n) * G := Int.mul_le_mul_of_nonneg_right (by omega) g0
      omega
    simp only [Int.mul_sub, Int.sub_mul, Int.mul_one] at *
    omega
  · have hI := I (by omega)
    have hq : trip ≤ q := by
      have : c * trip < c * (q + 1) := by rw [Int.mul_add, Int.mul_one]; omega
      have := Int.lt_of_mul_lt_mul_left this (by omega)
      omega
    have m2 : 0 ≤ a * (q - trip) := Int.mul_nonneg (by omega) (by omega)
    by_cases e : lv = n
    · have hp := pn e
      rw [show min (lv + 1) n = lv by omega]
      simp only [Int.mul_sub] at *
      omega
    · rw [show min (lv + 1) n = lv + 1 by omega, Int.add_mul, Int.one_mul]
      simp only [Int.mul_sub] at *
      omega
theorem ov_bound {c a trip low top n lv E : Int} (a1 : 1 ≤ a) (ac : a ≤ c) (lo : 0 ≤ low) (lt : low ≤ top) (n1 : 1 ≤ n) (h : E - c * trip ≤ a - 1 + (min (lv + 1) n) * (top - low)) : E / c ≤ trip + ((n + 1) * top + a) / c + 1 := by
  have m1 : (min (lv + 1) n) * (top - low) ≤ n * (top - low) := Int.mul_le_mul_of_nonneg_right (by omega) (by omega)
  have m2 : n * (top - low) ≤ n * top := Int.mul_le_mul_of_nonneg_left (by omega) (by omega)
  have m3 : (n + 1) * top = n * top + top := by rw [Int.add_mul, Int.one_mul]
  have e : E ≤ ((n + 1) * top + a) + c * trip := by omega
  have := Int.ediv_le_ediv (show 0 < c by omega) e
  rw [Int.add_mul_ediv_left _ _ (show c ≠ 0 by omega)] at this
  omega
theorem ovi_next {c a trip G E n lv lv' : Int} (hc : 1 ≤ c) (h : E - c * trip ≤ a - 1 + (min (lv + 1) n) * G) (hl : trip ≤ E / c → lv' = min (lv + 1) n) : Ovi c a trip G E lv' := fun hE => by
  have : trip ≤ E / c := (Int.le_ediv_iff_mul_le (by omega)).2 (by rw [Int.mul_comm]; exact hE)
  rw [hl this]
  exact h
theorem pow_in {G lv n : Int} (g0 : 0 ≤ G) (l0 : 0 ≤ lv) (ln : lv ≤ n) (n1 : 1 ≤ n) : 0 ≤ (G * lv) / n ∧ (G * lv) / n ≤ G := by
  have m : 0 ≤ G * lv := Int.mul_nonneg g0 l0
  refine ⟨Int.ediv_nonneg m (by omega), ?_⟩
  have : G * lv ≤ G * n := Int.mul_le_mul_of_nonneg_left ln g0
  exact Int.ediv_le_of_le_mul (by omega) this
end Go.Proofs.Ytbblachhijpgeaa
