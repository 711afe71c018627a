/- Allocate's result is fair: pure. -/
import Derived.Test.YtopbfnnmgckikaaFai
import Derived.Test.YtopbfnnmgckikaaMbh
namespace Go.Proofs.Ytopbfnnmgckikaa
open Go.RowKit

theorem sumTo_atL (lv : Int) (f : Nat → St) (n : Nat) (k : Nat) (hk : k ≤ n) : sumTo (atL lv f n) k = atS lv f k := by
  induction k with
  | zero => rfl
  | succ k ih =>
    show sumTo _ k + _ = atS lv f k + atG lv (f k)
    rw [ih (by omega), atL_get _ _ _ _ (by omega)]
theorem gfil_fr (L : Int) (f : Nat → St) (r : Int) (k : Nat) : gfil L f r k + frR L f r (k + 1) = atG L (f k) + frR L f r k := by
  show _ + (if 0 < frR L f r k ∧ elg L (f k) then frR L f r k - 1 else frR L f r k) = _
  unfold gfil
  split <;> omega
theorem sumTo_fil (L : Int) (f : Nat → St) (r : Int) (n k : Nat) (hk : k ≤ n) : sumTo (filL L f r n) k + frR L f r k = atS L f k + r := by
  induction k with
  | zero => show (0 : Int) + r = 0 + r; rfl
  | succ k ih =>
    have a := ih (by omega)
    have b := gfil_fr L f r k
    have c := filL_get L f r n k (by omega)
    show sumTo _ k + (filL L f r n).getD k 0 + _ = atS L f k + atG L (f k) + r
    omega
theorem atG_step {L : Int} {s : St} (h : s.b ≤ wantI s.a s.b s.c) : atG (L + 1) s - atG L s = if elg L s then 1 else 0 := by
  by_cases he : elg L s
  · rw [if_pos he]
    obtain ⟨h1, h2⟩ := he
    unfold atG; omega
  · rw [if_neg he]
    have he : ¬ (s.b ≤ L ∧ L < wantI s.a s.b s.c) := he
    unfold atG; omega
theorem fr_inv (L : Int) (f : Nat → St) (r : Int) (h0 : 0 ≤ r) (n : Nat) (hg : GA n f) (k : Nat) (hk : k ≤ n) : frR L f r k = 0 ∨ r - frR L f r k = atS (L + 1) f k - atS L f k := by
  induction k with
  | zero => right; show r - r = 0 - 0; omega
  | succ k ih =>
    have a := ih (by omega)
    have b := fr_bd L f r k h0
    have c := atG_bd (lv := 0) (hg.ok k (by omega))
    have d := atG_step (L := L) (s := f k) c.2.2.2
    show (if 0 < frR L f r k ∧ elg L (f k) then frR L f r k - 1 else frR L f r k) = 0 ∨ r - (if 0 < frR L f r k ∧ elg L (f k) then frR L f r k - 1 else frR L f r k) = atS (L + 1) f k + atG (L + 1) (f k) - (atS L f k + atG L (f k))
    by_cases he : elg L (f k)
    · rw [if_pos he] at d
      by_cases hp : 0 < frR L f r k
      · rw [if_pos ⟨hp, he⟩]; omega
      · rw [if_neg (fun x => hp x.1)]; omega
    · rw [if_neg he] at d
      rw [if_neg (fun x => he x.2)]; omega
theorem alloc_fair {b : Int} {n : Nat} {f : Nat → St} {l : List Int} {c : Int} (h : AllocR b n f l c) (hv : vA n f = true) (hg : GA n f) :
    (c = 19 ∧ b < atS 0 f n) ∨ (c = 0 ∧ atS 0 f n ≤ b ∧ FairT b n f l) := by
  have hl := alloc_len h
  rcases h with ⟨a1, a2, a3⟩ | ⟨a1, a2, a3, a4⟩ | ⟨a1, a2, a3, a4, a5⟩ | ⟨a1, a2, a3, a4, L, a5, a6, a7, a8⟩
  · rw [hv] at a1; cases a1
  · exact .inl ⟨a4, a2⟩
  · refine .inr ⟨a5, a2, hv, hl.2.1 a5, fun i hi => ?_, ?_, fun i hi j hj hb => ?_⟩
    · rw [a4, atL_get _ _ _ _ hi]
      have x := atG_bd (lv := 4294967296) (hg.ok i hi)
      exact ⟨x.1, x.2.1⟩
    · rw [a4, sumTo_atL _ _ _ _ (Nat.le_refl _)]; omega
    · obtain ⟨h1, _, _⟩ := hb
      rw [a4, atL_get _ _ _ _ hi] at h1
      have x := atG_bd (lv := 4294967296) (hg.ok i hi)
      have y := hg.ok i hi
      have e : wI (f i) = wantI (f i).a (f i).b (f i).c := rfl
      unfold atG at h1
      omega
  · have r0 : 0 ≤ b - atS L f n := by omega
    refine .inr ⟨a4, a2, hv, hl.2.1 a4, fun i hi => ?_, ?_, fun i hi j hj hb => ?_⟩
    · rw [a8, filL_get _ _ _ _ _ hi]
      have x := gfil_lo L f (b - atS L f n) i
      have y := gfil_hi L f (b - atS L f n) i
      have x1 := atG_bd (lv := (L : Int)) (hg.ok i hi)
      have y1 := atG_bd (lv := (L : Int) + 1) (hg.ok i hi)
      have e : wI (f i) = wantI (f i).a (f i).b (f i).c := rfl
      omega
    · have s := sumTo_fil L f (b - atS L f n) n n (Nat.le_refl _)
      have q := fr_inv L f (b - atS L f n) r0 n hg n (Nat.le_refl _)
      have q2 := fr_bd L f (b - atS L f n) n r0
      have e : ((L + 1 : Nat) : Int) = (L : Int) + 1 := by omega
      rw [e] at a7
      rw [a8]
      omega
    · obtain ⟨h1, h2, h3⟩ := hb
      rw [a8] at h1 h2 h3
      rw [filL_get _ _ _ _ _ hi] at h1 h3
      rw [filL_get _ _ _ _ _ hj] at h2 h3
      have x := gfil_lo L f (b - atS L f n) i
      have y := gfil_hi L f (b - atS L f n) j
      have e : wI (f i) = wantI (f i).a (f i).b (f i).c := rfl
      unfold atG at x y
      omega
theorem atS0_succ {n : Nat} {f : Nat → St} (hg : GA n f) {k : Nat} (hk : k < n) : atS 0 f (k + 1) = atS 0 f k + (f k).b := by
  have y := hg.ok k hk
  have x := atG_bd (lv := 0) y
  show _ + atG 0 (f k) = _
  have : atG 0 (f k) = (f k).b := by unfold atG at *; omega
  omega
theorem atSM_succ {n : Nat} {f : Nat → St} (hg : GA n f) {k : Nat} (hk : k < n) : atS 4294967296 f (k + 1) = atS 4294967296 f k + wI (f k) := by
  have y := hg.ok k hk
  have x := atG_bd (lv := 4294967296) y
  have e : wI (f k) = wantI (f k).a (f k).b (f k).c := rfl
  show _ + atG 4294967296 (f k) = _
  have : atG 4294967296 (f k) = wI (f k) := by unfold atG at *; omega
  omega
end Go.Proofs.Ytopbfnnmgckikaa
