/- What Allocate grants: pure facts. -/
import Derived.Test.YtbblachhijpgeaaAwk
namespace Go.Proofs.Ytbblachhijpgeaa
open Go.RowKit

def wI (s : St) : Int := wantI s.a s.b s.c
def sumTo (l : List Int) : Nat → Int
  | 0 => 0
  | k + 1 => sumTo l k + l.getD k 0
def badP (f : Nat → St) (l : List Int) (i j : Nat) : Prop := l.getD i 0 < wI (f i) ∧ (f j).b < l.getD j 0 ∧ l.getD i 0 + 1 < l.getD j 0
def FairT (b : Int) (n : Nat) (f : Nat → St) (l : List Int) : Prop :=
  vA n f = true ∧ l.length = n ∧ (∀ i, i < n → (f i).b ≤ l.getD i 0 ∧ l.getD i 0 ≤ wI (f i)) ∧ sumTo l n = min b (atS 4294967296 f n) ∧ ∀ i, i < n → ∀ j, j < n → ¬ badP f l i j
theorem gfil_lo (L : Int) (f : Nat → St) (r : Int) (i : Nat) : atG L (f i) ≤ gfil L f r i := by
  unfold gfil; split <;> omega
theorem gfil_hi (L : Int) (f : Nat → St) (r : Int) (i : Nat) : gfil L f r i ≤ atG (L + 1) (f i) := by
  unfold gfil
  split
  · next h =>
    obtain ⟨_, h1, h2⟩ := h
    unfold atG
    unfold wantI at *
    omega
  · exact atG_mono _ (by omega)
theorem filL_get (L : Int) (f : Nat → St) (r : Int) (n i : Nat) (h : i < n) : (filL L f r n).getD i 0 = gfil L f r i := by simp [filL, List.getD_eq_getElem?_getD, h]
theorem alloc_len {bud : Int} {n : Nat} {f : Nat → St} {l : List Int} {c : Int} (h : AllocR bud n f l c) : l.length ≤ 32 ∧ (c = 0 → l.length = n) ∧ (c = 0 ∨ c = 1 ∨ c = 19) := by
  rcases h with ⟨a1, a2, a3⟩ | ⟨a1, a2, a3, a4⟩ | ⟨a1, a2, a3, a4, a5⟩ | ⟨a1, a2, a3, a4, L, a5, a6, a7, a8⟩
  · subst a2 a3; exact ⟨by simp, fun h => by omega, by omega⟩
  · subst a3 a4; exact ⟨by simp, fun h => by omega, by omega⟩
  · have := vA_len a1
    subst a4 a5
    rw [atL_len]
    exact ⟨this, fun _ => rfl, by omega⟩
  · have := vA_len a1
    subst a8
    have e : (filL L f (bud - atS L f n) n).length = n := by simp [filL]
    rw [e]
    exact ⟨this, fun _ => rfl, by omega⟩
def AlQ (w : World) (bud : Int) (n : Nat) (f : Nat → St) (e : Ending) (w' : World) : Prop :=
  ∃ l code A c, e = .returned (.tuple #[.slice A l.length c, .int .i64 code]) ∧ AllocR bud n f l code ∧ RLU w' A l ∧ Below w.heap.size w w'
theorem alq_of {w w' : World} {bud : Int} {n : Nat} {f : Nat → St} {e : Ending} (h : AlcP w bud n f e w') : AlQ w bud n f e w' := by
  obtain ⟨l, code, A, c, h1, h2, h3, h4, _⟩ := h
  exact ⟨l, code, A, c, h1, h2, h3.rl (by have := (alloc_len h2).1; omega), h4⟩
theorem acF_wf (g : Nat → St) (i : Nat) : WfS .u64 (acF g i) := by
  have a1 := Int.emod_nonneg (g i).a (show (40 : Int) ≠ 0 by omega)
  have a2 := Int.emod_lt_of_pos (g i).a (show (0 : Int) < 40 by omega)
  have b1 := Int.emod_nonneg (g i).b (show (10 : Int) ≠ 0 by omega)
  have b2 := Int.emod_lt_of_pos (g i).b (show (0 : Int) < 10 by omega)
  have c1 := Int.emod_nonneg (g i).c (show (30 : Int) ≠ 0 by omega)
  have c2 := Int.emod_lt_of_pos (g i).c (show (0 : Int) < 30 by omega)
  unfold acF
  exact ⟨wf_u64_mk (x := (g i).a % 40) (by omega), wf_u64_mk (x := (g i).b % 10) (by omega), wf_u64_mk (x := (g i).b % 10 + (g i).c % 30) (by omega)⟩
theorem acF_ok (g : Nat → St) (m : Nat) : vA (acN m) (acF g) = true := by
  unfold vA
  rw [allTo_of fun k _ => ?_, decide_eq_true (by unfold acN; omega)]
  · rfl
  · have b1 := Int.emod_nonneg (g k).b (show (10 : Int) ≠ 0 by omega)
    have b2 := Int.emod_lt_of_pos (g k).b (show (0 : Int) < 10 by omega)
    have c1 := Int.emod_nonneg (g k).c (show (30 : Int) ≠ 0 by omega)
    have c2 := Int.emod_lt_of_pos (g k).c (show (0 : Int) < 30 by omega)
    show (decide ((g k).b % 10 ≤ (g k).b % 10 + (g k).c % 30) && decide ((g k).b % 10 + (g k).c % 30 ≤ 4294967296)) = true
    rw [decide_eq_true (by omega), decide_eq_true (by omega)]
    rfl
/-- What Actors leaves. -/
def AcQ (w : World) (m : Nat) (g : Nat → St) (e : Ending) (w' : World) : Prop := ∃ A c, e = .returned (.slice A (acN m) c) ∧ SlS .u64 w' A (acN m) (acF g) ∧ Below w.heap.size w w'
theorem actors_q (A : Option Addr) (m c : Nat) (g : Nat → St) (w : World) (h : SlS .u64 w A m g) : Calls Try.prog 17 #[.slice A m c] w (AcQ w m g) :=
  (actors_any A m c g w h).mono fun e w' ⟨A', c', he, ho, hb⟩ => by
    obtain ⟨A2, c2, e2, hS, _, _⟩ := sls_of_own ho (by unfold acN; omega) (fun i _ => acF_wf g i)
    injection e2 with e3 _ e4
    subst e3 e4
    exact ⟨A', c', he, hS, hb⟩
theorem sumTo_atL (lv : Int) (f : Nat → St) (n : Nat) (k : Nat) (hk : k ≤ n) : sumTo (atL lv f n) k = atS lv f k := by
  induction k with
  | zero => rfl
  | succ k ih =>
    show sumTo _ k + _ = atS lv f k + atG lv (f k)
    rw [ih (by omega), atL_get _ _ _ _ (by omega)]
theorem gfil_fr (L : Int) (f : Nat → St) (r : Int) (k : Nat) : gfil L f r k + frR L f r (k + 1) = atG L (f k) + frR L f r k := by
  show _ + (if 0 < frR L f r k ∧ elg L (f k) then frR L f r k - 1 else frR L f r k) = _
  unfold gfil
  split <;> omega
theorem sumTo_fil (L : Int) (f : Nat → St) (r : Int) (n k : Nat) (hk : k ≤ n) : sumTo (filL L f r n) k + frR L f r k = atS L f k + r := by
  induction k with
  | zero => show (0 : Int) + r = 0 + r; rfl
  | succ k ih =>
    have a := ih (by omega)
    have b := gfil_fr L f r k
    have c := filL_get L f r n k (by omega)
    show sumTo _ k + (filL L f r n).getD k 0 + _ = atS L f k + atG L (f k) + r
    omega
theorem atG_step {L : Int} {s : St} (h : s.b ≤ wantI s.a s.b s.c) : atG (L + 1) s - atG L s = if elg L s then 1 else 0 := by
  by_cases he : elg L s
  · rw [if_pos he]
    obtain ⟨h1, h2⟩ := he
    unfold atG; omega
  · rw [if_neg he]
    have he : ¬ (s.b ≤ L ∧ L < wantI s.a s.b s.c) := he
    unfold atG; omega
theorem fr_inv (L : Int) (f : Nat → St) (r : Int) (h0 : 0 ≤ r) (n : Nat) (hg : GA n f) (k : Nat) (hk : k ≤ n) : frR L f r k = 0 ∨ r - frR L f r k = atS (L + 1) f k - atS L f k := by
  induction k with
  | zero => right; show r - r = 0 - 0; omega
  | succ k ih =>
    have a := ih (by omega)
    have b := fr_bd L f r k h0
    have c := atG_bd (lv := 0) (hg.ok k (by omega))
    have d := atG_step (L := L) (s := f k) c.2.2.2
    show (if 0 < frR L f r k ∧ elg L (f k) then frR L f r k - 1 else frR L f r k) = 0 ∨ r - (if 0 < frR L f r k ∧ elg L (f k) then frR L f r k - 1 else frR L f r k) = atS (L + 1) f k + atG (L + 1) (f k) - (atS L f k + atG L (f k))
    by_cases he : elg L (f k)
    · rw [if_pos he] at d
      by_cases hp : 0 < frR L f r k
      · rw [if_pos ⟨hp, he⟩]; omega
      · rw [if_neg (fun x => hp x.1)]; omega
    · rw [if_neg he] at d
      rw [if_neg (fun x => he x.2)]; omega
theorem alloc_fair {b : Int} {n : Nat} {f : Nat → St} {l : List Int} {c : Int} (h : AllocR b n f l c) (hv : vA n f = true) (hg : GA n f) :
    (c = 19 ∧ b < atS 0 f n) ∨ (c = 0 ∧ atS 0 f n ≤ b ∧ FairT b n f l) := by
  have hl := alloc_len h
  rcases h with ⟨a1, a2, a3⟩ | ⟨a1, a2, a3, a4⟩ | ⟨a1, a2, a3, a4, a5⟩ | ⟨a1, a2, a3, a4, L, a5, a6, a7, a8⟩
  · rw [hv] at a1; cases a1
  · exact .inl ⟨a4, a2⟩
  · refine .inr ⟨a5, a2, hv, hl.2.1 a5, fun i hi => ?_, ?_, fun i hi j hj hb => ?_⟩
    · rw [a4, atL_get _ _ _ _ hi]
      have x := atG_bd (lv := 4294967296) (hg.ok i hi)
      exact ⟨x.1, x.2.1⟩
    · rw [a4, sumTo_atL _ _ _ _ (Nat.le_refl _)]; omega
    · obtain ⟨h1, _, _⟩ := hb
      rw [a4, atL_get _ _ _ _ hi] at h1
      have x := atG_bd (lv := 4294967296) (hg.ok i hi)
      have y := hg.ok i hi
      have e : wI (f i) = wantI (f i).a (f i).b (f i).c := rfl
      unfold atG at h1
      omega
  · have r0 : 0 ≤ b - atS L f n := by omega
    refine .inr ⟨a4, a2, hv, hl.2.1 a4, fun i hi => ?_, ?_, fun i hi j hj hb => ?_⟩
    · rw [a8, filL_get _ _ _ _ _ hi]
      have x := gfil_lo L f (b - atS L f n) i
      have y := gfil_hi L f (b - atS L f n) i
      have x1 := atG_bd (lv := (L : Int)) (hg.ok i hi)
      have y1 := atG_bd (lv := (L : Int) + 1) (hg.ok i hi)
      have e : wI (f i) = wantI (f i).a (f i).b (f i).c := rfl
      omega
    · have s := sumTo_fil L f (b - atS L f n) n n (Nat.le_refl _)
      have q := fr_inv L f (b - atS L f n) r0 n hg n (Nat.le_refl _)
      have q2 := fr_bd L f (b - atS L f n) n r0
      have e : ((L + 1 : Nat) : Int) = (L : Int) + 1 := by omega
      rw [e] at a7
      rw [a8]
      omega
    · obtain ⟨h1, h2, h3⟩ := hb
      rw [a8] at h1 h2 h3
      rw [filL_get _ _ _ _ _ hi] at h1 h3
      rw [filL_get _ _ _ _ _ hj] at h2 h3
      have x := gfil_lo L f (b - atS L f n) i
      have y := gfil_hi L f (b - atS L f n) j
      have e : wI (f i) = wantI (f i).a (f i).b (f i).c := rfl
      unfold atG at x y
      omega
theorem sumTo_nn {l : List Int} {n : Nat} (h : ∀ i, i < n → 0 ≤ l.getD i 0) (k : Nat) (hk : k ≤ n) : 0 ≤ sumTo l k := by
  induction k with
  | zero => exact Int.le_refl _
  | succ k ih =>
    have := ih (by omega)
    have := h k (by omega)
    show 0 ≤ sumTo l k + l.getD k 0
    omega
theorem sumTo_mono {l : List Int} {n : Nat} (h : ∀ i, i < n → 0 ≤ l.getD i 0) (k : Nat) (hk : k ≤ n) : sumTo l k ≤ sumTo l n := by
  obtain ⟨d, hd⟩ : ∃ d, n = k + d := ⟨n - k, by omega⟩
  have : ∀ d, k + d ≤ n → sumTo l k ≤ sumTo l (k + d) := fun d => by
    induction d with
    | zero => intro _; exact Int.le_refl _
    | succ d ih =>
      intro h1
      have := ih (by omega)
      have := h (k + d) (by omega)
      show _ ≤ sumTo l (k + d) + l.getD (k + d) 0
      omega
  have := this d (by omega)
  rw [hd]
  exact this
end Go.Proofs.Ytbblachhijpgeaa
