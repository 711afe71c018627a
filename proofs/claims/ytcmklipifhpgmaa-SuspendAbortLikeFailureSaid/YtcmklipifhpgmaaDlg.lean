/- slices.DeleteFunc over a row of one's own. -/
import Derived.Test.YtcmklipifhpgmaaDlf
namespace Go.Proofs.Ytcmklipifhpgmaa
open Go.ChangeShapes Go.WideShapes Go.ChangeAt Go.RowKit Go.Deep Go.Joins

def DgP (w : World) (BB : Nat) (K : List Op) (e : Ending) (w' : World) : Prop :=
  ∃ A c, e = .returned (.slice A K.length c) ∧ Fl w' A 2 K.length (oV K) ∧ K.length ≤ c ∧ c ≤ 9223372036854775807 ∧ (∀ a, A = some a → BB ≤ a.block ∧ a.block < w.heap.size) ∧ Chg (fun b => BB ≤ b) w w'
theorem ix_none (c X : Nat) (w : World) : Calls Try.prog 41 #[.slice none 0 c, .func (.func 40) #[] #[.pointer (some ⟨X, 0, none⟩)]] w fun e w' => e = .returned (.int .i64 (-1)) ∧ w' = w := by
  go_enter Try.func41, Try.ntmps41
  go_wp2_with fail
  go_loopw [8] (fun i wr => i = .int .i64 0 ∧ wr = w) (fun i _ => 0)
  case atStart => exact ⟨rfl, rfl⟩
  case round =>
    obtain ⟨rfl, rfl⟩ := hrel
    go_wp2
    go_ret
    exact ⟨rfl, rfl⟩
theorem dlf_none (c X : Nat) (w : World) : Calls Try.prog 39 #[.slice none 0 c, .func (.func 40) #[] #[.pointer (some ⟨X, 0, none⟩)]] w fun e w' => e = .returned (.slice none 0 c) ∧ w' = w := by
  have IX := ix_none c X w
  go_enter Try.func39, Try.ntmps39
  go_wp2_with fail
  refine IX.mono ?_
  clear IX
  rintro e w1 ⟨rfl, hw⟩
  subst hw
  go_wp2
  go_ret
  exact ⟨rfl, rfl⟩
theorem dg_any {w : World} {X L M n BB : Nat} {S : Int → Int → Bool} (h : Cx w X L M n S) (hX : X < BB) (hL : L < BB) (hM : M < BB) (hBB : BB ≤ w.heap.size) {v : Value} {p : List Op} (own : w.ownsRow BB 30 2 v p.length (vsL (oV p) (p.length * 2))) (hp : p.length ≤ 1000) (hO : ∀ x ∈ p, OpOk x) :
    Calls Try.prog 39 #[v, .func (.func 40) #[] #[.pointer (some ⟨X, 0, none⟩)]] w (DgP w BB (kp S p)) := by
  obtain ⟨A, c, rfl, hF, hpc, hcm, hab, hnn, hg⟩ := fl_of_own own (by omega)
  cases A with
  | none =>
    obtain ⟨h0, rfl⟩ := hnn rfl
    obtain rfl : p = [] := List.length_eq_zero_iff.1 h0
    refine (dlf_none 0 X w).mono ?_
    rintro e w1 ⟨rfl, hw⟩
    subst hw
    exact ⟨none, 0, rfl, ⟨by show (0 : Nat) ≤ _; omega, .inl rfl⟩, Nat.le_refl _, by omega, (fun a e => by cases e), Chg.refl _ _⟩
  | some a =>
    rcases own.2 with ⟨e, _⟩ | ⟨g, cap, cur, e, _⟩
    · cases e
    · injection e with e1 e2 e3
      injection e1 with e1
      subst e1 e3
      have hg2 := hg g rfl
      have hlt : g < w.heap.size := hg2.2.2.1
      have hlo : BB ≤ g := hg2.2.1
      have hr : Rw w g p := fun j hj => by
        rcases hF.row with h0 | ⟨b, off, hA, _, hc⟩
        · rw [h0] at hj; omega
        · injection hA with hA
          injection hA with h1 h2 _
          subst h1 h2
          have := hc j hj
          rwa [Nat.zero_add] at this
      refine (dlf_any h p c hpc hp hlt hr hO hg2.2.2.2 (by omega) (by omega) (by omega)).mono ?_
      rintro e w1 ⟨rfl, hc, hr1, hf1⟩
      have hkl := kp_len S p
      exact ⟨_, c, rfl, ⟨by omega, .inr ⟨g, 0, rfl, Nat.lt_of_lt_of_le hlt hc.size, fun j hj => by rw [Nat.zero_add]; exact hr1 j hj⟩⟩, by omega, hcm, (fun a e => by injection e with e; subst e; exact ⟨hlo, hlt⟩), hc.trans2 (Chg.refl (fun _ => False) _) (fun i _ x => x.elim) |>.mono (fun b hb e => by rcases e with e | e <;> omega)⟩
end Go.Proofs.Ytcmklipifhpgmaa
