/- A call of a callee that changes nothing may be taken first in a region that draws its order. -/
import Derived.Test.YtidegjinfacjjaaGen
namespace Go.Proofs.Ytidegjinfacjjaa
open Go.ChangeShapes Go.WideShapes Go.ChangeAt Go.RowKit Go.Deep Go.Joins

section
variable {P : Program} {ops : Array Oper} {Q : Exit → Act → World → Prop} {md : Region.Mode} {S : World → Prop}
/-- What an operation leaves of the frame. -/
def Frm (o : Oper) (a a' : Act) : Prop := ∃ u, a' = a.put o.dst u ∨ ∃ d, a' = ({ a with defers := d :: a.defers } : Act).put o.dst u
theorem wpOp_form {j : Nat} {oj : Oper} (hj : ops[j]? = some oj) {K : Act → World → Prop} {a : Act} {w : World} (h : wpOp P ops Q j K a w) : wpOp P ops Q j (fun a' w' => Frm oj a a' ∧ K a' w') a w := by
  unfold wpOp at *
  simp only [hj] at *
  split at h
  · rename_i hw
    rw [if_pos hw]
    rcases h with h | h
    · refine .inl ?_
      unfold Oper.wp at *
      generalize (execOp a.eval oj).run P w = r at *
      cases r with
      | halt x w' => cases x <;> exact h
      | ok n w' =>
        cases n with
        | value u => exact ⟨⟨u, .inl rfl⟩, h⟩
        | skip => exact ⟨⟨_, .inl rfl⟩, h⟩
        | defer d => exact ⟨⟨_, .inr ⟨d, rfl⟩⟩, h⟩
        | enter f args =>
          refine Calls.mono h fun e w'' he => ?_
          cases e with
          | returned u => exact ⟨⟨u, .inl rfl⟩, he⟩
          | panicked c => exact he
          | outgrown => exact he
        | row row args => exact Rows.mono h fun u w'' he => ⟨⟨u, .inl rfl⟩, he⟩
        | _ => exact h
    · exact .inr h
  · rename_i hw
    rw [if_neg hw]
    exact ⟨⟨_, .inl rfl⟩, h⟩
/-- In this state and in every world that meets S the operation calls a function that returns v and changes nothing. -/
def CallsQ (P : Program) (ops : Array Oper) (S : World → Prop) (o : Oper) (v : Value) (a : Act) : Prop :=
  Region.wanted o (yielded ops a.tmps) = true ∧ ∃ f args, (∀ w, S w → (execOp a.eval o).run P w = .ok (.enter f args) w) ∧ ∀ w, S w → Calls P f args w fun e w' => e = .returned v ∧ w = w'
theorem CallsQ.wpOp {i : Nat} {o : Oper} {v : Value} {a : Act} (hi : ops[i]? = some o) (hy : CallsQ P ops S o v a) {K : Act → World → Prop} {w : World} (hS : S w) (h : K (a.put o.dst v) w) : wpOp P ops Q i K a w := by
  obtain ⟨h1, f, args, h2, h3⟩ := hy
  unfold Go.wpOp
  simp only [hi, h1, if_true]
  refine .inl ?_
  unfold Oper.wp
  rw [h2 w hS, Oper.upon_enter]
  refine (h3 w hS).mono ?_
  rintro e w' ⟨rfl, rfl⟩
  exact h
theorem CallsQ.frm {oi oj : Oper} {v : Value} {a a' : Act} (hy : CallsQ P ops S oi v a) (hsi : ∀ cs b, oi.op ≠ .select cs b) (h3 : ∀ d, oj.dst = some d → d ∉ oi.looksAt ops) (hf : Frm oj a a') : CallsQ P ops S oi v a' := by
  obtain ⟨h1, f, args, h2, hc⟩ := hy
  obtain ⟨u, rfl | ⟨d, rfl⟩⟩ := hf
  · exact ⟨by rw [wanted_put oi a oj.dst u h3]; exact h1, f, args, by rw [execOp_put oi hsi a oj.dst u h3]; exact h2, hc⟩
  · exact ⟨by rw [wanted_put oi _ oj.dst u h3]; exact h1, f, args, by rw [execOp_put oi hsi _ oj.dst u h3]; exact h2, hc⟩
theorem wpAnyH_firstC {i : Nat} {oi : Oper} {v : Value} (hi : ops[i]? = some oi) (hsel : ∀ (j : Nat) (o : Oper) cs b, ops[j]? = some o → o.op ≠ .select cs b) (hQ : ∀ c a w, Q (.panic c) (a.put oi.dst v) w → Q (.panic c) a w) :
    ∀ (m : Nat) (L : Array Bool) (a : Act) (w : World), (∀ j oj, ops[j]? = some oj → j ≠ i → L.getD j true = false → (∀ e ∈ oj.after, Region.binds md e = true → e.on ≠ i) → oi.apart ops oj = true) →
      i ∈ Region.ready md ops L → CallsQ P ops S oi v a → S w → wpAnyH P md ops Q S m (L.setIfInBounds i true) (a.put oi.dst v) w → wpAnyH P md ops Q S (m + 1) L a w
  | 0, L, a, w, _, hr, hy, hS, H => by
    refine ⟨fun h => absurd hr (by rw [h]; simp), fun j hj => ?_⟩
    by_cases e : j = i
    · rw [e] at hj ⊢
      exact hy.wpOp hi hS ⟨hS, H⟩
    · exact absurd (ready_mono hj e) (by rw [H.1]; simp)
  | m + 1, L, a, w, hfr, hr, hy, hS, H => by
    refine ⟨fun h => absurd hr (by rw [h]; simp), fun j hj => ?_⟩
    by_cases e : j = i
    · rw [e] at hj ⊢
      exact hy.wpOp hi hS ⟨hS, H⟩
    · have hjr := mem_ready.1 hj
      obtain ⟨oj, hoj, hbd⟩ := hjr.2
      have hir := (mem_ready.1 hr).1
      have hno : ∀ e ∈ oj.after, Region.binds md e = true → e.on ≠ i := by
        intro x hx hb hxi
        have h1 := hbd x hx hb
        rw [hxi] at h1
        by_cases hlt : i < L.size
        · simp [hlt] at h1 hir
          rw [h1] at hir
          cases hir
        · simp [Array.getElem?_eq_none (Nat.le_of_not_lt hlt)] at h1
      have hap := hfr j oj hoj e hjr.1 hno
      have hsi : ∀ cs b, oi.op ≠ .select cs b := fun cs b => hsel i oi cs b hi
      have hsj : ∀ cs b, oj.op ≠ .select cs b := fun cs b => hsel j oj cs b hoj
      have K1 := wpOp_form hoj (wpOp_putIf (S := fun _ => False) hoj hap hsi hsj hQ (.inl ⟨hy.1, fun _ h => h.elim⟩) (H.2 j (ready_mono hj e)))
      refine wpOp_mono ?_ K1
      rintro a' w' ⟨hf, -, hS', H'⟩
      refine ⟨hS', wpAnyH_firstC hi hsel hQ m (L.setIfInBounds j true) a' w' ?_ (ready_mono hr (Ne.symm e)) (hy.frm hsi (Oper.apart_spec hap).2.2 hf) hS' ?_⟩
      · intro k ok hk hki hkl hkn
        refine hfr k ok hk hki ?_ hkn
        by_cases hjk : j = k
        · rw [← hjk]; exact hjr.1
        · rwa [getD_set_ne true hjk] at hkl
      · rw [Array.setIfInBounds_comm _ _ e]
        exact H'
/-- Take the call number i first. -/
theorem wpAnyH_call {i : Nat} {oi : Oper} {v : Value} {f : FuncId} {args : Array Value} {m : Nat} {L : Array Bool} {a : Act} {w : World} (hi : ops[i]? = some oi)
    (hs : Region.noSelect ops = true) (hf : Region.free md ops L i = true) (hr : (Region.ready md ops L).contains i = true)
    (hQ : ∀ c a w, Q (.panic c) (a.put oi.dst v) w → Q (.panic c) a w) (hw : Region.wanted oi (yielded ops a.tmps) = true)
    (hy : ∀ w, S w → (execOp a.eval oi).run P w = .ok (.enter f args) w) (hc : ∀ w, S w → Calls P f args w fun e w' => e = .returned v ∧ w = w') (hS : S w)
    (h : wpAnyH P md ops Q S m (L.setIfInBounds i true) (a.put oi.dst v) w) : wpAnyH P md ops Q S (m + 1) L a w :=
  wpAnyH_firstC hi (Region.noSelect_spec hs) hQ m L a w (Region.free_spec hi hf) (by simpa using hr) ⟨hw, f, args, hy, hc⟩ hS h
end
end Go.Proofs.Ytidegjinfacjjaa
