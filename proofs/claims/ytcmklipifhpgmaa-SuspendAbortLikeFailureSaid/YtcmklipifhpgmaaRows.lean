/-
  No cell of these rows narrows 'for every input' (looked for: loops, veiled, ifaces, maps, wideKeys, modest, calm, conditions, laid).
  DERIVED. THE GIVEN ROWS OF THIS SEAT. 7 by the template 'for every input the law returns true; each argument reads behind the call as it read before'; 0 by the template 'total and deterministic' (their statements: YtcmklipifhpgmaaTotals.lean).
  GIVEN WITH THE SEED: the statements are not yours to turn. If you find one false, say at which input.
  Laid BY PROGRAM, IN A SANDBOX (cutbox-rows.mjs): the forced cells as the released guide's own fill.sh prints them over the translation c18f97f7cbc1abc9… (all of the seat's roots in one cut). By AI agents, Wed Nov 11 2026. No macro, syntax, notation, axiom, sorry.
-/
import Derived.Test.YtcmklipifhpgmaaChecked
import GoSem.Claim
import GoSem.ClaimJoined
import GoSem.ClaimMapViews
import Derived.JoinedTies
import Derived.KernelRfl
namespace Go.Proofs.Ytcmklipifhpgmaa
/- THE CELL 'sum', in the pinned program and in every row, IS THE sha256 OF THE DUMP (.gsa) THAT YtcmklipifhpgmaaProg.lean LOADS. Nothing in Lean hashes anything: it is a label: what it is worth is what the hold of that sum in a sandbox is worth. -/
noncomputable def Try.pinned : Pinned := { name := "ytcmklipifhpgmaa", sum := "c18f97f7cbc1abc9ffb7407cf4dea72f515be5e13e878664112674b02bcd89d5", checked := Try.checked }
namespace Rows
def none {H : Type} : Left H := { results := [], args := [] }

/-- 'platformfwlaw30.SuspendTraceAgrees': WHATEVER THE INPUT: true; the input reads as it did. -/
def suspendTraceAgreesSpec : ChangeSpec := { name := "suspendTraceAgrees", fn := fun _ => fun
  | [d1, d2, d3, d4] => { results := [.lit (.bool true)], args := [d1, d2, d3, d4] }
  | _ => none }
def suspendTraceAgreesRow : OpenClaim := { program := "ytcmklipifhpgmaa", sum := "c18f97f7cbc1abc9ffb7407cf4dea72f515be5e13e878664112674b02bcd89d5", func := "platformfw/platformfwlaw30.SuspendTraceAgrees", spec := "suspendTraceAgrees", unfollowed := true, recurses := true, plainKeys := false, apart := false }
def SuspendTraceAgreesSaid : Prop := suspendTraceAgreesRow.holds Try.pinned (OpenSpec.ofChange suspendTraceAgreesSpec)

/-- ITS FALSE NEIGHBOUR: 'it returns false'. Refute it at one input. -/
def suspendTraceAgreesWrong : ChangeSpec := { name := "suspendTraceAgrees", fn := fun _ => fun
  | [d1, d2, d3, d4] => { results := [.lit (.bool false)], args := [d1, d2, d3, d4] }
  | _ => none }
def SuspendTraceAgreesWrongFalsely : Prop := suspendTraceAgreesRow.holds Try.pinned (OpenSpec.ofChange suspendTraceAgreesWrong)

/-- 'platformfwlaw30.SuspendCallsAgree': WHATEVER THE INPUT: true; the input reads as it did. -/
def suspendCallsAgreeSpec : ChangeSpec := { name := "suspendCallsAgree", fn := fun _ => fun
  | [d1, d2, d3] => { results := [.lit (.bool true)], args := [d1, d2, d3] }
  | _ => none }
def suspendCallsAgreeRow : OpenClaim := { program := "ytcmklipifhpgmaa", sum := "c18f97f7cbc1abc9ffb7407cf4dea72f515be5e13e878664112674b02bcd89d5", func := "platformfw/platformfwlaw30.SuspendCallsAgree", spec := "suspendCallsAgree", unfollowed := true, recurses := true, plainKeys := false, apart := false }
def SuspendCallsAgreeSaid : Prop := suspendCallsAgreeRow.holds Try.pinned (OpenSpec.ofChange suspendCallsAgreeSpec)

/-- ITS FALSE NEIGHBOUR: 'it returns false'. Refute it at one input. -/
def suspendCallsAgreeWrong : ChangeSpec := { name := "suspendCallsAgree", fn := fun _ => fun
  | [d1, d2, d3] => { results := [.lit (.bool false)], args := [d1, d2, d3] }
  | _ => none }
def SuspendCallsAgreeWrongFalsely : Prop := suspendCallsAgreeRow.holds Try.pinned (OpenSpec.ofChange suspendCallsAgreeWrong)

/-- 'platformfwlaw30.SuspendNewAgrees': WHATEVER THE INPUT: true; the input reads as it did. -/
def suspendNewAgreesSpec : ChangeSpec := { name := "suspendNewAgrees", fn := fun _ => fun
  | [d1, d2, d3] => { results := [.lit (.bool true)], args := [d1, d2, d3] }
  | _ => none }
def suspendNewAgreesRow : OpenClaim := { program := "ytcmklipifhpgmaa", sum := "c18f97f7cbc1abc9ffb7407cf4dea72f515be5e13e878664112674b02bcd89d5", func := "platformfw/platformfwlaw30.SuspendNewAgrees", spec := "suspendNewAgrees", unfollowed := true, recurses := true, plainKeys := false, apart := false }
def SuspendNewAgreesSaid : Prop := suspendNewAgreesRow.holds Try.pinned (OpenSpec.ofChange suspendNewAgreesSpec)

/-- ITS FALSE NEIGHBOUR: 'it returns false'. Refute it at one input. -/
def suspendNewAgreesWrong : ChangeSpec := { name := "suspendNewAgrees", fn := fun _ => fun
  | [d1, d2, d3] => { results := [.lit (.bool false)], args := [d1, d2, d3] }
  | _ => none }
def SuspendNewAgreesWrongFalsely : Prop := suspendNewAgreesRow.holds Try.pinned (OpenSpec.ofChange suspendNewAgreesWrong)

/-- 'platformfwlaw30.SuspendMirrors': WHATEVER THE INPUT: true; the input reads as it did. -/
def suspendMirrorsSpec : ChangeSpec := { name := "suspendMirrors", fn := fun _ => fun
  | [d] => { results := [.lit (.bool true)], args := [d] }
  | _ => none }
def suspendMirrorsRow : OpenClaim := { program := "ytcmklipifhpgmaa", sum := "c18f97f7cbc1abc9ffb7407cf4dea72f515be5e13e878664112674b02bcd89d5", func := "platformfw/platformfwlaw30.SuspendMirrors", spec := "suspendMirrors", unfollowed := true, recurses := true, plainKeys := false, apart := false }
def SuspendMirrorsSaid : Prop := suspendMirrorsRow.holds Try.pinned (OpenSpec.ofChange suspendMirrorsSpec)

/-- ITS FALSE NEIGHBOUR: 'it returns false'. Refute it at one input. -/
def suspendMirrorsWrong : ChangeSpec := { name := "suspendMirrors", fn := fun _ => fun
  | [d] => { results := [.lit (.bool false)], args := [d] }
  | _ => none }
def SuspendMirrorsWrongFalsely : Prop := suspendMirrorsRow.holds Try.pinned (OpenSpec.ofChange suspendMirrorsWrong)

/-- 'platformfwlaw30.SuspendUndoesExactly': WHATEVER THE INPUT: true; the input reads as it did. -/
def suspendUndoesExactlySpec : ChangeSpec := { name := "suspendUndoesExactly", fn := fun _ => fun
  | [d1, d2, d3, d4] => { results := [.lit (.bool true)], args := [d1, d2, d3, d4] }
  | _ => none }
def suspendUndoesExactlyRow : OpenClaim := { program := "ytcmklipifhpgmaa", sum := "c18f97f7cbc1abc9ffb7407cf4dea72f515be5e13e878664112674b02bcd89d5", func := "platformfw/platformfwlaw30.SuspendUndoesExactly", spec := "suspendUndoesExactly", unfollowed := true, recurses := true, plainKeys := false, apart := false }
def SuspendUndoesExactlySaid : Prop := suspendUndoesExactlyRow.holds Try.pinned (OpenSpec.ofChange suspendUndoesExactlySpec)

/-- ITS FALSE NEIGHBOUR: 'it returns false'. Refute it at one input. -/
def suspendUndoesExactlyWrong : ChangeSpec := { name := "suspendUndoesExactly", fn := fun _ => fun
  | [d1, d2, d3, d4] => { results := [.lit (.bool false)], args := [d1, d2, d3, d4] }
  | _ => none }
def SuspendUndoesExactlyWrongFalsely : Prop := suspendUndoesExactlyRow.holds Try.pinned (OpenSpec.ofChange suspendUndoesExactlyWrong)

/-- 'platformfwlaw30.SuspendFirstErrorIsResult': WHATEVER THE INPUT: true; the input reads as it did. -/
def suspendFirstErrorIsResultSpec : ChangeSpec := { name := "suspendFirstErrorIsResult", fn := fun _ => fun
  | [d1, d2] => { results := [.lit (.bool true)], args := [d1, d2] }
  | _ => none }
def suspendFirstErrorIsResultRow : OpenClaim := { program := "ytcmklipifhpgmaa", sum := "c18f97f7cbc1abc9ffb7407cf4dea72f515be5e13e878664112674b02bcd89d5", func := "platformfw/platformfwlaw30.SuspendFirstErrorIsResult", spec := "suspendFirstErrorIsResult", unfollowed := true, recurses := true, plainKeys := false, apart := false }
def SuspendFirstErrorIsResultSaid : Prop := suspendFirstErrorIsResultRow.holds Try.pinned (OpenSpec.ofChange suspendFirstErrorIsResultSpec)

/-- ITS FALSE NEIGHBOUR: 'it returns false'. Refute it at one input. -/
def suspendFirstErrorIsResultWrong : ChangeSpec := { name := "suspendFirstErrorIsResult", fn := fun _ => fun
  | [d1, d2] => { results := [.lit (.bool false)], args := [d1, d2] }
  | _ => none }
def SuspendFirstErrorIsResultWrongFalsely : Prop := suspendFirstErrorIsResultRow.holds Try.pinned (OpenSpec.ofChange suspendFirstErrorIsResultWrong)

/-- 'platformfwlaw30.SuspendAbortLikeFailure': WHATEVER THE INPUT: true; the input reads as it did. -/
def suspendAbortLikeFailureSpec : ChangeSpec := { name := "suspendAbortLikeFailure", fn := fun _ => fun
  | [d1, d2, d3] => { results := [.lit (.bool true)], args := [d1, d2, d3] }
  | _ => none }
def suspendAbortLikeFailureRow : OpenClaim := { program := "ytcmklipifhpgmaa", sum := "c18f97f7cbc1abc9ffb7407cf4dea72f515be5e13e878664112674b02bcd89d5", func := "platformfw/platformfwlaw30.SuspendAbortLikeFailure", spec := "suspendAbortLikeFailure", unfollowed := true, recurses := true, plainKeys := false, apart := false }
def SuspendAbortLikeFailureSaid : Prop := suspendAbortLikeFailureRow.holds Try.pinned (OpenSpec.ofChange suspendAbortLikeFailureSpec)

/-- ITS FALSE NEIGHBOUR: 'it returns false'. Refute it at one input. -/
def suspendAbortLikeFailureWrong : ChangeSpec := { name := "suspendAbortLikeFailure", fn := fun _ => fun
  | [d1, d2, d3] => { results := [.lit (.bool false)], args := [d1, d2, d3] }
  | _ => none }
def SuspendAbortLikeFailureWrongFalsely : Prop := suspendAbortLikeFailureRow.holds Try.pinned (OpenSpec.ofChange suspendAbortLikeFailureWrong)

/- THE SECOND FORM. 'bulk': how many values and letters a reading holds, each counted each time it is reached (what is shared counts as often as it is met; a slice's spare places count too). A statement '..UptoSaid' is the law's where the arguments, and the package variables that the reading takes, are together of bulk at most 1048576: NARROWER than '..Said'. Prove '..Said' where nothing that the law and all that it calls make is longer than what came in: it says more and counts as full. Else prove '..UptoSaid'. A law counts once. -/
mutual
def uptoBulk {H : Type} : DataW H → Nat
  | .lit (.string bytes) => bytes.length + 1
  | .lit _ => 1
  | .nil => 1
  | .ptr d => uptoBulk d + 1
  | .slice elems spare => uptoBulkAll elems + uptoBulkAll spare + 1
  | .agg parts => uptoBulkAll parts + 1
  | .iface _ d => uptoBulk d + 1
  | .map entries => uptoBulkEntries entries + 1
  | .held _ => 1
def uptoBulkAll {H : Type} : List (DataW H) → Nat
  | [] => 0
  | d :: r => uptoBulk d + uptoBulkAll r
def uptoBulkEntries {H : Type} : List (Lit × DataW H) → Nat
  | [] => 0
  | x :: r => uptoBulkEntry x + uptoBulkEntries r
def uptoBulkEntry {H : Type} : Lit × DataW H → Nat
  | (.string bytes, d) => bytes.length + uptoBulk d + 1
  | (_, d) => uptoBulk d + 1
 end
def uptoSmall : (H : Type) → List (DataW H) → Bool := fun _ ds => decide (uptoBulkAll ds ≤ 1048576)
def OpenSpec.upto (s : _root_.Go.ChangeSpec) : _root_.Go.OpenSpec := { _root_.Go.OpenSpec.ofChange s with cond := some uptoSmall }

/-- 'platformfwlaw30.SuspendTraceAgrees', WHERE WHAT IT READS IS OF BULK AT MOST 1048576: true; the input reads as it did. -/
def suspendTraceAgreesUptoRow : OpenClaim := { program := "ytcmklipifhpgmaa", sum := "c18f97f7cbc1abc9ffb7407cf4dea72f515be5e13e878664112674b02bcd89d5", func := "platformfw/platformfwlaw30.SuspendTraceAgrees", spec := "suspendTraceAgrees", unfollowed := true, recurses := true, plainKeys := false, apart := false, narrowed := true }
def SuspendTraceAgreesUptoSaid : Prop := suspendTraceAgreesUptoRow.holds Try.pinned (OpenSpec.upto suspendTraceAgreesSpec)

/-- 'platformfwlaw30.SuspendCallsAgree', WHERE WHAT IT READS IS OF BULK AT MOST 1048576: true; the input reads as it did. -/
def suspendCallsAgreeUptoRow : OpenClaim := { program := "ytcmklipifhpgmaa", sum := "c18f97f7cbc1abc9ffb7407cf4dea72f515be5e13e878664112674b02bcd89d5", func := "platformfw/platformfwlaw30.SuspendCallsAgree", spec := "suspendCallsAgree", unfollowed := true, recurses := true, plainKeys := false, apart := false, narrowed := true }
def SuspendCallsAgreeUptoSaid : Prop := suspendCallsAgreeUptoRow.holds Try.pinned (OpenSpec.upto suspendCallsAgreeSpec)

/-- 'platformfwlaw30.SuspendNewAgrees', WHERE WHAT IT READS IS OF BULK AT MOST 1048576: true; the input reads as it did. -/
def suspendNewAgreesUptoRow : OpenClaim := { program := "ytcmklipifhpgmaa", sum := "c18f97f7cbc1abc9ffb7407cf4dea72f515be5e13e878664112674b02bcd89d5", func := "platformfw/platformfwlaw30.SuspendNewAgrees", spec := "suspendNewAgrees", unfollowed := true, recurses := true, plainKeys := false, apart := false, narrowed := true }
def SuspendNewAgreesUptoSaid : Prop := suspendNewAgreesUptoRow.holds Try.pinned (OpenSpec.upto suspendNewAgreesSpec)

/-- 'platformfwlaw30.SuspendMirrors', WHERE WHAT IT READS IS OF BULK AT MOST 1048576: true; the input reads as it did. -/
def suspendMirrorsUptoRow : OpenClaim := { program := "ytcmklipifhpgmaa", sum := "c18f97f7cbc1abc9ffb7407cf4dea72f515be5e13e878664112674b02bcd89d5", func := "platformfw/platformfwlaw30.SuspendMirrors", spec := "suspendMirrors", unfollowed := true, recurses := true, plainKeys := false, apart := false, narrowed := true }
def SuspendMirrorsUptoSaid : Prop := suspendMirrorsUptoRow.holds Try.pinned (OpenSpec.upto suspendMirrorsSpec)

/-- 'platformfwlaw30.SuspendUndoesExactly', WHERE WHAT IT READS IS OF BULK AT MOST 1048576: true; the input reads as it did. -/
def suspendUndoesExactlyUptoRow : OpenClaim := { program := "ytcmklipifhpgmaa", sum := "c18f97f7cbc1abc9ffb7407cf4dea72f515be5e13e878664112674b02bcd89d5", func := "platformfw/platformfwlaw30.SuspendUndoesExactly", spec := "suspendUndoesExactly", unfollowed := true, recurses := true, plainKeys := false, apart := false, narrowed := true }
def SuspendUndoesExactlyUptoSaid : Prop := suspendUndoesExactlyUptoRow.holds Try.pinned (OpenSpec.upto suspendUndoesExactlySpec)

/-- 'platformfwlaw30.SuspendFirstErrorIsResult', WHERE WHAT IT READS IS OF BULK AT MOST 1048576: true; the input reads as it did. -/
def suspendFirstErrorIsResultUptoRow : OpenClaim := { program := "ytcmklipifhpgmaa", sum := "c18f97f7cbc1abc9ffb7407cf4dea72f515be5e13e878664112674b02bcd89d5", func := "platformfw/platformfwlaw30.SuspendFirstErrorIsResult", spec := "suspendFirstErrorIsResult", unfollowed := true, recurses := true, plainKeys := false, apart := false, narrowed := true }
def SuspendFirstErrorIsResultUptoSaid : Prop := suspendFirstErrorIsResultUptoRow.holds Try.pinned (OpenSpec.upto suspendFirstErrorIsResultSpec)

/-- 'platformfwlaw30.SuspendAbortLikeFailure', WHERE WHAT IT READS IS OF BULK AT MOST 1048576: true; the input reads as it did. -/
def suspendAbortLikeFailureUptoRow : OpenClaim := { program := "ytcmklipifhpgmaa", sum := "c18f97f7cbc1abc9ffb7407cf4dea72f515be5e13e878664112674b02bcd89d5", func := "platformfw/platformfwlaw30.SuspendAbortLikeFailure", spec := "suspendAbortLikeFailure", unfollowed := true, recurses := true, plainKeys := false, apart := false, narrowed := true }
def SuspendAbortLikeFailureUptoSaid : Prop := suspendAbortLikeFailureUptoRow.holds Try.pinned (OpenSpec.upto suspendAbortLikeFailureSpec)

end Rows
end Go.Proofs.Ytcmklipifhpgmaa
