/-
  No cell of these rows narrows 'for every input' (looked for: loops, veiled, ifaces, maps, wideKeys, modest, calm, conditions, laid).
  DERIVED. THE GIVEN ROWS OF THIS SEAT. 7 by the template 'for every input the law returns true; each argument reads behind the call as it read before'; 0 by the template 'total and deterministic' (their statements: YtoafoikphpdimaaTotals.lean).
  GIVEN WITH THE SEED: the statements are not yours to turn. If you find one false, say at which input.
  Laid BY PROGRAM, IN A SANDBOX (cutbox-rows.mjs): the forced cells as the released guide's own fill.sh prints them over the translation ac7c7673afad19d9… (all of the seat's roots in one cut). By AI agents, Wed Nov 11 2026. No macro, syntax, notation, axiom, sorry.
-/
import Derived.Test.YtoafoikphpdimaaChecked
import GoSem.Claim
import GoSem.ClaimJoined
import GoSem.ClaimMapViews
import Derived.JoinedTies
import Derived.KernelRfl
namespace Go.Proofs.Ytoafoikphpdimaa
/- THE CELL 'sum', in the pinned program and in every row, IS THE sha256 OF THE DUMP (.gsa) THAT YtoafoikphpdimaaProg.lean LOADS. Nothing in Lean hashes anything: it is a label: what it is worth is what the hold of that sum in a sandbox is worth. -/
noncomputable def Try.pinned : Pinned := { name := "ytoafoikphpdimaa", sum := "ac7c7673afad19d96902da3cd0a4038a6a5096728cc84b66267a7fbbf593519a", checked := Try.checked }
namespace Rows
def none {H : Type} : Left H := { results := [], args := [] }

/-- 'platformfwlaw32.BlockdevCallsAgree': WHATEVER THE INPUT: true; the input reads as it did. -/
def blockdevCallsAgreeSpec : ChangeSpec := { name := "blockdevCallsAgree", fn := fun _ => fun
  | [d1, d2] => { results := [.lit (.bool true)], args := [d1, d2] }
  | _ => none }
def blockdevCallsAgreeRow : OpenClaim := { program := "ytoafoikphpdimaa", sum := "ac7c7673afad19d96902da3cd0a4038a6a5096728cc84b66267a7fbbf593519a", func := "platformfw/platformfwlaw32.BlockdevCallsAgree", spec := "blockdevCallsAgree", inPlace := ["internal/abi.NoEscape", "internal/bytealg.MakeNoZero"], apart := false }
def BlockdevCallsAgreeSaid : Prop := blockdevCallsAgreeRow.holds Try.pinned (OpenSpec.ofChange blockdevCallsAgreeSpec)

/-- ITS FALSE NEIGHBOUR: 'it returns false'. Refute it at one input. -/
def blockdevCallsAgreeWrong : ChangeSpec := { name := "blockdevCallsAgree", fn := fun _ => fun
  | [d1, d2] => { results := [.lit (.bool false)], args := [d1, d2] }
  | _ => none }
def BlockdevCallsAgreeWrongFalsely : Prop := blockdevCallsAgreeRow.holds Try.pinned (OpenSpec.ofChange blockdevCallsAgreeWrong)

/-- 'platformfwlaw32.BlockdevArguments': WHATEVER THE INPUT: true; the input reads as it did. -/
def blockdevArgumentsSpec : ChangeSpec := { name := "blockdevArguments", fn := fun _ => fun
  | [d1, d2, d3, d4] => { results := [.lit (.bool true)], args := [d1, d2, d3, d4] }
  | _ => none }
def blockdevArgumentsRow : OpenClaim := { program := "ytoafoikphpdimaa", sum := "ac7c7673afad19d96902da3cd0a4038a6a5096728cc84b66267a7fbbf593519a", func := "platformfw/platformfwlaw32.BlockdevArguments", spec := "blockdevArguments", inPlace := ["internal/abi.NoEscape", "internal/bytealg.MakeNoZero"], apart := false }
def BlockdevArgumentsSaid : Prop := blockdevArgumentsRow.holds Try.pinned (OpenSpec.ofChange blockdevArgumentsSpec)

/-- ITS FALSE NEIGHBOUR: 'it returns false'. Refute it at one input. -/
def blockdevArgumentsWrong : ChangeSpec := { name := "blockdevArguments", fn := fun _ => fun
  | [d1, d2, d3, d4] => { results := [.lit (.bool false)], args := [d1, d2, d3, d4] }
  | _ => none }
def BlockdevArgumentsWrongFalsely : Prop := blockdevArgumentsRow.holds Try.pinned (OpenSpec.ofChange blockdevArgumentsWrong)

/-- 'platformfwlaw32.BlockdevReadsLastWrite': WHATEVER THE INPUT: true; the input reads as it did. -/
def blockdevReadsLastWriteSpec : ChangeSpec := { name := "blockdevReadsLastWrite", fn := fun _ => fun
  | [d1, d2] => { results := [.lit (.bool true)], args := [d1, d2] }
  | _ => none }
def blockdevReadsLastWriteRow : OpenClaim := { program := "ytoafoikphpdimaa", sum := "ac7c7673afad19d96902da3cd0a4038a6a5096728cc84b66267a7fbbf593519a", func := "platformfw/platformfwlaw32.BlockdevReadsLastWrite", spec := "blockdevReadsLastWrite", inPlace := ["internal/abi.NoEscape", "internal/bytealg.MakeNoZero"], apart := false }
def BlockdevReadsLastWriteSaid : Prop := blockdevReadsLastWriteRow.holds Try.pinned (OpenSpec.ofChange blockdevReadsLastWriteSpec)

/-- ITS FALSE NEIGHBOUR: 'it returns false'. Refute it at one input. -/
def blockdevReadsLastWriteWrong : ChangeSpec := { name := "blockdevReadsLastWrite", fn := fun _ => fun
  | [d1, d2] => { results := [.lit (.bool false)], args := [d1, d2] }
  | _ => none }
def BlockdevReadsLastWriteWrongFalsely : Prop := blockdevReadsLastWriteRow.holds Try.pinned (OpenSpec.ofChange blockdevReadsLastWriteWrong)

/-- 'platformfwlaw32.BlockdevPowerLoss': WHATEVER THE INPUT: true; the input reads as it did. -/
def blockdevPowerLossSpec : ChangeSpec := { name := "blockdevPowerLoss", fn := fun _ => fun
  | [d1, d2, d3, d4] => { results := [.lit (.bool true)], args := [d1, d2, d3, d4] }
  | _ => none }
def blockdevPowerLossRow : OpenClaim := { program := "ytoafoikphpdimaa", sum := "ac7c7673afad19d96902da3cd0a4038a6a5096728cc84b66267a7fbbf593519a", func := "platformfw/platformfwlaw32.BlockdevPowerLoss", spec := "blockdevPowerLoss", inPlace := ["internal/abi.NoEscape", "internal/bytealg.MakeNoZero"], apart := false }
def BlockdevPowerLossSaid : Prop := blockdevPowerLossRow.holds Try.pinned (OpenSpec.ofChange blockdevPowerLossSpec)

/-- ITS FALSE NEIGHBOUR: 'it returns false'. Refute it at one input. -/
def blockdevPowerLossWrong : ChangeSpec := { name := "blockdevPowerLoss", fn := fun _ => fun
  | [d1, d2, d3, d4] => { results := [.lit (.bool false)], args := [d1, d2, d3, d4] }
  | _ => none }
def BlockdevPowerLossWrongFalsely : Prop := blockdevPowerLossRow.holds Try.pinned (OpenSpec.ofChange blockdevPowerLossWrong)

/-- 'platformfwlaw32.BlockdevCutPosition': WHATEVER THE INPUT: true; the input reads as it did. -/
def blockdevCutPositionSpec : ChangeSpec := { name := "blockdevCutPosition", fn := fun _ => fun
  | [d1, d2, d3, d4] => { results := [.lit (.bool true)], args := [d1, d2, d3, d4] }
  | _ => none }
def blockdevCutPositionRow : OpenClaim := { program := "ytoafoikphpdimaa", sum := "ac7c7673afad19d96902da3cd0a4038a6a5096728cc84b66267a7fbbf593519a", func := "platformfw/platformfwlaw32.BlockdevCutPosition", spec := "blockdevCutPosition", inPlace := ["internal/abi.NoEscape", "internal/bytealg.MakeNoZero"], apart := false }
def BlockdevCutPositionSaid : Prop := blockdevCutPositionRow.holds Try.pinned (OpenSpec.ofChange blockdevCutPositionSpec)

/-- ITS FALSE NEIGHBOUR: 'it returns false'. Refute it at one input. -/
def blockdevCutPositionWrong : ChangeSpec := { name := "blockdevCutPosition", fn := fun _ => fun
  | [d1, d2, d3, d4] => { results := [.lit (.bool false)], args := [d1, d2, d3, d4] }
  | _ => none }
def BlockdevCutPositionWrongFalsely : Prop := blockdevCutPositionRow.holds Try.pinned (OpenSpec.ofChange blockdevCutPositionWrong)

/-- 'platformfwlaw32.BlockdevContentsAreCopies': WHATEVER THE INPUT: true; the input reads as it did. -/
def blockdevContentsAreCopiesSpec : ChangeSpec := { name := "blockdevContentsAreCopies", fn := fun _ => fun
  | [d1, d2] => { results := [.lit (.bool true)], args := [d1, d2] }
  | _ => none }
def blockdevContentsAreCopiesRow : OpenClaim := { program := "ytoafoikphpdimaa", sum := "ac7c7673afad19d96902da3cd0a4038a6a5096728cc84b66267a7fbbf593519a", func := "platformfw/platformfwlaw32.BlockdevContentsAreCopies", spec := "blockdevContentsAreCopies", inPlace := ["internal/abi.NoEscape", "internal/bytealg.MakeNoZero"], apart := false }
def BlockdevContentsAreCopiesSaid : Prop := blockdevContentsAreCopiesRow.holds Try.pinned (OpenSpec.ofChange blockdevContentsAreCopiesSpec)

/-- ITS FALSE NEIGHBOUR: 'it returns false'. Refute it at one input. -/
def blockdevContentsAreCopiesWrong : ChangeSpec := { name := "blockdevContentsAreCopies", fn := fun _ => fun
  | [d1, d2] => { results := [.lit (.bool false)], args := [d1, d2] }
  | _ => none }
def BlockdevContentsAreCopiesWrongFalsely : Prop := blockdevContentsAreCopiesRow.holds Try.pinned (OpenSpec.ofChange blockdevContentsAreCopiesWrong)

/-- 'platformfwlaw32.BlockdevKeepPrefix': WHATEVER THE INPUT: true; the input reads as it did. -/
def blockdevKeepPrefixSpec : ChangeSpec := { name := "blockdevKeepPrefix", fn := fun _ => fun
  | [d1, d2, d3] => { results := [.lit (.bool true)], args := [d1, d2, d3] }
  | _ => none }
def blockdevKeepPrefixRow : OpenClaim := { program := "ytoafoikphpdimaa", sum := "ac7c7673afad19d96902da3cd0a4038a6a5096728cc84b66267a7fbbf593519a", func := "platformfw/platformfwlaw32.BlockdevKeepPrefix", spec := "blockdevKeepPrefix", inPlace := ["internal/abi.NoEscape", "internal/bytealg.MakeNoZero"], apart := false }
def BlockdevKeepPrefixSaid : Prop := blockdevKeepPrefixRow.holds Try.pinned (OpenSpec.ofChange blockdevKeepPrefixSpec)

/-- ITS FALSE NEIGHBOUR: 'it returns false'. Refute it at one input. -/
def blockdevKeepPrefixWrong : ChangeSpec := { name := "blockdevKeepPrefix", fn := fun _ => fun
  | [d1, d2, d3] => { results := [.lit (.bool false)], args := [d1, d2, d3] }
  | _ => none }
def BlockdevKeepPrefixWrongFalsely : Prop := blockdevKeepPrefixRow.holds Try.pinned (OpenSpec.ofChange blockdevKeepPrefixWrong)

/- THE SECOND FORM. 'bulk': how many values and letters a reading holds, each counted each time it is reached (what is shared counts as often as it is met; a slice's spare places count too). A statement '..UptoSaid' is the law's where the arguments, and the package variables that the reading takes, are together of bulk at most 1048576: NARROWER than '..Said'. Prove '..Said' where nothing that the law and all that it calls make is longer than what came in: it says more and counts as full. Else prove '..UptoSaid'. A law counts once. -/
mutual
def uptoBulk {H : Type} : DataW H → Nat
  | .lit (.string bytes) => bytes.length + 1
  | .lit _ => 1
  | .nil => 1
  | .ptr d => uptoBulk d + 1
  | .slice elems spare => uptoBulkAll elems + uptoBulkAll spare + 1
  | .agg parts => uptoBulkAll parts + 1
  | .iface _ d => uptoBulk d + 1
  | .map entries => uptoBulkEntries entries + 1
  | .held _ => 1
def uptoBulkAll {H : Type} : List (DataW H) → Nat
  | [] => 0
  | d :: r => uptoBulk d + uptoBulkAll r
def uptoBulkEntries {H : Type} : List (Lit × DataW H) → Nat
  | [] => 0
  | x :: r => uptoBulkEntry x + uptoBulkEntries r
def uptoBulkEntry {H : Type} : Lit × DataW H → Nat
  | (.string bytes, d) => bytes.length + uptoBulk d + 1
  | (_, d) => uptoBulk d + 1
 end
def uptoSmall : (H : Type) → List (DataW H) → Bool := fun _ ds => decide (uptoBulkAll ds ≤ 1048576)
def OpenSpec.upto (s : _root_.Go.ChangeSpec) : _root_.Go.OpenSpec := { _root_.Go.OpenSpec.ofChange s with cond := some uptoSmall }

/-- 'platformfwlaw32.BlockdevCallsAgree', WHERE WHAT IT READS IS OF BULK AT MOST 1048576: true; the input reads as it did. -/
def blockdevCallsAgreeUptoRow : OpenClaim := { program := "ytoafoikphpdimaa", sum := "ac7c7673afad19d96902da3cd0a4038a6a5096728cc84b66267a7fbbf593519a", func := "platformfw/platformfwlaw32.BlockdevCallsAgree", spec := "blockdevCallsAgree", inPlace := ["internal/abi.NoEscape", "internal/bytealg.MakeNoZero"], apart := false, narrowed := true }
def BlockdevCallsAgreeUptoSaid : Prop := blockdevCallsAgreeUptoRow.holds Try.pinned (OpenSpec.upto blockdevCallsAgreeSpec)

/-- 'platformfwlaw32.BlockdevArguments', WHERE WHAT IT READS IS OF BULK AT MOST 1048576: true; the input reads as it did. -/
def blockdevArgumentsUptoRow : OpenClaim := { program := "ytoafoikphpdimaa", sum := "ac7c7673afad19d96902da3cd0a4038a6a5096728cc84b66267a7fbbf593519a", func := "platformfw/platformfwlaw32.BlockdevArguments", spec := "blockdevArguments", inPlace := ["internal/abi.NoEscape", "internal/bytealg.MakeNoZero"], apart := false, narrowed := true }
def BlockdevArgumentsUptoSaid : Prop := blockdevArgumentsUptoRow.holds Try.pinned (OpenSpec.upto blockdevArgumentsSpec)

/-- 'platformfwlaw32.BlockdevReadsLastWrite', WHERE WHAT IT READS IS OF BULK AT MOST 1048576: true; the input reads as it did. -/
def blockdevReadsLastWriteUptoRow : OpenClaim := { program := "ytoafoikphpdimaa", sum := "ac7c7673afad19d96902da3cd0a4038a6a5096728cc84b66267a7fbbf593519a", func := "platformfw/platformfwlaw32.BlockdevReadsLastWrite", spec := "blockdevReadsLastWrite", inPlace := ["internal/abi.NoEscape", "internal/bytealg.MakeNoZero"], apart := false, narrowed := true }
def BlockdevReadsLastWriteUptoSaid : Prop := blockdevReadsLastWriteUptoRow.holds Try.pinned (OpenSpec.upto blockdevReadsLastWriteSpec)

/-- 'platformfwlaw32.BlockdevPowerLoss', WHERE WHAT IT READS IS OF BULK AT MOST 1048576: true; the input reads as it did. -/
def blockdevPowerLossUptoRow : OpenClaim := { program := "ytoafoikphpdimaa", sum := "ac7c7673afad19d96902da3cd0a4038a6a5096728cc84b66267a7fbbf593519a", func := "platformfw/platformfwlaw32.BlockdevPowerLoss", spec := "blockdevPowerLoss", inPlace := ["internal/abi.NoEscape", "internal/bytealg.MakeNoZero"], apart := false, narrowed := true }
def BlockdevPowerLossUptoSaid : Prop := blockdevPowerLossUptoRow.holds Try.pinned (OpenSpec.upto blockdevPowerLossSpec)

/-- 'platformfwlaw32.BlockdevCutPosition', WHERE WHAT IT READS IS OF BULK AT MOST 1048576: true; the input reads as it did. -/
def blockdevCutPositionUptoRow : OpenClaim := { program := "ytoafoikphpdimaa", sum := "ac7c7673afad19d96902da3cd0a4038a6a5096728cc84b66267a7fbbf593519a", func := "platformfw/platformfwlaw32.BlockdevCutPosition", spec := "blockdevCutPosition", inPlace := ["internal/abi.NoEscape", "internal/bytealg.MakeNoZero"], apart := false, narrowed := true }
def BlockdevCutPositionUptoSaid : Prop := blockdevCutPositionUptoRow.holds Try.pinned (OpenSpec.upto blockdevCutPositionSpec)

/-- 'platformfwlaw32.BlockdevContentsAreCopies', WHERE WHAT IT READS IS OF BULK AT MOST 1048576: true; the input reads as it did. -/
def blockdevContentsAreCopiesUptoRow : OpenClaim := { program := "ytoafoikphpdimaa", sum := "ac7c7673afad19d96902da3cd0a4038a6a5096728cc84b66267a7fbbf593519a", func := "platformfw/platformfwlaw32.BlockdevContentsAreCopies", spec := "blockdevContentsAreCopies", inPlace := ["internal/abi.NoEscape", "internal/bytealg.MakeNoZero"], apart := false, narrowed := true }
def BlockdevContentsAreCopiesUptoSaid : Prop := blockdevContentsAreCopiesUptoRow.holds Try.pinned (OpenSpec.upto blockdevContentsAreCopiesSpec)

/-- 'platformfwlaw32.BlockdevKeepPrefix', WHERE WHAT IT READS IS OF BULK AT MOST 1048576: true; the input reads as it did. -/
def blockdevKeepPrefixUptoRow : OpenClaim := { program := "ytoafoikphpdimaa", sum := "ac7c7673afad19d96902da3cd0a4038a6a5096728cc84b66267a7fbbf593519a", func := "platformfw/platformfwlaw32.BlockdevKeepPrefix", spec := "blockdevKeepPrefix", inPlace := ["internal/abi.NoEscape", "internal/bytealg.MakeNoZero"], apart := false, narrowed := true }
def BlockdevKeepPrefixUptoSaid : Prop := blockdevKeepPrefixUptoRow.holds Try.pinned (OpenSpec.upto blockdevKeepPrefixSpec)

end Rows
end Go.Proofs.Ytoafoikphpdimaa
