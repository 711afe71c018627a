/-
  No cell of these rows narrows 'for every input' (looked for: loops, veiled, ifaces, maps, wideKeys, modest, calm, conditions, laid).
  DERIVED. THE GIVEN ROWS OF THIS SEAT. 4 by the template 'for every input the law returns true; each argument reads behind the call as it read before'; 0 by the template 'total and deterministic' (their statements: YtkolghjjifcjkaaTotals.lean).
  GIVEN WITH THE SEED: the statements are not yours to turn. If you find one false, say at which input.
  Laid BY PROGRAM, IN A SANDBOX (cutbox-rows.mjs): the forced cells as the released guide's own fill.sh prints them over the translation 031ba79d8149020a… (all of the seat's roots in one cut). By AI agents, Wed Nov 11 2026. No macro, syntax, notation, axiom, sorry.
-/
import Derived.Test.YtkolghjjifcjkaaChecked
import GoSem.Claim
import GoSem.ClaimJoined
import GoSem.ClaimMapViews
import Derived.JoinedTies
import Derived.KernelRfl
namespace Go.Proofs.Ytkolghjjifcjkaa
/- THE CELL 'sum', in the pinned program and in every row, IS THE sha256 OF THE DUMP (.gsa) THAT YtkolghjjifcjkaaProg.lean LOADS. Nothing in Lean hashes anything: it is a label: what it is worth is what the hold of that sum in a sandbox is worth. -/
noncomputable def Try.pinned : Pinned := { name := "ytkolghjjifcjkaa", sum := "031ba79d8149020afbf8e544488f0c8a4699a69aa2aa9e9bd394d4f531f36615", checked := Try.checked }
namespace Rows
def none {H : Type} : Left H := { results := [], args := [] }

/-- 'platformfwlaw05.BytecodeIntegers': WHATEVER THE INPUT: true; the input reads as it did. -/
def bytecodeIntegersSpec : ChangeSpec := { name := "bytecodeIntegers", fn := fun _ => fun
  | [d1, d2, d3, d4] => { results := [.lit (.bool true)], args := [d1, d2, d3, d4] }
  | _ => none }
def bytecodeIntegersRow : OpenClaim := { program := "ytkolghjjifcjkaa", sum := "031ba79d8149020afbf8e544488f0c8a4699a69aa2aa9e9bd394d4f531f36615", func := "platformfw/platformfwlaw05.BytecodeIntegers", spec := "bytecodeIntegers", apart := false }
def BytecodeIntegersSaid : Prop := bytecodeIntegersRow.holds Try.pinned (OpenSpec.ofChange bytecodeIntegersSpec)

/-- ITS FALSE NEIGHBOUR: 'it returns false'. Refute it at one input. -/
def bytecodeIntegersWrong : ChangeSpec := { name := "bytecodeIntegers", fn := fun _ => fun
  | [d1, d2, d3, d4] => { results := [.lit (.bool false)], args := [d1, d2, d3, d4] }
  | _ => none }
def BytecodeIntegersWrongFalsely : Prop := bytecodeIntegersRow.holds Try.pinned (OpenSpec.ofChange bytecodeIntegersWrong)

/-- 'platformfwlaw05.BytecodeDecodesIntegers': WHATEVER THE INPUT: true; the input reads as it did. -/
def bytecodeDecodesIntegersSpec : ChangeSpec := { name := "bytecodeDecodesIntegers", fn := fun _ => fun
  | [d1, d2] => { results := [.lit (.bool true)], args := [d1, d2] }
  | _ => none }
def bytecodeDecodesIntegersRow : OpenClaim := { program := "ytkolghjjifcjkaa", sum := "031ba79d8149020afbf8e544488f0c8a4699a69aa2aa9e9bd394d4f531f36615", func := "platformfw/platformfwlaw05.BytecodeDecodesIntegers", spec := "bytecodeDecodesIntegers", apart := false }
def BytecodeDecodesIntegersSaid : Prop := bytecodeDecodesIntegersRow.holds Try.pinned (OpenSpec.ofChange bytecodeDecodesIntegersSpec)

/-- ITS FALSE NEIGHBOUR: 'it returns false'. Refute it at one input. -/
def bytecodeDecodesIntegersWrong : ChangeSpec := { name := "bytecodeDecodesIntegers", fn := fun _ => fun
  | [d1, d2] => { results := [.lit (.bool false)], args := [d1, d2] }
  | _ => none }
def BytecodeDecodesIntegersWrongFalsely : Prop := bytecodeDecodesIntegersRow.holds Try.pinned (OpenSpec.ofChange bytecodeDecodesIntegersWrong)

/-- 'platformfwlaw05.BytecodeLengths': WHATEVER THE INPUT: true; the input reads as it did. -/
def bytecodeLengthsSpec : ChangeSpec := { name := "bytecodeLengths", fn := fun _ => fun
  | [d1, d2, d3, d4] => { results := [.lit (.bool true)], args := [d1, d2, d3, d4] }
  | _ => none }
def bytecodeLengthsRow : OpenClaim := { program := "ytkolghjjifcjkaa", sum := "031ba79d8149020afbf8e544488f0c8a4699a69aa2aa9e9bd394d4f531f36615", func := "platformfw/platformfwlaw05.BytecodeLengths", spec := "bytecodeLengths", apart := false }
def BytecodeLengthsSaid : Prop := bytecodeLengthsRow.holds Try.pinned (OpenSpec.ofChange bytecodeLengthsSpec)

/-- ITS FALSE NEIGHBOUR: 'it returns false'. Refute it at one input. -/
def bytecodeLengthsWrong : ChangeSpec := { name := "bytecodeLengths", fn := fun _ => fun
  | [d1, d2, d3, d4] => { results := [.lit (.bool false)], args := [d1, d2, d3, d4] }
  | _ => none }
def BytecodeLengthsWrongFalsely : Prop := bytecodeLengthsRow.holds Try.pinned (OpenSpec.ofChange bytecodeLengthsWrong)

/-- 'platformfwlaw05.BytecodeStrings': WHATEVER THE INPUT: true; the input reads as it did. -/
def bytecodeStringsSpec : ChangeSpec := { name := "bytecodeStrings", fn := fun _ => fun
  | [d1, d2, d3, d4] => { results := [.lit (.bool true)], args := [d1, d2, d3, d4] }
  | _ => none }
def bytecodeStringsRow : OpenClaim := { program := "ytkolghjjifcjkaa", sum := "031ba79d8149020afbf8e544488f0c8a4699a69aa2aa9e9bd394d4f531f36615", func := "platformfw/platformfwlaw05.BytecodeStrings", spec := "bytecodeStrings", apart := false }
def BytecodeStringsSaid : Prop := bytecodeStringsRow.holds Try.pinned (OpenSpec.ofChange bytecodeStringsSpec)

/-- ITS FALSE NEIGHBOUR: 'it returns false'. Refute it at one input. -/
def bytecodeStringsWrong : ChangeSpec := { name := "bytecodeStrings", fn := fun _ => fun
  | [d1, d2, d3, d4] => { results := [.lit (.bool false)], args := [d1, d2, d3, d4] }
  | _ => none }
def BytecodeStringsWrongFalsely : Prop := bytecodeStringsRow.holds Try.pinned (OpenSpec.ofChange bytecodeStringsWrong)

/- THE SECOND FORM. 'bulk': how many values and letters a reading holds, each counted each time it is reached (what is shared counts as often as it is met; a slice's spare places count too). A statement '..UptoSaid' is the law's where the arguments, and the package variables that the reading takes, are together of bulk at most 1048576: NARROWER than '..Said'. Prove '..Said' where nothing that the law and all that it calls make is longer than what came in: it says more and counts as full. Else prove '..UptoSaid'. A law counts once. -/
mutual
def uptoBulk {H : Type} : DataW H → Nat
  | .lit (.string bytes) => bytes.length + 1
  | .lit _ => 1
  | .nil => 1
  | .ptr d => uptoBulk d + 1
  | .slice elems spare => uptoBulkAll elems + uptoBulkAll spare + 1
  | .agg parts => uptoBulkAll parts + 1
  | .iface _ d => uptoBulk d + 1
  | .map entries => uptoBulkEntries entries + 1
  | .held _ => 1
def uptoBulkAll {H : Type} : List (DataW H) → Nat
  | [] => 0
  | d :: r => uptoBulk d + uptoBulkAll r
def uptoBulkEntries {H : Type} : List (Lit × DataW H) → Nat
  | [] => 0
  | x :: r => uptoBulkEntry x + uptoBulkEntries r
def uptoBulkEntry {H : Type} : Lit × DataW H → Nat
  | (.string bytes, d) => bytes.length + uptoBulk d + 1
  | (_, d) => uptoBulk d + 1
 end
def uptoSmall : (H : Type) → List (DataW H) → Bool := fun _ ds => decide (uptoBulkAll ds ≤ 1048576)
def OpenSpec.upto (s : _root_.Go.ChangeSpec) : _root_.Go.OpenSpec := { _root_.Go.OpenSpec.ofChange s with cond := some uptoSmall }

/-- 'platformfwlaw05.BytecodeIntegers', WHERE WHAT IT READS IS OF BULK AT MOST 1048576: true; the input reads as it did. -/
def bytecodeIntegersUptoRow : OpenClaim := { program := "ytkolghjjifcjkaa", sum := "031ba79d8149020afbf8e544488f0c8a4699a69aa2aa9e9bd394d4f531f36615", func := "platformfw/platformfwlaw05.BytecodeIntegers", spec := "bytecodeIntegers", apart := false, narrowed := true }
def BytecodeIntegersUptoSaid : Prop := bytecodeIntegersUptoRow.holds Try.pinned (OpenSpec.upto bytecodeIntegersSpec)

/-- 'platformfwlaw05.BytecodeDecodesIntegers', WHERE WHAT IT READS IS OF BULK AT MOST 1048576: true; the input reads as it did. -/
def bytecodeDecodesIntegersUptoRow : OpenClaim := { program := "ytkolghjjifcjkaa", sum := "031ba79d8149020afbf8e544488f0c8a4699a69aa2aa9e9bd394d4f531f36615", func := "platformfw/platformfwlaw05.BytecodeDecodesIntegers", spec := "bytecodeDecodesIntegers", apart := false, narrowed := true }
def BytecodeDecodesIntegersUptoSaid : Prop := bytecodeDecodesIntegersUptoRow.holds Try.pinned (OpenSpec.upto bytecodeDecodesIntegersSpec)

/-- 'platformfwlaw05.BytecodeLengths', WHERE WHAT IT READS IS OF BULK AT MOST 1048576: true; the input reads as it did. -/
def bytecodeLengthsUptoRow : OpenClaim := { program := "ytkolghjjifcjkaa", sum := "031ba79d8149020afbf8e544488f0c8a4699a69aa2aa9e9bd394d4f531f36615", func := "platformfw/platformfwlaw05.BytecodeLengths", spec := "bytecodeLengths", apart := false, narrowed := true }
def BytecodeLengthsUptoSaid : Prop := bytecodeLengthsUptoRow.holds Try.pinned (OpenSpec.upto bytecodeLengthsSpec)

/-- 'platformfwlaw05.BytecodeStrings', WHERE WHAT IT READS IS OF BULK AT MOST 1048576: true; the input reads as it did. -/
def bytecodeStringsUptoRow : OpenClaim := { program := "ytkolghjjifcjkaa", sum := "031ba79d8149020afbf8e544488f0c8a4699a69aa2aa9e9bd394d4f531f36615", func := "platformfw/platformfwlaw05.BytecodeStrings", spec := "bytecodeStrings", apart := false, narrowed := true }
def BytecodeStringsUptoSaid : Prop := bytecodeStringsUptoRow.holds Try.pinned (OpenSpec.upto bytecodeStringsSpec)

end Rows
end Go.Proofs.Ytkolghjjifcjkaa
