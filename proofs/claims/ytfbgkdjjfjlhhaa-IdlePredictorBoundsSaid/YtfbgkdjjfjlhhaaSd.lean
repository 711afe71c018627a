/- The contract of slices.Delete, laid at this program's numbers. -/
import Derived.Shelf.SlGeneric
import Derived.Shelf.SlicesE.Delete
import Derived.Ground.SlgnProg
import Derived.Test.YtfbgkdjjfjlhhaaProg
namespace Go.Proofs
open Go.Shelf
def Try.sdel_ren : Go.Shelf.Ren := ⟨fun | 45 => 37 | n => n, fun | 22 => 50 | 23 => 23 | 3 => 3 | 4 => 4 | 0 => 0 | n => n, fun | n => n⟩
theorem Try.sdel : Go.Proofs.SlLaysE.n45 Try.prog Try.sdel_ren := {
  mixed := by kernel_rfl
  f45 := ⟨Try.f37.name, by decide, Try.func37.trans (congrArg some (by kernel_rfl))⟩
  t0 := Try.underlying0
  a0 := Try.isAgg0
  z0 := Try.sizeOf0
  v0 := Try.zeroValue0
  t3 := Try.underlying3
  a3 := Try.isAgg3
  z3 := Try.sizeOf3
  v3 := Try.zeroValue3
  t4 := Try.underlying4
  a4 := Try.isAgg4
  z4 := Try.sizeOf4
  v4 := Try.zeroValue4
  t22 := Try.underlying50
  a22 := Try.isAgg50
  z22 := Try.sizeOf50
  v22 := Try.zeroValue50
  a23 := Try.isAgg23
  z23 := Try.sizeOf23 }
end Go.Proofs
