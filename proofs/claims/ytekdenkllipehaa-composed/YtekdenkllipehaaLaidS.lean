import Derived.Test.YtekdenkllipehaaRows
import Derived.Test.YtekdenkllipehaaKeep
import Derived.Shelf.SlSorted.Search
namespace Go.Proofs.Ytekdenkllipehaa
open Go.Shelf
def laysSearch_ren : Go.Shelf.Ren := ⟨fun | 14 => 36 | 16 => 60 | 22 => 61 | n => n, fun | 0 => 0 | 3 => 3 | 4 => 4 | 28 => 31 | 35 => 62 | 38 => 43 | n => n, fun n => n⟩
theorem laysSearch : SlLaysO.n14 Try.prog laysSearch_ren := {
  mixed := by kernel_rfl
  f14 := Try.func36.trans (congrArg some (by kernel_rfl))
  f16 := Try.func60.trans (congrArg some (by kernel_rfl))
  f22 := Try.func61.trans (congrArg some (by kernel_rfl))
  t0 := Try.underlying0
  a0 := Try.isAgg0
  z0 := Try.sizeOf0
  v0 := Try.zeroValue0
  t3 := Try.underlying3
  a3 := Try.isAgg3
  z3 := Try.sizeOf3
  v3 := Try.zeroValue3
  t4 := Try.underlying4
  a4 := Try.isAgg4
  z4 := Try.sizeOf4
  v4 := Try.zeroValue4
  t28 := Try.underlying31
  a28 := Try.isAgg31
  z28 := Try.sizeOf31
  v28 := Try.zeroValue31
  t35 := Try.underlying62
  a35 := Try.isAgg62
  z35 := Try.sizeOf62
  v35 := Try.zeroValue62
  t38 := Try.underlying43
  a38 := Try.isAgg43
  z38 := Try.sizeOf43
  v38 := Try.zeroValue43 }

end Go.Proofs.Ytekdenkllipehaa
