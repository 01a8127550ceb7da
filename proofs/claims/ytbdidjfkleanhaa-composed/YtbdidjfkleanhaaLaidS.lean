import Derived.Test.YtbdidjfkleanhaaRows
import Derived.Test.YtbdidjfkleanhaaKeep
import Derived.Shelf.SlSorted.Search
namespace Go.Proofs.Ytbdidjfkleanhaa
open Go.Shelf
def laysSearch_ren : Go.Shelf.Ren := ⟨fun | 14 => 30 | 16 => 45 | 22 => 46 | n => n, fun | 0 => 0 | 3 => 3 | 4 => 4 | 28 => 31 | 35 => 79 | 38 => 40 | n => n, fun n => n⟩
theorem laysSearch : SlLaysO.n14 Try.prog laysSearch_ren := {
  mixed := by kernel_rfl
  f14 := Try.func30.trans (congrArg some (by kernel_rfl))
  f16 := Try.func45.trans (congrArg some (by kernel_rfl))
  f22 := Try.func46.trans (congrArg some (by kernel_rfl))
  t0 := Try.underlying0
  a0 := Try.isAgg0
  z0 := Try.sizeOf0
  v0 := Try.zeroValue0
  t3 := Try.underlying3
  a3 := Try.isAgg3
  z3 := Try.sizeOf3
  v3 := Try.zeroValue3
  t4 := Try.underlying4
  a4 := Try.isAgg4
  z4 := Try.sizeOf4
  v4 := Try.zeroValue4
  t28 := Try.underlying31
  a28 := Try.isAgg31
  z28 := Try.sizeOf31
  v28 := Try.zeroValue31
  t35 := Try.underlying79
  a35 := Try.isAgg79
  z35 := Try.sizeOf79
  v35 := Try.zeroValue79
  t38 := Try.underlying40
  a38 := Try.isAgg40
  z38 := Try.sizeOf40
  v38 := Try.zeroValue40 }

end Go.Proofs.Ytbdidjfkleanhaa
