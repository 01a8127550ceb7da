import Derived.Test.YtekdenkllipehaaRows
import Derived.Test.YtekdenkllipehaaKeep
import Derived.Shelf.Spec.SearchS
namespace Go.Proofs.Ytekdenkllipehaa
open Go.Shelf
def laysBs_ren : Go.Shelf.Ren := ⟨fun | 26 => 110 | 33 => 117 | 34 => 118 | 38 => 123 | n => n, fun | 0 => 0 | 3 => 3 | 4 => 4 | 9 => 9 | 24 => 69 | 40 => 43 | n => n, fun n => n⟩
theorem laysBs : Lays2.n26 Try.prog laysBs_ren := {
  mixed := by kernel_rfl
  f26 := Try.func110.trans (congrArg some (by kernel_rfl))
  f33 := Try.func117.trans (congrArg some (by kernel_rfl))
  f34 := Try.func118.trans (congrArg some (by kernel_rfl))
  f38 := Try.func123.trans (congrArg some (by kernel_rfl))
  t0 := Try.underlying0
  a0 := Try.isAgg0
  z0 := Try.sizeOf0
  v0 := Try.zeroValue0
  t3 := Try.underlying3
  a3 := Try.isAgg3
  z3 := Try.sizeOf3
  v3 := Try.zeroValue3
  t4 := Try.underlying4
  a4 := Try.isAgg4
  z4 := Try.sizeOf4
  v4 := Try.zeroValue4
  t9 := Try.underlying9
  a9 := Try.isAgg9
  z9 := Try.sizeOf9
  v9 := Try.zeroValue9
  t24 := Try.underlying69
  a24 := Try.isAgg69
  z24 := Try.sizeOf69
  v24 := Try.zeroValue69
  t40 := Try.underlying43
  a40 := Try.isAgg43
  z40 := Try.sizeOf43
  v40 := Try.zeroValue43 }

end Go.Proofs.Ytekdenkllipehaa
