import Derived.Test.YtekdenkllipehabGreatDoorK07
import Derived.Test.YtekdenkllipehabGreatDoorRows
import Derived.Shelf.Small.Strs
set_option maxRecDepth 100000
set_option maxHeartbeats 8000000
namespace Go.Proofs.YtekdenkllipehabGreatDoor
open Go.Shelf
def laysCo_ren:Go.Shelf.Ren:=⟨fun | 106=>143 | 213=>173 | 265=>194 | n=>n,fun | 3=>3 | 9=>9 | n=>n,fun n=>n⟩
theorem laysCo:Lays.n106 Tryz.prog laysCo_ren:={
 mixed:=by kernel_rfl
 f106:=Tryz.func143.trans (congrArg some (by kernel_rfl))
 f213:=Tryz.func173.trans (congrArg some (by kernel_rfl))
 f265:=Tryz.func194.trans (congrArg some (by kernel_rfl))
 t3:=Tryz.underlying3
 a3:=Tryz.isAgg3
 z3:=Tryz.sizeOf3
 v3:=Tryz.zeroValue3
 t9:=Tryz.underlying9
 a9:=Tryz.isAgg9
 z9:=Tryz.sizeOf9
 v9:=Tryz.zeroValue9 }
end Go.Proofs.YtekdenkllipehabGreatDoor
