import Derived.Test.YtekdenkllipehabGreatDoorK01
import Derived.WalkKit
import Derived.ProofKit
set_option maxRecDepth 100000
set_option maxHeartbeats 8000000
namespace Go.Proofs.YtekdenkllipehabGreatDoor
open Go.RowKit
def opened (T R:ByteArray):Ending:=
 if R.data.toList=M.le4 (M.sum T.data.toList) then .returned (.tuple #[.string T,.int .i64 0])
 else .returned (.tuple #[.string ⟨#[]⟩,.int .i64 3])
theorem sealed_of (T R:ByteArray) (h:R.data.toList=M.le4 (M.sum T.data.toList)):(⟨(M.sealed T.data.toList).toArray⟩:ByteArray)=T++R:=by
 unfold M.sealed
 rw [←h,←ByteArray.mk_append_mk]
end Go.Proofs.YtekdenkllipehabGreatDoor
