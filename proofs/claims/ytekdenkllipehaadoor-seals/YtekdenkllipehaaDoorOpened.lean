import Derived.Test.YtekdenkllipehaaDoorCrc
import Derived.WalkKit
import Derived.ProofKit
namespace Go.Proofs.YtekdenkllipehaaDoor
open Go.RowKit

/-- What Unseal answers of a text of four bytes at least, its seal R behind the text T. -/
def opened (T R : ByteArray) : Ending :=
  if R.data.toList = M.le4 (M.sum T.data.toList) then .returned (.tuple #[.string T, .int .i64 0])
  else .returned (.tuple #[.string ⟨#[]⟩, .int .i64 3])

theorem sealed_of (T R : ByteArray) (h : R.data.toList = M.le4 (M.sum T.data.toList)) : (⟨(M.sealed T.data.toList).toArray⟩ : ByteArray) = T ++ R := by
  unfold M.sealed
  rw [← h, ← ByteArray.mk_append_mk]

theorem sealed_ne (T R : ByteArray) (h : ¬ R.data.toList = M.le4 (M.sum T.data.toList)) : (⟨(M.sealed T.data.toList).toArray⟩ : ByteArray) ≠ T ++ R := by
  intro e
  apply h
  have e2 : M.sealed T.data.toList = T.data.toList ++ R.data.toList := by
    have := congrArg (fun b : ByteArray => b.data.toList) e
    simpa using this
  unfold M.sealed at e2
  exact (List.append_cancel_left e2).symm

end Go.Proofs.YtekdenkllipehaaDoor
