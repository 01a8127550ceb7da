/-
  What Apply answers.
-/
import Derived.Test.YtekdenkllipehaaChg
import Derived.WalkKit
namespace Go.Proofs.Ytekdenkllipehaa
open Go.RowKit

/-- What a change makes of a base. -/
def applied (r : Option (Nat × List Nat)) (base : List UInt8) : Option (List UInt8) :=
  match r with
  | none => none
  | some (_, acc) => if base.length < M.reach acc then none else some (M.made acc base)

/-- Apply's answer. -/
def appliedEnd (o : Option (List UInt8)) : Ending :=
  match o with
  | none => .returned (.tuple #[.string ⟨#[]⟩, .int .i64 5])
  | some t => .returned (.tuple #[.string ⟨t.toArray⟩, .int .i64 0])
end Go.Proofs.Ytekdenkllipehaa
