/-
  Texts one behind the other.
-/
import Derived.WalkKit
namespace Go.Proofs.Ytekdenkllipehaa
open Go.RowKit
namespace M
def cat (P : List ByteArray) : List UInt8 := P.flatMap fun p => p.data.toList
theorem cat_append (A B : List ByteArray) : cat (A ++ B) = cat A ++ cat B := by simp [cat]
theorem cat_one (p : ByteArray) : cat [p] = p.data.toList := by simp [cat]
theorem take_succ {α : Type} {L : List α} {k : Nat} {s : α} (h : L[k]? = some s) : L.take (k + 1) = L.take k ++ [s] := by
  rw [List.take_add_one, h]; rfl
theorem cat_take {P : List ByteArray} {k : Nat} {s : ByteArray} (h : P[k]? = some s) : cat (P.take (k + 1)) = cat (P.take k) ++ s.data.toList := by
  rw [take_succ h, cat_append, cat_one]
end M
end Go.Proofs.Ytekdenkllipehaa
