import Derived.Test.YtekdenkllipehaaMath
import Derived.WalkKit
namespace Go.Proofs.Ytekdenkllipehaa
open Go.RowKit

/-- What a reading answers. -/
def told (o : Option (Nat × Nat)) (a : Nat) : Ending :=
  match o with
  | none => .returned (.tuple #[.int .i64 0, .int .i64 0, .int .i64 2])
  | some (v, k) => .returned (.tuple #[.int .i64 v, .int .i64 ((a + k : Nat) : Int), .int .i64 0])

theorem told_none {D : List UInt8} {a : Nat} (h : M.rd 8 [] D = none) : Ending.returned (.tuple #[.int .i64 0, .int .i64 0, .int .i64 2]) = told (M.rd 8 [] D) a := by rw [h]; rfl

theorem told_hit {D : List UInt8} {k a : Nat} {b : UInt8} {x y : Int} (hF : M.Far D k) (hk : k < 8) (hb : D[k]? = some b) (h1 : b.toNat < 128) (h0 : ¬ b.toNat = 0 ∨ ¬ 0 < k) (hx : x = (M.val (D.take (k + 1)) : Int)) (hy : y = (a : Int) + (k : Int) + 1) :
    Ending.returned (.tuple #[.int .i64 x, .int .i64 y, .int .i64 0]) = told (M.rd 8 [] D) a := by
  subst hx hy
  rw [M.rd_hit hF hk hb h1 (by
    rcases h0 with h0 | h0
    · left; rintro rfl; exact h0 rfl
    · right; omega)]
  show _ = Ending.returned (.tuple #[.int .i64 _, .int .i64 ((a + (k + 1) : Nat) : Int), .int .i64 0])
  rw [show (a : Int) + (k : Int) + 1 = ((a + (k + 1) : Nat) : Int) by omega]

theorem byteAt (s : ByteArray) (a k : Nat) (h : a + k < s.size) : (s.data.toList.drop a)[k]? = some s[a + k] := by
  rw [List.getElem?_drop, List.getElem?_eq_getElem (by simpa using h)]; rfl

end Go.Proofs.Ytekdenkllipehaa
