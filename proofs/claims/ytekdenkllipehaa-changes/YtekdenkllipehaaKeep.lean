/-
  What a call does to memory here: it lays new blocks, writes into these alone, and draws.
-/
import Derived.WalkKit
import Derived.ProofKit
import Derived.WalkSmall
namespace Go.Proofs.Ytekdenkllipehaa
open Go.RowKit

/-- Of what was there nothing turns. -/
structure Q (w w' : World) : Prop where
  below : Below w.heap.size w w'

theorem Q.refl (w : World) : Q w w := ⟨Below.refl _ _⟩
theorem Q.trans {a b c : World} (h : Q a b) (k : Q b c) : Q a c := ⟨h.below.trans (k.below.mono h.below.size)⟩
theorem Q.alloc {a b : World} (h : Q a b) (c : Array Value) (t : TypeId) : Q a (b.alloc (.cells c t)) := ⟨h.below.alloc h.below.size _⟩
theorem Q.setCell {a b : World} (h : Q a b) {p : Addr} (hp : a.heap.size ≤ p.block) (v : Value) : Q a (b.setCell p v) := ⟨h.below.setCell hp _⟩
theorem Q.drewN {a b : World} (h : Q a b) (n : Nat) : Q a (b.drewN n) := ⟨below_drewN h.below n⟩
theorem Q.drew {a b : World} (h : Q a b) : Q a b.drew := ⟨h.below.drew⟩
theorem q_undrew {w w1 : World} (h : Q w.drew w1) : Q w w1 := ⟨⟨h.below.os, h.below.tape, h.below.output, h.below.size, h.below.block⟩⟩
theorem q_undrewN {w w1 : World} {n : Nat} (h : Q (w.drewN n) w1) : Q w w1 := ((Q.refl w).drewN n).trans h
end Go.Proofs.Ytekdenkllipehaa
