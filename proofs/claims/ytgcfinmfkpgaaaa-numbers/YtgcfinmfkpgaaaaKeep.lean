/-
  What a call does to memory here: it lays new blocks, writes into these alone, and draws.
-/
import Derived.WalkKit
import Derived.ProofKit
namespace Go.Proofs.Ytgcfinmfkpgaaaa
open Go.RowKit

/-- Of what was there nothing turns. -/
structure Q (w w' : World) : Prop where
  below : Below w.heap.size w w'
  frz : ∀ a, w'.frozen? a = w.frozen? a

theorem Q.refl (w : World) : Q w w := ⟨Below.refl _ _, fun _ => rfl⟩
theorem Q.trans {a b c : World} (h : Q a b) (k : Q b c) : Q a c := ⟨h.below.trans (k.below.mono h.below.size), fun x => (k.frz x).trans (h.frz x)⟩
theorem Q.grown {a b : World} (h : Q a b) : Grown a b := ⟨h.below.frame _, h.frz, h.below.size⟩
theorem Q.alloc {a b : World} (h : Q a b) (c : Array Value) (t : TypeId) : Q a (b.alloc (.cells c t)) :=
  ⟨h.below.alloc h.below.size _, fun x => (((Grown.refl b).alloc c t).2.1 x).trans (h.frz x)⟩
theorem Q.setCell {a b : World} (h : Q a b) {p : Addr} (hp : a.heap.size ≤ p.block) (v : Value) : Q a (b.setCell p v) :=
  ⟨h.below.setCell hp _, fun x => by
    rw [show (b.setCell p v).frozen? x = b.frozen? x from World.frozen?_setCell ..]; exact h.frz x⟩
theorem Q.drew {a b : World} (h : Q a b) : Q a b.drew := ⟨h.below.drew, h.frz⟩
end Go.Proofs.Ytgcfinmfkpgaaaa
