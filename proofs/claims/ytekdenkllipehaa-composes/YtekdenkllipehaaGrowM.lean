/-
  A row of steps that a call makes.
-/
import Derived.Test.YtekdenkllipehaaRead
namespace Go.Proofs.Ytekdenkllipehaa
open Go.RowKit

/-- A row of steps that the call makes, behind the world w0. -/
structure Grow (w0 : World) (C : List M.St) (ao : Option Addr) (cap : Nat) (wr : World) : Prop where
  below : Below w0.heap.size w0 wr
  own : wr.ownsRow w0.heap.size 53 3 (.slice ao C.length cap) C.length (cellsOf C)

theorem Grow.start (w0 : World) : Grow w0 [] none 0 w0 := ⟨Below.refl _ _, World.ownsRow_nil _ _ _ _⟩

theorem Grow.kept {w0 wr wr' : World} {C : List M.St} {ao : Option Addr} {cap : Nat} (h : Grow w0 C ao cap wr) (q : Q wr wr') : Grow w0 C ao cap wr' :=
  ⟨h.below.trans (q.below.mono h.below.size), own_below h.own q.below⟩

theorem Grow.q {w0 wr : World} {C : List M.St} {ao : Option Addr} {cap : Nat} (h : Grow w0 C ao cap wr) : Q w0 wr := ⟨h.below⟩

theorem Grow.cap {w0 wr : World} {C : List M.St} {ao : Option Addr} {cap : Nat} (h : Grow w0 C ao cap wr) : C.length ≤ cap := by
  rcases h.own.2 with ⟨hv, h0⟩ | ⟨g, c, cur, hv, _, _, hc, _⟩
  · omega
  · injection hv with _ _ e; omega

/-- More steps. -/
theorem Grow.push {w0 wr w' : World} {C D : List M.St} {ao ao' : Option Addr} {cap cap' : Nat} (h : Grow w0 C ao cap wr)
    (hg : wr.grownBy w' (Value.slice ao C.length cap).ownBlock)
    (ho : w'.ownsRow w0.heap.size 53 3 (.slice ao' (C.length + D.length) cap') (C.length + D.length) (cellsOf C ++ cellsOf D)) :
    Grow w0 (C ++ D) ao' cap' w' := by
  refine ⟨h.below.grown hg h.below.size (own_base h.own), ?_⟩
  rw [cellsOf_append, List.length_append]
  exact ho
end Go.Proofs.Ytekdenkllipehaa
