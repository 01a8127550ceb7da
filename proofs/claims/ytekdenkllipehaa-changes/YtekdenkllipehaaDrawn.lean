/-
  A drawn region, walked by hand: the condition that is held may be made narrower on the way.
-/
import Derived.Deep.RegionHeld3
import Derived.WalkKit
import Derived.ProofKit
import Derived.Test.YtekdenkllipehaaKeep
namespace Go.Proofs.Ytekdenkllipehaa
open Go.RowKit

theorem wpAnyH_narrow {P : Program} {md : Region.Mode} {ops : Array Oper} {Q : Exit → Act → World → Prop} {S S' : World → Prop} (hs : ∀ w, S' w → S w) :
    ∀ {fuel : Nat} {listed : Array Bool} {a : Act} {w : World}, wpAnyH P md ops Q S' fuel listed a w → wpAnyH P md ops Q S fuel listed a w
  | 0, _, _, _, h => h
  | _ + 1, _, _, _, h => ⟨h.1, fun i hi => wpOp_mono (fun _ w' h' => ⟨hs w' h'.1, wpAnyH_narrow hs h'.2⟩) (h.2 i hi)⟩

theorem kept_cell {w w' : World} {p : Addr} {v : Value} (h : w.cell? p = some v) (q : Q w w') : w'.cell? p = some v := by
  have hlt : p.block < w.heap.size := by
    rcases Nat.lt_or_ge p.block w.heap.size with hl | hl
    · exact hl
    · unfold World.cell? at h
      rw [Array.getElem?_eq_none hl] at h
      simp at h
  exact (q.below.cell hlt).trans h
end Go.Proofs.Ytekdenkllipehaa
