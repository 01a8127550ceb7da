/-
  No cell of these rows narrows 'for every input' (looked for: loops, veiled, ifaces, maps, wideKeys, modest, calm, conditions, laid).
  DERIVED. THE GIVEN ROWS OF THIS SEAT. 6 by the template 'for every input the law returns true; each argument reads behind the call as it read before'; 0 by the template 'total and deterministic' (their statements: YtekdenkllipehaaTotals.lean).
  GIVEN WITH THE SEED: the statements are not yours to turn. If you find one false, say at which input.
  Laid BY PROGRAM, IN A SANDBOX (cutbox-rows.mjs): the forced cells as the released guide's own fill.sh prints them over the translation baf0cc877c4fb226… (all of the seat's roots in one cut). By AI agents, Wed Nov 11 2026. No macro, syntax, notation, axiom, sorry.
-/
import Derived.Test.YtekdenkllipehaaChecked
import GoSem.Claim
import GoSem.ClaimJoined
import GoSem.ClaimMapViews
import Derived.JoinedTies
import Derived.KernelRfl
namespace Go.Proofs.Ytekdenkllipehaa
/- THE CELL 'sum', in the pinned program and in every row, IS THE sha256 OF THE DUMP (.gsa) THAT YtekdenkllipehaaProg.lean LOADS. Nothing in Lean hashes anything: it is a label: what it is worth is what the hold of that sum in a sandbox is worth. -/
noncomputable def Try.pinned : Pinned := { name := "ytekdenkllipehaa", sum := "baf0cc877c4fb226c26b544de9c99289406464e1bc9165299ad02567d833b6af", checked := Try.checked }
namespace Rows
def none {H : Type} : Left H := { results := [], args := [] }

/-- 'stratalaw.Numbers': WHATEVER THE INPUT: true; the input reads as it did. -/
def numbersSpec : ChangeSpec := { name := "numbers", fn := fun _ => fun
  | [d1, d2, d3] => { results := [.lit (.bool true)], args := [d1, d2, d3] }
  | _ => none }
def numbersRow : OpenClaim := { program := "ytekdenkllipehaa", sum := "baf0cc877c4fb226c26b544de9c99289406464e1bc9165299ad02567d833b6af", func := "strata/stratalaw.Numbers", spec := "numbers", apart := false }
def NumbersSaid : Prop := numbersRow.holds Try.pinned (OpenSpec.ofChange numbersSpec)

/-- ITS FALSE NEIGHBOUR: 'it returns false'. Refute it at one input. -/
def numbersWrong : ChangeSpec := { name := "numbers", fn := fun _ => fun
  | [d1, d2, d3] => { results := [.lit (.bool false)], args := [d1, d2, d3] }
  | _ => none }
def NumbersWrongFalsely : Prop := numbersRow.holds Try.pinned (OpenSpec.ofChange numbersWrong)

/-- 'stratalaw.Changes': WHATEVER THE INPUT: true; the input reads as it did. -/
def changesSpec : ChangeSpec := { name := "changes", fn := fun _ => fun
  | [d1, d2] => { results := [.lit (.bool true)], args := [d1, d2] }
  | _ => none }
def changesRow : OpenClaim := { program := "ytekdenkllipehaa", sum := "baf0cc877c4fb226c26b544de9c99289406464e1bc9165299ad02567d833b6af", func := "strata/stratalaw.Changes", spec := "changes", inPlace := ["internal/abi.NoEscape", "internal/bytealg.MakeNoZero"], apart := false }
def ChangesSaid : Prop := changesRow.holds Try.pinned (OpenSpec.ofChange changesSpec)

/-- ITS FALSE NEIGHBOUR: 'it returns false'. Refute it at one input. -/
def changesWrong : ChangeSpec := { name := "changes", fn := fun _ => fun
  | [d1, d2] => { results := [.lit (.bool false)], args := [d1, d2] }
  | _ => none }
def ChangesWrongFalsely : Prop := changesRow.holds Try.pinned (OpenSpec.ofChange changesWrong)

/-- 'stratalaw.Composes': WHATEVER THE INPUT: true; the input reads as it did. -/
def composesSpec : ChangeSpec := { name := "composes", fn := fun _ => fun
  | [d1, d2, d3] => { results := [.lit (.bool true)], args := [d1, d2, d3] }
  | _ => none }
def composesRow : OpenClaim := { program := "ytekdenkllipehaa", sum := "baf0cc877c4fb226c26b544de9c99289406464e1bc9165299ad02567d833b6af", func := "strata/stratalaw.Composes", spec := "composes", inPlace := ["internal/abi.NoEscape", "internal/bytealg.MakeNoZero"], unfollowed := true, recurses := true, apart := false }
def ComposesSaid : Prop := composesRow.holds Try.pinned (OpenSpec.ofChange composesSpec)

/-- ITS FALSE NEIGHBOUR: 'it returns false'. Refute it at one input. -/
def composesWrong : ChangeSpec := { name := "composes", fn := fun _ => fun
  | [d1, d2, d3] => { results := [.lit (.bool false)], args := [d1, d2, d3] }
  | _ => none }
def ComposesWrongFalsely : Prop := composesRow.holds Try.pinned (OpenSpec.ofChange composesWrong)

/-- 'stratalaw.Disks': WHATEVER THE INPUT: true; the input reads as it did. -/
def disksSpec : ChangeSpec := { name := "disks", fn := fun _ => fun
  | [d] => { results := [.lit (.bool true)], args := [d] }
  | _ => none }
def disksRow : OpenClaim := { program := "ytekdenkllipehaa", sum := "baf0cc877c4fb226c26b544de9c99289406464e1bc9165299ad02567d833b6af", func := "strata/stratalaw.Disks", spec := "disks", inPlace := ["slices.overlaps[string]", "slices.overlaps[*strata/disk.file]"], unfollowed := true, recurses := true, apart := false }
def DisksSaid : Prop := disksRow.holds Try.pinned (OpenSpec.ofChange disksSpec)

/-- ITS FALSE NEIGHBOUR: 'it returns false'. Refute it at one input. -/
def disksWrong : ChangeSpec := { name := "disks", fn := fun _ => fun
  | [d] => { results := [.lit (.bool false)], args := [d] }
  | _ => none }
def DisksWrongFalsely : Prop := disksRow.holds Try.pinned (OpenSpec.ofChange disksWrong)

/-- 'stratakeep.Diffs': WHATEVER THE INPUT: true; the input reads as it did. -/
def diffsSpec : ChangeSpec := { name := "diffs", fn := fun _ => fun
  | [d1, d2] => { results := [.lit (.bool true)], args := [d1, d2] }
  | _ => none }
def diffsRow : OpenClaim := { program := "ytekdenkllipehaa", sum := "baf0cc877c4fb226c26b544de9c99289406464e1bc9165299ad02567d833b6af", func := "strata/stratakeep.Diffs", spec := "diffs", inPlace := ["internal/abi.NoEscape", "internal/bytealg.MakeNoZero"], apart := false }
def DiffsSaid : Prop := diffsRow.holds Try.pinned (OpenSpec.ofChange diffsSpec)

/-- ITS FALSE NEIGHBOUR: 'it returns false'. Refute it at one input. -/
def diffsWrong : ChangeSpec := { name := "diffs", fn := fun _ => fun
  | [d1, d2] => { results := [.lit (.bool false)], args := [d1, d2] }
  | _ => none }
def DiffsWrongFalsely : Prop := diffsRow.holds Try.pinned (OpenSpec.ofChange diffsWrong)

/-- 'stratakeep.Composed': WHATEVER THE INPUT: true; the input reads as it did. -/
def composedSpec : ChangeSpec := { name := "composed", fn := fun _ => fun
  | [d1, d2, d3] => { results := [.lit (.bool true)], args := [d1, d2, d3] }
  | _ => none }
def composedRow : OpenClaim := { program := "ytekdenkllipehaa", sum := "baf0cc877c4fb226c26b544de9c99289406464e1bc9165299ad02567d833b6af", func := "strata/stratakeep.Composed", spec := "composed", inPlace := ["internal/abi.NoEscape", "internal/bytealg.MakeNoZero"], unfollowed := true, recurses := true, apart := false }
def ComposedSaid : Prop := composedRow.holds Try.pinned (OpenSpec.ofChange composedSpec)

/-- ITS FALSE NEIGHBOUR: 'it returns false'. Refute it at one input. -/
def composedWrong : ChangeSpec := { name := "composed", fn := fun _ => fun
  | [d1, d2, d3] => { results := [.lit (.bool false)], args := [d1, d2, d3] }
  | _ => none }
def ComposedWrongFalsely : Prop := composedRow.holds Try.pinned (OpenSpec.ofChange composedWrong)

/- THE SECOND FORM. 'bulk': how many values and letters a reading holds, each counted each time it is reached (what is shared counts as often as it is met; a slice's spare places count too). A statement '..UptoSaid' is the law's where the arguments, and the package variables that the reading takes, are together of bulk at most 1048576: NARROWER than '..Said'. Prove '..Said' where nothing that the law and all that it calls make is longer than what came in: it says more and counts as full. Else prove '..UptoSaid'. A law counts once. -/
mutual
def uptoBulk {H : Type} : DataW H → Nat
  | .lit (.string bytes) => bytes.length + 1
  | .lit _ => 1
  | .nil => 1
  | .ptr d => uptoBulk d + 1
  | .slice elems spare => uptoBulkAll elems + uptoBulkAll spare + 1
  | .agg parts => uptoBulkAll parts + 1
  | .iface _ d => uptoBulk d + 1
  | .map entries => uptoBulkEntries entries + 1
  | .held _ => 1
def uptoBulkAll {H : Type} : List (DataW H) → Nat
  | [] => 0
  | d :: r => uptoBulk d + uptoBulkAll r
def uptoBulkEntries {H : Type} : List (Lit × DataW H) → Nat
  | [] => 0
  | x :: r => uptoBulkEntry x + uptoBulkEntries r
def uptoBulkEntry {H : Type} : Lit × DataW H → Nat
  | (.string bytes, d) => bytes.length + uptoBulk d + 1
  | (_, d) => uptoBulk d + 1
 end
def uptoSmall : (H : Type) → List (DataW H) → Bool := fun _ ds => decide (uptoBulkAll ds ≤ 1048576)
def OpenSpec.upto (s : _root_.Go.ChangeSpec) : _root_.Go.OpenSpec := { _root_.Go.OpenSpec.ofChange s with cond := some uptoSmall }

/-- 'stratalaw.Numbers', WHERE WHAT IT READS IS OF BULK AT MOST 1048576: true; the input reads as it did. -/
def numbersUptoRow : OpenClaim := { program := "ytekdenkllipehaa", sum := "baf0cc877c4fb226c26b544de9c99289406464e1bc9165299ad02567d833b6af", func := "strata/stratalaw.Numbers", spec := "numbers", apart := false, narrowed := true }
def NumbersUptoSaid : Prop := numbersUptoRow.holds Try.pinned (OpenSpec.upto numbersSpec)

/-- 'stratalaw.Changes', WHERE WHAT IT READS IS OF BULK AT MOST 1048576: true; the input reads as it did. -/
def changesUptoRow : OpenClaim := { program := "ytekdenkllipehaa", sum := "baf0cc877c4fb226c26b544de9c99289406464e1bc9165299ad02567d833b6af", func := "strata/stratalaw.Changes", spec := "changes", inPlace := ["internal/abi.NoEscape", "internal/bytealg.MakeNoZero"], apart := false, narrowed := true }
def ChangesUptoSaid : Prop := changesUptoRow.holds Try.pinned (OpenSpec.upto changesSpec)

/-- 'stratalaw.Composes', WHERE WHAT IT READS IS OF BULK AT MOST 1048576: true; the input reads as it did. -/
def composesUptoRow : OpenClaim := { program := "ytekdenkllipehaa", sum := "baf0cc877c4fb226c26b544de9c99289406464e1bc9165299ad02567d833b6af", func := "strata/stratalaw.Composes", spec := "composes", inPlace := ["internal/abi.NoEscape", "internal/bytealg.MakeNoZero"], unfollowed := true, recurses := true, apart := false, narrowed := true }
def ComposesUptoSaid : Prop := composesUptoRow.holds Try.pinned (OpenSpec.upto composesSpec)

/-- 'stratalaw.Disks', WHERE WHAT IT READS IS OF BULK AT MOST 1048576: true; the input reads as it did. -/
def disksUptoRow : OpenClaim := { program := "ytekdenkllipehaa", sum := "baf0cc877c4fb226c26b544de9c99289406464e1bc9165299ad02567d833b6af", func := "strata/stratalaw.Disks", spec := "disks", inPlace := ["slices.overlaps[string]", "slices.overlaps[*strata/disk.file]"], unfollowed := true, recurses := true, apart := false, narrowed := true }
def DisksUptoSaid : Prop := disksUptoRow.holds Try.pinned (OpenSpec.upto disksSpec)

/-- 'stratakeep.Diffs', WHERE WHAT IT READS IS OF BULK AT MOST 1048576: true; the input reads as it did. -/
def diffsUptoRow : OpenClaim := { program := "ytekdenkllipehaa", sum := "baf0cc877c4fb226c26b544de9c99289406464e1bc9165299ad02567d833b6af", func := "strata/stratakeep.Diffs", spec := "diffs", inPlace := ["internal/abi.NoEscape", "internal/bytealg.MakeNoZero"], apart := false, narrowed := true }
def DiffsUptoSaid : Prop := diffsUptoRow.holds Try.pinned (OpenSpec.upto diffsSpec)

/-- 'stratakeep.Composed', WHERE WHAT IT READS IS OF BULK AT MOST 1048576: true; the input reads as it did. -/
def composedUptoRow : OpenClaim := { program := "ytekdenkllipehaa", sum := "baf0cc877c4fb226c26b544de9c99289406464e1bc9165299ad02567d833b6af", func := "strata/stratakeep.Composed", spec := "composed", inPlace := ["internal/abi.NoEscape", "internal/bytealg.MakeNoZero"], unfollowed := true, recurses := true, apart := false, narrowed := true }
def ComposedUptoSaid : Prop := composedUptoRow.holds Try.pinned (OpenSpec.upto composedSpec)

end Rows
end Go.Proofs.Ytekdenkllipehaa
