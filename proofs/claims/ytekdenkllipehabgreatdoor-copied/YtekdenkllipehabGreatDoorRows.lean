/-
  NARROWER THAN 'FOR EVERY INPUT', by the rows' own cells (each row's printed sentence says how): Known: laid · Copied: laid · History: laid · Lasting: laid · Ahead: laid.
  DERIVED. THE GIVEN ROWS OF THIS SEAT. 5 by the template 'for every input the law returns true; each argument reads behind the call as it read before'; 0 by the template 'total and deterministic' (their statements: YtekdenkllipehabGreatDoorTotals.lean).
  GIVEN WITH THE SEED: the statements are not yours to turn. If you find one false, say at which input.
  Laid BY PROGRAM, IN A SANDBOX (cutbox-rows.mjs): the forced cells as the released guide's own fill.sh prints them over the translation fce2d5cbd87145b7… (all of the seat's roots in one cut). By AI agents, Wed Nov 11 2026. No macro, syntax, notation, axiom, sorry.
-/
import Derived.Test.YtekdenkllipehabGreatDoorChecked
import GoSem.Claim
import GoSem.ClaimJoined
import GoSem.ClaimMapViews
import Derived.JoinedTies
import Derived.KernelRfl
namespace Go.Proofs.YtekdenkllipehabGreatDoor
/- THE CELL 'sum', in the pinned program and in every row, IS THE sha256 OF THE DUMP (.gsa) THAT YtekdenkllipehabGreatDoorProg.lean LOADS. Nothing in Lean hashes anything: it is a label: what it is worth is what the hold of that sum in a sandbox is worth. -/
noncomputable def Tryz.pinned : Pinned := { name := "ytekdenkllipehabgreatdoor", sum := "fce2d5cbd87145b7643b18e318d3bf2ea6ad506ac63234284fb792002c3e231d", checked := Tryz.checked }
namespace Rows
def none {H : Type} : Left H := { results := [], args := [] }

/- WHAT THE LISTED PACKAGE-LEVEL VARIABLES READ AS WHEN THE CALL BEGINS. Each datum BY PROGRAM (the guide's laid-datum.mjs) off the statement by which the dump's own 'gosem.cut.vars' lays the variable. In a bare row this is a premise. The card (YtekdenkllipehabGreatDoorCards.lean) ties it to the program's text. -/
def laid_strata_wire_halves {H : Type} : DataW H := .agg [.lit (.int .u32 0), .lit (.int .u32 274646895), .lit (.int .u32 549293790), .lit (.int .u32 820201905), .lit (.int .u32 1098587580), .lit (.int .u32 1361435347), .lit (.int .u32 1640403810), .lit (.int .u32 1905808397), .lit (.int .u32 2197175160), .lit (.int .u32 2460548119), .lit (.int .u32 2722870694), .lit (.int .u32 2987750089), .lit (.int .u32 3280807620), .lit (.int .u32 3553878443), .lit (.int .u32 3811616794), .lit (.int .u32 4084100981)]

/-- 'stratakeep.Known': WHATEVER THE INPUT: true; the input reads as it did. -/
def knownSpec : ChangeSpec := { name := "known", fn := fun _ => fun
  | [d] => { results := [.lit (.bool true)], args := [d] }
  | _ => none }
def knownRow : OpenClaim := { program := "ytekdenkllipehabgreatdoor", sum := "fce2d5cbd87145b7643b18e318d3bf2ea6ad506ac63234284fb792002c3e231d", func := "strata/stratakeep.Known", spec := "known", inPlace := ["internal/abi.NoEscape", "internal/bytealg.MakeNoZero", "slices.overlaps[string]", "slices.overlaps[int]", "slices.overlaps[*strata/sorted.Map[int, strata/api.Record]]", "slices.overlaps[strata/api.Record]", "slices.overlaps[*strata/disk.file]", "internal/bytealg.abigen_runtime_cmpstring"], unfollowed := true, recurses := true, named := ["strata/wire.halves"], apart := false, laid := [("strata/wire.halves", laid_strata_wire_halves)] }
def KnownSaid : Prop := knownRow.holds Tryz.pinned (OpenSpec.ofChange knownSpec)

/-- ITS FALSE NEIGHBOUR: 'it returns false'. Refute it at one input. -/
def knownWrong : ChangeSpec := { name := "known", fn := fun _ => fun
  | [d] => { results := [.lit (.bool false)], args := [d] }
  | _ => none }
def KnownWrongFalsely : Prop := knownRow.holds Tryz.pinned (OpenSpec.ofChange knownWrong)

/-- 'stratakeep.Copied': WHATEVER THE INPUT: true; the input reads as it did. -/
def copiedSpec : ChangeSpec := { name := "copied", fn := fun _ => fun
  | [d1, d2] => { results := [.lit (.bool true)], args := [d1, d2] }
  | _ => none }
def copiedRow : OpenClaim := { program := "ytekdenkllipehabgreatdoor", sum := "fce2d5cbd87145b7643b18e318d3bf2ea6ad506ac63234284fb792002c3e231d", func := "strata/stratakeep.Copied", spec := "copied", inPlace := ["internal/abi.NoEscape", "internal/bytealg.MakeNoZero", "slices.overlaps[string]", "slices.overlaps[int]", "slices.overlaps[*strata/disk.file]", "internal/bytealg.abigen_runtime_cmpstring", "slices.overlaps[*strata/sorted.Map[int, strata/api.Record]]", "slices.overlaps[strata/api.Record]"], unfollowed := true, recurses := true, named := ["strata/wire.halves"], apart := false, laid := [("strata/wire.halves", laid_strata_wire_halves)] }
def CopiedSaid : Prop := copiedRow.holds Tryz.pinned (OpenSpec.ofChange copiedSpec)

/-- ITS FALSE NEIGHBOUR: 'it returns false'. Refute it at one input. -/
def copiedWrong : ChangeSpec := { name := "copied", fn := fun _ => fun
  | [d1, d2] => { results := [.lit (.bool false)], args := [d1, d2] }
  | _ => none }
def CopiedWrongFalsely : Prop := copiedRow.holds Tryz.pinned (OpenSpec.ofChange copiedWrong)

/-- 'stratakeep.History': WHATEVER THE INPUT: true; the input reads as it did. -/
def historySpec : ChangeSpec := { name := "history", fn := fun _ => fun
  | [d1, d2, d3] => { results := [.lit (.bool true)], args := [d1, d2, d3] }
  | _ => none }
def historyRow : OpenClaim := { program := "ytekdenkllipehabgreatdoor", sum := "fce2d5cbd87145b7643b18e318d3bf2ea6ad506ac63234284fb792002c3e231d", func := "strata/stratakeep.History", spec := "history", inPlace := ["internal/abi.NoEscape", "internal/bytealg.MakeNoZero", "slices.overlaps[string]", "slices.overlaps[int]", "slices.overlaps[*strata/sorted.Map[int, strata/api.Record]]", "slices.overlaps[strata/api.Record]", "slices.overlaps[*strata/disk.file]", "internal/bytealg.abigen_runtime_cmpstring"], unfollowed := true, recurses := true, named := ["strata/wire.halves"], apart := false, laid := [("strata/wire.halves", laid_strata_wire_halves)] }
def HistorySaid : Prop := historyRow.holds Tryz.pinned (OpenSpec.ofChange historySpec)

/-- ITS FALSE NEIGHBOUR: 'it returns false'. Refute it at one input. -/
def historyWrong : ChangeSpec := { name := "history", fn := fun _ => fun
  | [d1, d2, d3] => { results := [.lit (.bool false)], args := [d1, d2, d3] }
  | _ => none }
def HistoryWrongFalsely : Prop := historyRow.holds Tryz.pinned (OpenSpec.ofChange historyWrong)

/-- 'stratakeep.Lasting': WHATEVER THE INPUT: true; the input reads as it did. -/
def lastingSpec : ChangeSpec := { name := "lasting", fn := fun _ => fun
  | [d1, d2, d3] => { results := [.lit (.bool true)], args := [d1, d2, d3] }
  | _ => none }
def lastingRow : OpenClaim := { program := "ytekdenkllipehabgreatdoor", sum := "fce2d5cbd87145b7643b18e318d3bf2ea6ad506ac63234284fb792002c3e231d", func := "strata/stratakeep.Lasting", spec := "lasting", inPlace := ["internal/abi.NoEscape", "internal/bytealg.MakeNoZero", "slices.overlaps[string]", "slices.overlaps[int]", "slices.overlaps[*strata/sorted.Map[int, strata/api.Record]]", "slices.overlaps[strata/api.Record]", "slices.overlaps[*strata/disk.file]", "internal/bytealg.abigen_runtime_cmpstring"], unfollowed := true, recurses := true, named := ["strata/wire.halves"], apart := false, laid := [("strata/wire.halves", laid_strata_wire_halves)] }
def LastingSaid : Prop := lastingRow.holds Tryz.pinned (OpenSpec.ofChange lastingSpec)

/-- ITS FALSE NEIGHBOUR: 'it returns false'. Refute it at one input. -/
def lastingWrong : ChangeSpec := { name := "lasting", fn := fun _ => fun
  | [d1, d2, d3] => { results := [.lit (.bool false)], args := [d1, d2, d3] }
  | _ => none }
def LastingWrongFalsely : Prop := lastingRow.holds Tryz.pinned (OpenSpec.ofChange lastingWrong)

/-- 'stratakeep.Ahead': WHATEVER THE INPUT: true; the input reads as it did. -/
def aheadSpec : ChangeSpec := { name := "ahead", fn := fun _ => fun
  | [d1, d2, d3] => { results := [.lit (.bool true)], args := [d1, d2, d3] }
  | _ => none }
def aheadRow : OpenClaim := { program := "ytekdenkllipehabgreatdoor", sum := "fce2d5cbd87145b7643b18e318d3bf2ea6ad506ac63234284fb792002c3e231d", func := "strata/stratakeep.Ahead", spec := "ahead", inPlace := ["slices.overlaps[string]", "slices.overlaps[*strata/disk.file]", "internal/abi.NoEscape", "internal/bytealg.MakeNoZero", "slices.overlaps[int]", "slices.overlaps[*strata/sorted.Map[int, strata/api.Record]]", "slices.overlaps[strata/api.Record]", "internal/bytealg.abigen_runtime_cmpstring"], unfollowed := true, recurses := true, named := ["strata/wire.halves"], apart := false, laid := [("strata/wire.halves", laid_strata_wire_halves)] }
def AheadSaid : Prop := aheadRow.holds Tryz.pinned (OpenSpec.ofChange aheadSpec)

/-- ITS FALSE NEIGHBOUR: 'it returns false'. Refute it at one input. -/
def aheadWrong : ChangeSpec := { name := "ahead", fn := fun _ => fun
  | [d1, d2, d3] => { results := [.lit (.bool false)], args := [d1, d2, d3] }
  | _ => none }
def AheadWrongFalsely : Prop := aheadRow.holds Tryz.pinned (OpenSpec.ofChange aheadWrong)

/- THE SECOND FORM. 'bulk': how many values and letters a reading holds, each counted each time it is reached (what is shared counts as often as it is met; a slice's spare places count too). A statement '..UptoSaid' is the law's where the arguments, and the package variables that the reading takes, are together of bulk at most 1048576: NARROWER than '..Said'. Prove '..Said' where nothing that the law and all that it calls make is longer than what came in: it says more and counts as full. Else prove '..UptoSaid'. A law counts once. -/
mutual
def uptoBulk {H : Type} : DataW H → Nat
  | .lit (.string bytes) => bytes.length + 1
  | .lit _ => 1
  | .nil => 1
  | .ptr d => uptoBulk d + 1
  | .slice elems spare => uptoBulkAll elems + uptoBulkAll spare + 1
  | .agg parts => uptoBulkAll parts + 1
  | .iface _ d => uptoBulk d + 1
  | .map entries => uptoBulkEntries entries + 1
  | .held _ => 1
def uptoBulkAll {H : Type} : List (DataW H) → Nat
  | [] => 0
  | d :: r => uptoBulk d + uptoBulkAll r
def uptoBulkEntries {H : Type} : List (Lit × DataW H) → Nat
  | [] => 0
  | x :: r => uptoBulkEntry x + uptoBulkEntries r
def uptoBulkEntry {H : Type} : Lit × DataW H → Nat
  | (.string bytes, d) => bytes.length + uptoBulk d + 1
  | (_, d) => uptoBulk d + 1
 end
def uptoSmall : (H : Type) → List (DataW H) → Bool := fun _ ds => decide (uptoBulkAll ds ≤ 1048576)
def OpenSpec.upto (s : _root_.Go.ChangeSpec) : _root_.Go.OpenSpec := { _root_.Go.OpenSpec.ofChange s with cond := some uptoSmall }

/-- 'stratakeep.Known', WHERE WHAT IT READS IS OF BULK AT MOST 1048576: true; the input reads as it did. -/
def knownUptoRow : OpenClaim := { program := "ytekdenkllipehabgreatdoor", sum := "fce2d5cbd87145b7643b18e318d3bf2ea6ad506ac63234284fb792002c3e231d", func := "strata/stratakeep.Known", spec := "known", inPlace := ["internal/abi.NoEscape", "internal/bytealg.MakeNoZero", "slices.overlaps[string]", "slices.overlaps[int]", "slices.overlaps[*strata/sorted.Map[int, strata/api.Record]]", "slices.overlaps[strata/api.Record]", "slices.overlaps[*strata/disk.file]", "internal/bytealg.abigen_runtime_cmpstring"], unfollowed := true, recurses := true, named := ["strata/wire.halves"], apart := false, laid := [("strata/wire.halves", laid_strata_wire_halves)], narrowed := true }
def KnownUptoSaid : Prop := knownUptoRow.holds Tryz.pinned (OpenSpec.upto knownSpec)

/-- 'stratakeep.Copied', WHERE WHAT IT READS IS OF BULK AT MOST 1048576: true; the input reads as it did. -/
def copiedUptoRow : OpenClaim := { program := "ytekdenkllipehabgreatdoor", sum := "fce2d5cbd87145b7643b18e318d3bf2ea6ad506ac63234284fb792002c3e231d", func := "strata/stratakeep.Copied", spec := "copied", inPlace := ["internal/abi.NoEscape", "internal/bytealg.MakeNoZero", "slices.overlaps[string]", "slices.overlaps[int]", "slices.overlaps[*strata/disk.file]", "internal/bytealg.abigen_runtime_cmpstring", "slices.overlaps[*strata/sorted.Map[int, strata/api.Record]]", "slices.overlaps[strata/api.Record]"], unfollowed := true, recurses := true, named := ["strata/wire.halves"], apart := false, laid := [("strata/wire.halves", laid_strata_wire_halves)], narrowed := true }
def CopiedUptoSaid : Prop := copiedUptoRow.holds Tryz.pinned (OpenSpec.upto copiedSpec)

/-- 'stratakeep.History', WHERE WHAT IT READS IS OF BULK AT MOST 1048576: true; the input reads as it did. -/
def historyUptoRow : OpenClaim := { program := "ytekdenkllipehabgreatdoor", sum := "fce2d5cbd87145b7643b18e318d3bf2ea6ad506ac63234284fb792002c3e231d", func := "strata/stratakeep.History", spec := "history", inPlace := ["internal/abi.NoEscape", "internal/bytealg.MakeNoZero", "slices.overlaps[string]", "slices.overlaps[int]", "slices.overlaps[*strata/sorted.Map[int, strata/api.Record]]", "slices.overlaps[strata/api.Record]", "slices.overlaps[*strata/disk.file]", "internal/bytealg.abigen_runtime_cmpstring"], unfollowed := true, recurses := true, named := ["strata/wire.halves"], apart := false, laid := [("strata/wire.halves", laid_strata_wire_halves)], narrowed := true }
def HistoryUptoSaid : Prop := historyUptoRow.holds Tryz.pinned (OpenSpec.upto historySpec)

/-- 'stratakeep.Lasting', WHERE WHAT IT READS IS OF BULK AT MOST 1048576: true; the input reads as it did. -/
def lastingUptoRow : OpenClaim := { program := "ytekdenkllipehabgreatdoor", sum := "fce2d5cbd87145b7643b18e318d3bf2ea6ad506ac63234284fb792002c3e231d", func := "strata/stratakeep.Lasting", spec := "lasting", inPlace := ["internal/abi.NoEscape", "internal/bytealg.MakeNoZero", "slices.overlaps[string]", "slices.overlaps[int]", "slices.overlaps[*strata/sorted.Map[int, strata/api.Record]]", "slices.overlaps[strata/api.Record]", "slices.overlaps[*strata/disk.file]", "internal/bytealg.abigen_runtime_cmpstring"], unfollowed := true, recurses := true, named := ["strata/wire.halves"], apart := false, laid := [("strata/wire.halves", laid_strata_wire_halves)], narrowed := true }
def LastingUptoSaid : Prop := lastingUptoRow.holds Tryz.pinned (OpenSpec.upto lastingSpec)

/-- 'stratakeep.Ahead', WHERE WHAT IT READS IS OF BULK AT MOST 1048576: true; the input reads as it did. -/
def aheadUptoRow : OpenClaim := { program := "ytekdenkllipehabgreatdoor", sum := "fce2d5cbd87145b7643b18e318d3bf2ea6ad506ac63234284fb792002c3e231d", func := "strata/stratakeep.Ahead", spec := "ahead", inPlace := ["slices.overlaps[string]", "slices.overlaps[*strata/disk.file]", "internal/abi.NoEscape", "internal/bytealg.MakeNoZero", "slices.overlaps[int]", "slices.overlaps[*strata/sorted.Map[int, strata/api.Record]]", "slices.overlaps[strata/api.Record]", "internal/bytealg.abigen_runtime_cmpstring"], unfollowed := true, recurses := true, named := ["strata/wire.halves"], apart := false, laid := [("strata/wire.halves", laid_strata_wire_halves)], narrowed := true }
def AheadUptoSaid : Prop := aheadUptoRow.holds Tryz.pinned (OpenSpec.upto aheadSpec)

end Rows
end Go.Proofs.YtekdenkllipehabGreatDoor
