/-
  NARROWER THAN 'FOR EVERY INPUT', by the rows' own cells (each row's printed sentence says how): Stores: laid · Deaths: laid · All: laid.
  DERIVED. THE GIVEN ROWS OF THIS SEAT. 3 by the template 'for every input the law returns true; each argument reads behind the call as it read before'; 0 by the template 'total and deterministic' (their statements: YtekdenkllipehaaGreatDoorTotals.lean).
  GIVEN WITH THE SEED: the statements are not yours to turn. If you find one false, say at which input.
  Laid BY PROGRAM, IN A SANDBOX (cutbox-rows.mjs): the forced cells as the released guide's own fill.sh prints them over the translation 523178fd3cecd34f… (all of the seat's roots in one cut). By AI agents, Wed Nov 11 2026. No macro, syntax, notation, axiom, sorry.
-/
import Derived.Test.YtekdenkllipehaaGreatDoorChecked
import GoSem.Claim
import GoSem.ClaimJoined
import GoSem.ClaimMapViews
import Derived.JoinedTies
import Derived.KernelRfl
namespace Go.Proofs.YtekdenkllipehaaGreatDoor
/- THE CELL 'sum', in the pinned program and in every row, IS THE sha256 OF THE DUMP (.gsa) THAT YtekdenkllipehaaGreatDoorProg.lean LOADS. Nothing in Lean hashes anything: it is a label: what it is worth is what the hold of that sum in a sandbox is worth. -/
noncomputable def Tryz.pinned : Pinned := { name := "ytekdenkllipehaagreatdoor", sum := "523178fd3cecd34fcdba01002612a834bee913f0fffbe71a18b0fe2e2345d067", checked := Tryz.checked }
namespace Rows
def none {H : Type} : Left H := { results := [], args := [] }

/- WHAT THE LISTED PACKAGE-LEVEL VARIABLES READ AS WHEN THE CALL BEGINS. Each datum BY PROGRAM (the guide's laid-datum.mjs) off the statement by which the dump's own 'gosem.cut.vars' lays the variable. In a bare row this is a premise. The card (YtekdenkllipehaaGreatDoorCards.lean) ties it to the program's text. -/
def laid_strata_wire_halves {H : Type} : DataW H := .agg [.lit (.int .u32 0), .lit (.int .u32 274646895), .lit (.int .u32 549293790), .lit (.int .u32 820201905), .lit (.int .u32 1098587580), .lit (.int .u32 1361435347), .lit (.int .u32 1640403810), .lit (.int .u32 1905808397), .lit (.int .u32 2197175160), .lit (.int .u32 2460548119), .lit (.int .u32 2722870694), .lit (.int .u32 2987750089), .lit (.int .u32 3280807620), .lit (.int .u32 3553878443), .lit (.int .u32 3811616794), .lit (.int .u32 4084100981)]

/-- 'stratalaw.Stores': WHATEVER THE INPUT: true; the input reads as it did. -/
def storesSpec : ChangeSpec := { name := "stores", fn := fun _ => fun
  | [d] => { results := [.lit (.bool true)], args := [d] }
  | _ => none }
def storesRow : OpenClaim := { program := "ytekdenkllipehaagreatdoor", sum := "523178fd3cecd34fcdba01002612a834bee913f0fffbe71a18b0fe2e2345d067", func := "strata/stratalaw.Stores", spec := "stores", inPlace := ["slices.overlaps[string]", "slices.overlaps[*strata/disk.file]", "internal/abi.NoEscape", "internal/bytealg.MakeNoZero", "slices.overlaps[int]", "slices.overlaps[*strata/sorted.Map[int, strata/api.Record]]", "slices.overlaps[strata/api.Record]", "internal/bytealg.abigen_runtime_cmpstring"], unfollowed := true, recurses := true, named := ["strata/wire.halves"], apart := false, laid := [("strata/wire.halves", laid_strata_wire_halves)] }
def StoresSaid : Prop := storesRow.holds Tryz.pinned (OpenSpec.ofChange storesSpec)

/-- ITS FALSE NEIGHBOUR: 'it returns false'. Refute it at one input. -/
def storesWrong : ChangeSpec := { name := "stores", fn := fun _ => fun
  | [d] => { results := [.lit (.bool false)], args := [d] }
  | _ => none }
def StoresWrongFalsely : Prop := storesRow.holds Tryz.pinned (OpenSpec.ofChange storesWrong)

/-- 'stratalaw.Deaths': WHATEVER THE INPUT: true; the input reads as it did. -/
def deathsSpec : ChangeSpec := { name := "deaths", fn := fun _ => fun
  | [d] => { results := [.lit (.bool true)], args := [d] }
  | _ => none }
def deathsRow : OpenClaim := { program := "ytekdenkllipehaagreatdoor", sum := "523178fd3cecd34fcdba01002612a834bee913f0fffbe71a18b0fe2e2345d067", func := "strata/stratalaw.Deaths", spec := "deaths", inPlace := ["slices.overlaps[string]", "slices.overlaps[*strata/disk.file]", "internal/abi.NoEscape", "internal/bytealg.MakeNoZero", "slices.overlaps[int]", "slices.overlaps[*strata/sorted.Map[int, strata/api.Record]]", "slices.overlaps[strata/api.Record]", "internal/bytealg.abigen_runtime_cmpstring"], unfollowed := true, recurses := true, named := ["strata/wire.halves"], apart := false, laid := [("strata/wire.halves", laid_strata_wire_halves)] }
def DeathsSaid : Prop := deathsRow.holds Tryz.pinned (OpenSpec.ofChange deathsSpec)

/-- ITS FALSE NEIGHBOUR: 'it returns false'. Refute it at one input. -/
def deathsWrong : ChangeSpec := { name := "deaths", fn := fun _ => fun
  | [d] => { results := [.lit (.bool false)], args := [d] }
  | _ => none }
def DeathsWrongFalsely : Prop := deathsRow.holds Tryz.pinned (OpenSpec.ofChange deathsWrong)

/-- 'stratalaw.All': WHATEVER THE INPUT: true; the input reads as it did. -/
def allSpec : ChangeSpec := { name := "all", fn := fun _ => fun
  | [d] => { results := [.lit (.bool true)], args := [d] }
  | _ => none }
def allRow : OpenClaim := { program := "ytekdenkllipehaagreatdoor", sum := "523178fd3cecd34fcdba01002612a834bee913f0fffbe71a18b0fe2e2345d067", func := "strata/stratalaw.All", spec := "all", inPlace := ["slices.overlaps[string]", "slices.overlaps[*strata/disk.file]", "internal/abi.NoEscape", "internal/bytealg.MakeNoZero", "slices.overlaps[int]", "slices.overlaps[*strata/sorted.Map[int, strata/api.Record]]", "slices.overlaps[strata/api.Record]", "internal/bytealg.abigen_runtime_cmpstring"], unfollowed := true, recurses := true, named := ["strata/wire.halves"], apart := false, laid := [("strata/wire.halves", laid_strata_wire_halves)] }
def AllSaid : Prop := allRow.holds Tryz.pinned (OpenSpec.ofChange allSpec)

/-- ITS FALSE NEIGHBOUR: 'it returns false'. Refute it at one input. -/
def allWrong : ChangeSpec := { name := "all", fn := fun _ => fun
  | [d] => { results := [.lit (.bool false)], args := [d] }
  | _ => none }
def AllWrongFalsely : Prop := allRow.holds Tryz.pinned (OpenSpec.ofChange allWrong)

/- THE SECOND FORM. 'bulk': how many values and letters a reading holds, each counted each time it is reached (what is shared counts as often as it is met; a slice's spare places count too). A statement '..UptoSaid' is the law's where the arguments, and the package variables that the reading takes, are together of bulk at most 1048576: NARROWER than '..Said'. Prove '..Said' where nothing that the law and all that it calls make is longer than what came in: it says more and counts as full. Else prove '..UptoSaid'. A law counts once. -/
mutual
def uptoBulk {H : Type} : DataW H → Nat
  | .lit (.string bytes) => bytes.length + 1
  | .lit _ => 1
  | .nil => 1
  | .ptr d => uptoBulk d + 1
  | .slice elems spare => uptoBulkAll elems + uptoBulkAll spare + 1
  | .agg parts => uptoBulkAll parts + 1
  | .iface _ d => uptoBulk d + 1
  | .map entries => uptoBulkEntries entries + 1
  | .held _ => 1
def uptoBulkAll {H : Type} : List (DataW H) → Nat
  | [] => 0
  | d :: r => uptoBulk d + uptoBulkAll r
def uptoBulkEntries {H : Type} : List (Lit × DataW H) → Nat
  | [] => 0
  | x :: r => uptoBulkEntry x + uptoBulkEntries r
def uptoBulkEntry {H : Type} : Lit × DataW H → Nat
  | (.string bytes, d) => bytes.length + uptoBulk d + 1
  | (_, d) => uptoBulk d + 1
 end
def uptoSmall : (H : Type) → List (DataW H) → Bool := fun _ ds => decide (uptoBulkAll ds ≤ 1048576)
def OpenSpec.upto (s : _root_.Go.ChangeSpec) : _root_.Go.OpenSpec := { _root_.Go.OpenSpec.ofChange s with cond := some uptoSmall }

/-- 'stratalaw.Stores', WHERE WHAT IT READS IS OF BULK AT MOST 1048576: true; the input reads as it did. -/
def storesUptoRow : OpenClaim := { program := "ytekdenkllipehaagreatdoor", sum := "523178fd3cecd34fcdba01002612a834bee913f0fffbe71a18b0fe2e2345d067", func := "strata/stratalaw.Stores", spec := "stores", inPlace := ["slices.overlaps[string]", "slices.overlaps[*strata/disk.file]", "internal/abi.NoEscape", "internal/bytealg.MakeNoZero", "slices.overlaps[int]", "slices.overlaps[*strata/sorted.Map[int, strata/api.Record]]", "slices.overlaps[strata/api.Record]", "internal/bytealg.abigen_runtime_cmpstring"], unfollowed := true, recurses := true, named := ["strata/wire.halves"], apart := false, laid := [("strata/wire.halves", laid_strata_wire_halves)], narrowed := true }
def StoresUptoSaid : Prop := storesUptoRow.holds Tryz.pinned (OpenSpec.upto storesSpec)

/-- 'stratalaw.Deaths', WHERE WHAT IT READS IS OF BULK AT MOST 1048576: true; the input reads as it did. -/
def deathsUptoRow : OpenClaim := { program := "ytekdenkllipehaagreatdoor", sum := "523178fd3cecd34fcdba01002612a834bee913f0fffbe71a18b0fe2e2345d067", func := "strata/stratalaw.Deaths", spec := "deaths", inPlace := ["slices.overlaps[string]", "slices.overlaps[*strata/disk.file]", "internal/abi.NoEscape", "internal/bytealg.MakeNoZero", "slices.overlaps[int]", "slices.overlaps[*strata/sorted.Map[int, strata/api.Record]]", "slices.overlaps[strata/api.Record]", "internal/bytealg.abigen_runtime_cmpstring"], unfollowed := true, recurses := true, named := ["strata/wire.halves"], apart := false, laid := [("strata/wire.halves", laid_strata_wire_halves)], narrowed := true }
def DeathsUptoSaid : Prop := deathsUptoRow.holds Tryz.pinned (OpenSpec.upto deathsSpec)

/-- 'stratalaw.All', WHERE WHAT IT READS IS OF BULK AT MOST 1048576: true; the input reads as it did. -/
def allUptoRow : OpenClaim := { program := "ytekdenkllipehaagreatdoor", sum := "523178fd3cecd34fcdba01002612a834bee913f0fffbe71a18b0fe2e2345d067", func := "strata/stratalaw.All", spec := "all", inPlace := ["slices.overlaps[string]", "slices.overlaps[*strata/disk.file]", "internal/abi.NoEscape", "internal/bytealg.MakeNoZero", "slices.overlaps[int]", "slices.overlaps[*strata/sorted.Map[int, strata/api.Record]]", "slices.overlaps[strata/api.Record]", "internal/bytealg.abigen_runtime_cmpstring"], unfollowed := true, recurses := true, named := ["strata/wire.halves"], apart := false, laid := [("strata/wire.halves", laid_strata_wire_halves)], narrowed := true }
def AllUptoSaid : Prop := allUptoRow.holds Tryz.pinned (OpenSpec.upto allSpec)

end Rows
end Go.Proofs.YtekdenkllipehaaGreatDoor
