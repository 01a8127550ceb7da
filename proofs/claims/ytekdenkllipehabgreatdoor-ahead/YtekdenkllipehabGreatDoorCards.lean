/-
  DERIVED. GIVEN WITH THE SEED: THE CARDS: each row of YtekdenkllipehabGreatDoorRows.lean that lists a variable, with what it lists TIED to the program's text (the seventh form; the later family's looks); each row that meets fmt, with fmt's text TOLD by the authors' own Lean function (tested against real Go, not proved from fmt's source: count such statements apart). THE CARD IS WHAT COUNTS. Prove the row's statement (the work); the ties are given (YtekdenkllipehabGreatDoorTie.lean); close each card by the builder's one call (the guide's Derived/Test/ToyasCard.lean, 'card_holds'). Laid BY PROGRAM, IN A SANDBOX (cutbox-door.mjs). By AI agents, Wed Nov 11 2026. No macro, syntax, notation, axiom, sorry.
-/
import Derived.Test.YtekdenkllipehabGreatDoorRows
import GoSem.ClaimSeven
namespace Go.Proofs.YtekdenkllipehabGreatDoor
namespace Rows

/-- THE TIED CARD OF 'stratakeep.Known'. -/
def knownCard : Claim7 := { stood := { row := knownRow, standIns := [], harness := (true, "48198049a31f324538ffb8c9ae7f4131bd4383a628b6228b484a54218403144f"), looks := false }, kinds := [], alts := [], laidByText := true, laidKinds := [.data], laidTests := true, laidLooks := .later }
def KnownCardSaid : Prop := Claim7.holds Tryz.pinned (.plain (OpenSpec.ofChange knownSpec)) knownCard

/-- THE TIED CARD OF 'stratakeep.Copied'. -/
def copiedCard : Claim7 := { stood := { row := copiedRow, standIns := [], harness := (true, "48198049a31f324538ffb8c9ae7f4131bd4383a628b6228b484a54218403144f"), looks := false }, kinds := [], alts := [], laidByText := true, laidKinds := [.data], laidTests := true, laidLooks := .later }
def CopiedCardSaid : Prop := Claim7.holds Tryz.pinned (.plain (OpenSpec.ofChange copiedSpec)) copiedCard

/-- THE TIED CARD OF 'stratakeep.History'. -/
def historyCard : Claim7 := { stood := { row := historyRow, standIns := [], harness := (true, "48198049a31f324538ffb8c9ae7f4131bd4383a628b6228b484a54218403144f"), looks := false }, kinds := [], alts := [], laidByText := true, laidKinds := [.data], laidTests := true, laidLooks := .later }
def HistoryCardSaid : Prop := Claim7.holds Tryz.pinned (.plain (OpenSpec.ofChange historySpec)) historyCard

/-- THE TIED CARD OF 'stratakeep.Lasting'. -/
def lastingCard : Claim7 := { stood := { row := lastingRow, standIns := [], harness := (true, "48198049a31f324538ffb8c9ae7f4131bd4383a628b6228b484a54218403144f"), looks := false }, kinds := [], alts := [], laidByText := true, laidKinds := [.data], laidTests := true, laidLooks := .later }
def LastingCardSaid : Prop := Claim7.holds Tryz.pinned (.plain (OpenSpec.ofChange lastingSpec)) lastingCard

/-- THE TIED CARD OF 'stratakeep.Ahead'. -/
def aheadCard : Claim7 := { stood := { row := aheadRow, standIns := [], harness := (true, "48198049a31f324538ffb8c9ae7f4131bd4383a628b6228b484a54218403144f"), looks := false }, kinds := [], alts := [], laidByText := true, laidKinds := [.data], laidTests := true, laidLooks := .later }
def AheadCardSaid : Prop := Claim7.holds Tryz.pinned (.plain (OpenSpec.ofChange aheadSpec)) aheadCard

/-- THE SECOND FORM's CARD OF 'stratakeep.Known'. -/
def knownUptoCard : Claim7 := { stood := { row := knownUptoRow, standIns := [], harness := (true, "48198049a31f324538ffb8c9ae7f4131bd4383a628b6228b484a54218403144f"), looks := false }, kinds := [], alts := [], laidByText := true, laidKinds := [.data], laidTests := true, laidLooks := .later }
def KnownUptoCardSaid : Prop := Claim7.holds Tryz.pinned (.plain (OpenSpec.upto knownSpec)) knownUptoCard

/-- THE SECOND FORM's CARD OF 'stratakeep.Copied'. -/
def copiedUptoCard : Claim7 := { stood := { row := copiedUptoRow, standIns := [], harness := (true, "48198049a31f324538ffb8c9ae7f4131bd4383a628b6228b484a54218403144f"), looks := false }, kinds := [], alts := [], laidByText := true, laidKinds := [.data], laidTests := true, laidLooks := .later }
def CopiedUptoCardSaid : Prop := Claim7.holds Tryz.pinned (.plain (OpenSpec.upto copiedSpec)) copiedUptoCard

/-- THE SECOND FORM's CARD OF 'stratakeep.History'. -/
def historyUptoCard : Claim7 := { stood := { row := historyUptoRow, standIns := [], harness := (true, "48198049a31f324538ffb8c9ae7f4131bd4383a628b6228b484a54218403144f"), looks := false }, kinds := [], alts := [], laidByText := true, laidKinds := [.data], laidTests := true, laidLooks := .later }
def HistoryUptoCardSaid : Prop := Claim7.holds Tryz.pinned (.plain (OpenSpec.upto historySpec)) historyUptoCard

/-- THE SECOND FORM's CARD OF 'stratakeep.Lasting'. -/
def lastingUptoCard : Claim7 := { stood := { row := lastingUptoRow, standIns := [], harness := (true, "48198049a31f324538ffb8c9ae7f4131bd4383a628b6228b484a54218403144f"), looks := false }, kinds := [], alts := [], laidByText := true, laidKinds := [.data], laidTests := true, laidLooks := .later }
def LastingUptoCardSaid : Prop := Claim7.holds Tryz.pinned (.plain (OpenSpec.upto lastingSpec)) lastingUptoCard

/-- THE SECOND FORM's CARD OF 'stratakeep.Ahead'. -/
def aheadUptoCard : Claim7 := { stood := { row := aheadUptoRow, standIns := [], harness := (true, "48198049a31f324538ffb8c9ae7f4131bd4383a628b6228b484a54218403144f"), looks := false }, kinds := [], alts := [], laidByText := true, laidKinds := [.data], laidTests := true, laidLooks := .later }
def AheadUptoCardSaid : Prop := Claim7.holds Tryz.pinned (.plain (OpenSpec.upto aheadSpec)) aheadUptoCard
end Rows
end Go.Proofs.YtekdenkllipehabGreatDoor
