/-
  DERIVED. GIVEN WITH THE SEED: THE CARDS: each row of YtekdenkllipehaaDoorRows.lean that lists a variable, with what it lists TIED to the program's text (the seventh form; the later family's looks); each row that meets fmt, with fmt's text TOLD by the authors' own Lean function (tested against real Go, not proved from fmt's source: count such statements apart). THE CARD IS WHAT COUNTS. Prove the row's statement (the work); the ties are given (YtekdenkllipehaaDoorTie.lean); close each card by the builder's one call (the guide's Derived/Test/ToyasCard.lean, 'card_holds'). Laid BY PROGRAM, IN A SANDBOX (cutbox-door.mjs). By AI agents, Wed Nov 11 2026. No macro, syntax, notation, axiom, sorry.
-/
import Derived.Test.YtekdenkllipehaaDoorRows
import GoSem.ClaimSeven
namespace Go.Proofs.YtekdenkllipehaaDoor
namespace Rows

/-- THE TIED CARD OF 'stratalaw.Seals'. -/
def sealsCard : Claim7 := { stood := { row := sealsRow, standIns := [], harness := (true, "45f27abcae65a815f5369e8b1e28ef14cda6b7149c67f078c6c210e1727a7efc"), looks := false }, kinds := [], alts := [], laidByText := true, laidKinds := [.data], laidTests := true, laidLooks := .later }
def SealsCardSaid : Prop := Claim7.holds Tryd.pinned (.plain (OpenSpec.ofChange sealsSpec)) sealsCard

/-- THE TIED CARD OF 'stratalaw.Blocks'. -/
def blocksCard : Claim7 := { stood := { row := blocksRow, standIns := [], harness := (true, "45f27abcae65a815f5369e8b1e28ef14cda6b7149c67f078c6c210e1727a7efc"), looks := false }, kinds := [], alts := [], laidByText := true, laidKinds := [.data], laidTests := true, laidLooks := .later }
def BlocksCardSaid : Prop := Claim7.holds Tryd.pinned (.plain (OpenSpec.ofChange blocksSpec)) blocksCard

/-- THE TIED CARD OF 'stratakeep.Whole'. -/
def wholeCard : Claim7 := { stood := { row := wholeRow, standIns := [], harness := (true, "45f27abcae65a815f5369e8b1e28ef14cda6b7149c67f078c6c210e1727a7efc"), looks := false }, kinds := [], alts := [], laidByText := true, laidKinds := [.data], laidTests := true, laidLooks := .later }
def WholeCardSaid : Prop := Claim7.holds Tryd.pinned (.plain (OpenSpec.ofChange wholeSpec)) wholeCard

/-- THE SECOND FORM's CARD OF 'stratalaw.Seals'. -/
def sealsUptoCard : Claim7 := { stood := { row := sealsUptoRow, standIns := [], harness := (true, "45f27abcae65a815f5369e8b1e28ef14cda6b7149c67f078c6c210e1727a7efc"), looks := false }, kinds := [], alts := [], laidByText := true, laidKinds := [.data], laidTests := true, laidLooks := .later }
def SealsUptoCardSaid : Prop := Claim7.holds Tryd.pinned (.plain (OpenSpec.upto sealsSpec)) sealsUptoCard

/-- THE SECOND FORM's CARD OF 'stratalaw.Blocks'. -/
def blocksUptoCard : Claim7 := { stood := { row := blocksUptoRow, standIns := [], harness := (true, "45f27abcae65a815f5369e8b1e28ef14cda6b7149c67f078c6c210e1727a7efc"), looks := false }, kinds := [], alts := [], laidByText := true, laidKinds := [.data], laidTests := true, laidLooks := .later }
def BlocksUptoCardSaid : Prop := Claim7.holds Tryd.pinned (.plain (OpenSpec.upto blocksSpec)) blocksUptoCard

/-- THE SECOND FORM's CARD OF 'stratakeep.Whole'. -/
def wholeUptoCard : Claim7 := { stood := { row := wholeUptoRow, standIns := [], harness := (true, "45f27abcae65a815f5369e8b1e28ef14cda6b7149c67f078c6c210e1727a7efc"), looks := false }, kinds := [], alts := [], laidByText := true, laidKinds := [.data], laidTests := true, laidLooks := .later }
def WholeUptoCardSaid : Prop := Claim7.holds Tryd.pinned (.plain (OpenSpec.upto wholeSpec)) wholeUptoCard
end Rows
end Go.Proofs.YtekdenkllipehaaDoor
