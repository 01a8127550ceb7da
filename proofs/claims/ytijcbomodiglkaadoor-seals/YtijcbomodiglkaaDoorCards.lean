/-
  DERIVED. GIVEN WITH THE SEED: THE CARDS: each row of YtijcbomodiglkaaDoorRows.lean that lists a variable, with what it lists TIED to the program's text (the seventh form; the later family's looks); each row that meets fmt, with fmt's text TOLD by the authors' own Lean function (tested against real Go, not proved from fmt's source: count such statements apart). THE CARD IS WHAT COUNTS. Prove the row's statement (the work); the ties are given (YtijcbomodiglkaaDoorTie.lean); close each card by the builder's one call (the guide's Derived/Test/ToyasCard.lean, 'card_holds'). Laid BY PROGRAM, IN A SANDBOX (cutbox-door.mjs). By AI agents, Wed Nov 11 2026. No macro, syntax, notation, axiom, sorry.
-/
import Derived.Test.YtijcbomodiglkaaDoorRows
import GoSem.ClaimSeven
namespace Go.Proofs.YtijcbomodiglkaaDoor
namespace Rows

/-- THE TIED CARD OF 'stratalaw.Seals'. -/
def sealsCard : Claim7 := { stood := { row := sealsRow, standIns := [], harness := (true, "913b0838e5dd917b215bc67cbcf962fd375c332678a57020edba951248191fa8"), looks := false }, kinds := [], alts := [], laidByText := true, laidKinds := [.data], laidTests := true, laidLooks := .later }
def SealsCardSaid : Prop := Claim7.holds Tryd.pinned (.plain (OpenSpec.ofChange sealsSpec)) sealsCard

/-- THE SECOND FORM's CARD OF 'stratalaw.Seals'. -/
def sealsUptoCard : Claim7 := { stood := { row := sealsUptoRow, standIns := [], harness := (true, "913b0838e5dd917b215bc67cbcf962fd375c332678a57020edba951248191fa8"), looks := false }, kinds := [], alts := [], laidByText := true, laidKinds := [.data], laidTests := true, laidLooks := .later }
def SealsUptoCardSaid : Prop := Claim7.holds Tryd.pinned (.plain (OpenSpec.upto sealsSpec)) sealsUptoCard
end Rows
end Go.Proofs.YtijcbomodiglkaaDoor
