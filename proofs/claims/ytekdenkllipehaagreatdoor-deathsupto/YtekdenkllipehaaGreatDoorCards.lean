/-
  DERIVED. GIVEN WITH THE SEED: THE CARDS: each row of YtekdenkllipehaaGreatDoorRows.lean that lists a variable, with what it lists TIED to the program's text (the seventh form; the later family's looks); each row that meets fmt, with fmt's text TOLD by the authors' own Lean function (tested against real Go, not proved from fmt's source: count such statements apart). THE CARD IS WHAT COUNTS. Prove the row's statement (the work); the ties are given (YtekdenkllipehaaGreatDoorTie.lean); close each card by the builder's one call (the guide's Derived/Test/ToyasCard.lean, 'card_holds'). Laid BY PROGRAM, IN A SANDBOX (cutbox-door.mjs). By AI agents, Wed Nov 11 2026. No macro, syntax, notation, axiom, sorry.
-/
import Derived.Test.YtekdenkllipehaaGreatDoorRows
import GoSem.ClaimSeven
namespace Go.Proofs.YtekdenkllipehaaGreatDoor
namespace Rows

/-- THE TIED CARD OF 'stratalaw.Stores'. -/
def storesCard : Claim7 := { stood := { row := storesRow, standIns := [], harness := (true, "8eee868fd420ab76ebb09478977e0d282372e110fa31ac69daf7495249069dfb"), looks := false }, kinds := [], alts := [], laidByText := true, laidKinds := [.data], laidTests := true, laidLooks := .later }
def StoresCardSaid : Prop := Claim7.holds Tryz.pinned (.plain (OpenSpec.ofChange storesSpec)) storesCard

/-- THE TIED CARD OF 'stratalaw.Deaths'. -/
def deathsCard : Claim7 := { stood := { row := deathsRow, standIns := [], harness := (true, "8eee868fd420ab76ebb09478977e0d282372e110fa31ac69daf7495249069dfb"), looks := false }, kinds := [], alts := [], laidByText := true, laidKinds := [.data], laidTests := true, laidLooks := .later }
def DeathsCardSaid : Prop := Claim7.holds Tryz.pinned (.plain (OpenSpec.ofChange deathsSpec)) deathsCard

/-- THE TIED CARD OF 'stratalaw.All'. -/
def allCard : Claim7 := { stood := { row := allRow, standIns := [], harness := (true, "8eee868fd420ab76ebb09478977e0d282372e110fa31ac69daf7495249069dfb"), looks := false }, kinds := [], alts := [], laidByText := true, laidKinds := [.data], laidTests := true, laidLooks := .later }
def AllCardSaid : Prop := Claim7.holds Tryz.pinned (.plain (OpenSpec.ofChange allSpec)) allCard

/-- THE SECOND FORM's CARD OF 'stratalaw.Stores'. -/
def storesUptoCard : Claim7 := { stood := { row := storesUptoRow, standIns := [], harness := (true, "8eee868fd420ab76ebb09478977e0d282372e110fa31ac69daf7495249069dfb"), looks := false }, kinds := [], alts := [], laidByText := true, laidKinds := [.data], laidTests := true, laidLooks := .later }
def StoresUptoCardSaid : Prop := Claim7.holds Tryz.pinned (.plain (OpenSpec.upto storesSpec)) storesUptoCard

/-- THE SECOND FORM's CARD OF 'stratalaw.Deaths'. -/
def deathsUptoCard : Claim7 := { stood := { row := deathsUptoRow, standIns := [], harness := (true, "8eee868fd420ab76ebb09478977e0d282372e110fa31ac69daf7495249069dfb"), looks := false }, kinds := [], alts := [], laidByText := true, laidKinds := [.data], laidTests := true, laidLooks := .later }
def DeathsUptoCardSaid : Prop := Claim7.holds Tryz.pinned (.plain (OpenSpec.upto deathsSpec)) deathsUptoCard

/-- THE SECOND FORM's CARD OF 'stratalaw.All'. -/
def allUptoCard : Claim7 := { stood := { row := allUptoRow, standIns := [], harness := (true, "8eee868fd420ab76ebb09478977e0d282372e110fa31ac69daf7495249069dfb"), looks := false }, kinds := [], alts := [], laidByText := true, laidKinds := [.data], laidTests := true, laidLooks := .later }
def AllUptoCardSaid : Prop := Claim7.holds Tryz.pinned (.plain (OpenSpec.upto allSpec)) allUptoCard
end Rows
end Go.Proofs.YtekdenkllipehaaGreatDoor
