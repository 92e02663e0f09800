/-
  DERIVED. GIVEN WITH THE SEED: THE CARDS: each row of YtahafmglidlcnaaGreatDoorRows.lean that lists a variable, with what it lists TIED to the program's text (the seventh form; the later family's looks); each row that meets fmt, with fmt's text TOLD by the authors' own Lean function (tested against real Go, not proved from fmt's source: count such statements apart). THE CARD IS WHAT COUNTS. Prove the row's statement (the work); the ties are given (YtahafmglidlcnaaGreatDoorTie.lean); close each card by the builder's one call (the guide's Derived/Test/ToyasCard.lean, 'card_holds'). Laid BY PROGRAM, IN A SANDBOX (cutbox-door.mjs). By AI agents, Wed Nov 11 2026. No macro, syntax, notation, axiom, sorry.
-/
import Derived.Test.YtahafmglidlcnaaGreatDoorRows
import GoSem.ClaimSeven
namespace Go.Proofs.YtahafmglidlcnaaGreatDoor
namespace Rows

/-- THE TIED CARD OF 'flitlaw13.ChickenPlays'. -/
def chickenPlaysCard : Claim7 := { stood := { row := chickenPlaysRow, standIns := [], harness := (true, "3ec1df2916c96b97518acdd24a89200c1cf973df7f231c60e6d36df52ec12aa2"), looks := false }, kinds := [], alts := [], laidByText := true, laidKinds := [.data], laidTests := true, laidLooks := .later }
def ChickenPlaysCardSaid : Prop := Claim7.holds Tryz.pinned (.plain (OpenSpec.ofChange chickenPlaysSpec)) chickenPlaysCard

/-- THE SECOND FORM's CARD OF 'flitlaw13.ChickenPlays'. -/
def chickenPlaysUptoCard : Claim7 := { stood := { row := chickenPlaysUptoRow, standIns := [], harness := (true, "3ec1df2916c96b97518acdd24a89200c1cf973df7f231c60e6d36df52ec12aa2"), looks := false }, kinds := [], alts := [], laidByText := true, laidKinds := [.data], laidTests := true, laidLooks := .later }
def ChickenPlaysUptoCardSaid : Prop := Claim7.holds Tryz.pinned (.plain (OpenSpec.upto chickenPlaysSpec)) chickenPlaysUptoCard
end Rows
end Go.Proofs.YtahafmglidlcnaaGreatDoor
