/-
  DERIVED. GIVEN WITH THE SEED: THE CARDS: each row of YtgakmpfmckikgaaGreatDoorRows.lean that lists a variable, with what it lists TIED to the program's text (the seventh form; the later family's looks); each row that meets fmt, with fmt's text TOLD by the authors' own Lean function (tested against real Go, not proved from fmt's source: count such statements apart). THE CARD IS WHAT COUNTS. Prove the row's statement (the work); the ties are given (YtgakmpfmckikgaaGreatDoorTie.lean); close each card by the builder's one call (the guide's Derived/Test/ToyasCard.lean, 'card_holds'). Laid BY PROGRAM, IN A SANDBOX (cutbox-door.mjs). By AI agents, Wed Nov 11 2026. No macro, syntax, notation, axiom, sorry.
-/
import Derived.Test.YtgakmpfmckikgaaGreatDoorRows
import GoSem.ClaimSeven
namespace Go.Proofs.YtgakmpfmckikgaaGreatDoor
namespace Rows

/-- THE TIED CARD OF 'flitlaw12.DirectPlays'. -/
def directPlaysCard : Claim7 := { stood := { row := directPlaysRow, standIns := [], harness := (true, "1dc88bf31a67fd8ca0270c0b6d8ef3f0be07c1a32a9aef695839f7d9754184c2"), looks := false }, kinds := [], alts := [], laidByText := true, laidKinds := [.data], laidTests := true, laidLooks := .later }
def DirectPlaysCardSaid : Prop := Claim7.holds Tryz.pinned (.plain (OpenSpec.ofChange directPlaysSpec)) directPlaysCard

/-- THE SECOND FORM's CARD OF 'flitlaw12.DirectPlays'. -/
def directPlaysUptoCard : Claim7 := { stood := { row := directPlaysUptoRow, standIns := [], harness := (true, "1dc88bf31a67fd8ca0270c0b6d8ef3f0be07c1a32a9aef695839f7d9754184c2"), looks := false }, kinds := [], alts := [], laidByText := true, laidKinds := [.data], laidTests := true, laidLooks := .later }
def DirectPlaysUptoCardSaid : Prop := Claim7.holds Tryz.pinned (.plain (OpenSpec.upto directPlaysSpec)) directPlaysUptoCard
end Rows
end Go.Proofs.YtgakmpfmckikgaaGreatDoor
