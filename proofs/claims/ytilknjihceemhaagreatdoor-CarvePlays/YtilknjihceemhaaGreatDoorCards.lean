/-
  DERIVED. GIVEN WITH THE SEED: THE CARDS: each row of YtilknjihceemhaaGreatDoorRows.lean that lists a variable, with what it lists TIED to the program's text (the seventh form; the later family's looks); each row that meets fmt, with fmt's text TOLD by the authors' own Lean function (tested against real Go, not proved from fmt's source: count such statements apart). THE CARD IS WHAT COUNTS. Prove the row's statement (the work); the ties are given (YtilknjihceemhaaGreatDoorTie.lean); close each card by the builder's one call (the guide's Derived/Test/ToyasCard.lean, 'card_holds'). Laid BY PROGRAM, IN A SANDBOX (cutbox-door.mjs). By AI agents, Wed Nov 11 2026. No macro, syntax, notation, axiom, sorry.
-/
import Derived.Test.YtilknjihceemhaaGreatDoorRows
import GoSem.ClaimSeven
namespace Go.Proofs.YtilknjihceemhaaGreatDoor
namespace Rows

/-- THE TIED CARD OF 'flitlaw09.CarvePlays'. -/
def carvePlaysCard : Claim7 := { stood := { row := carvePlaysRow, standIns := [], harness := (true, "00ef816ccb8ebd5c176cf1bea2a9ce9ffe42b8cfae4d9caa95ce8fa7a80567b3"), looks := false }, kinds := [], alts := [], laidByText := true, laidKinds := [.data, .data], laidTests := true, laidLooks := .later }
def CarvePlaysCardSaid : Prop := Claim7.holds Tryz.pinned (.plain (OpenSpec.ofChange carvePlaysSpec)) carvePlaysCard

/-- THE SECOND FORM's CARD OF 'flitlaw09.CarvePlays'. -/
def carvePlaysUptoCard : Claim7 := { stood := { row := carvePlaysUptoRow, standIns := [], harness := (true, "00ef816ccb8ebd5c176cf1bea2a9ce9ffe42b8cfae4d9caa95ce8fa7a80567b3"), looks := false }, kinds := [], alts := [], laidByText := true, laidKinds := [.data, .data], laidTests := true, laidLooks := .later }
def CarvePlaysUptoCardSaid : Prop := Claim7.holds Tryz.pinned (.plain (OpenSpec.upto carvePlaysSpec)) carvePlaysUptoCard
end Rows
end Go.Proofs.YtilknjihceemhaaGreatDoor
