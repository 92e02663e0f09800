/-
  DERIVED. GIVEN WITH THE SEED: THE CARDS: each row of YtahafmglidlcnaaDoorRows.lean that lists a variable, with what it lists TIED to the program's text (the seventh form; the later family's looks); each row that meets fmt, with fmt's text TOLD by the authors' own Lean function (tested against real Go, not proved from fmt's source: count such statements apart). THE CARD IS WHAT COUNTS. Prove the row's statement (the work); the ties are given (YtahafmglidlcnaaDoorTie.lean); close each card by the builder's one call (the guide's Derived/Test/ToyasCard.lean, 'card_holds'). Laid BY PROGRAM, IN A SANDBOX (cutbox-door.mjs). By AI agents, Wed Nov 11 2026. No macro, syntax, notation, axiom, sorry.
-/
import Derived.Test.YtahafmglidlcnaaDoorRows
import GoSem.ClaimSeven
namespace Go.Proofs.YtahafmglidlcnaaDoor
namespace Rows

/-- THE TIED CARD OF 'flitlaw13.ChickenKeeps'. -/
def chickenKeepsCard : Claim7 := { stood := { row := chickenKeepsRow, standIns := [], harness := (true, "2afe47bb0c341d42397626ccc439444da6bcac894c447bad247a5970426ff2fb"), looks := false }, kinds := [], alts := [], laidByText := true, laidKinds := [.data], laidTests := true, laidLooks := .later }
def ChickenKeepsCardSaid : Prop := Claim7.holds Tryd.pinned (.plain (OpenSpec.ofChange chickenKeepsSpec)) chickenKeepsCard

/-- THE TIED CARD OF 'flitlaw13.ChickenReads'. -/
def chickenReadsCard : Claim7 := { stood := { row := chickenReadsRow, standIns := [], harness := (true, "2afe47bb0c341d42397626ccc439444da6bcac894c447bad247a5970426ff2fb"), looks := false }, kinds := [], alts := [], laidByText := true, laidKinds := [.data], laidTests := true, laidLooks := .later }
def ChickenReadsCardSaid : Prop := Claim7.holds Tryd.pinned (.plain (OpenSpec.ofChange chickenReadsSpec)) chickenReadsCard

/-- THE TIED CARD OF 'flitlaw13.ChickenSwaps'. -/
def chickenSwapsCard : Claim7 := { stood := { row := chickenSwapsRow, standIns := [], harness := (true, "2afe47bb0c341d42397626ccc439444da6bcac894c447bad247a5970426ff2fb"), looks := false }, kinds := [], alts := [], laidByText := true, laidKinds := [.data], laidTests := true, laidLooks := .later }
def ChickenSwapsCardSaid : Prop := Claim7.holds Tryd.pinned (.plain (OpenSpec.ofChange chickenSwapsSpec)) chickenSwapsCard

/-- THE TIED CARD OF 'flitlaw13.ChickenAborts'. -/
def chickenAbortsCard : Claim7 := { stood := { row := chickenAbortsRow, standIns := [], harness := (true, "2afe47bb0c341d42397626ccc439444da6bcac894c447bad247a5970426ff2fb"), looks := false }, kinds := [], alts := [], laidByText := true, laidKinds := [.data], laidTests := true, laidLooks := .later }
def ChickenAbortsCardSaid : Prop := Claim7.holds Tryd.pinned (.plain (OpenSpec.ofChange chickenAbortsSpec)) chickenAbortsCard

/-- THE TIED CARD OF 'flitlaw13.ChickenMoved'. -/
def chickenMovedCard : Claim7 := { stood := { row := chickenMovedRow, standIns := [], harness := (true, "2afe47bb0c341d42397626ccc439444da6bcac894c447bad247a5970426ff2fb"), looks := false }, kinds := [], alts := [], laidByText := true, laidKinds := [.data], laidTests := true, laidLooks := .later }
def ChickenMovedCardSaid : Prop := Claim7.holds Tryd.pinned (.plain (OpenSpec.ofChange chickenMovedSpec)) chickenMovedCard

/-- THE SECOND FORM's CARD OF 'flitlaw13.ChickenKeeps'. -/
def chickenKeepsUptoCard : Claim7 := { stood := { row := chickenKeepsUptoRow, standIns := [], harness := (true, "2afe47bb0c341d42397626ccc439444da6bcac894c447bad247a5970426ff2fb"), looks := false }, kinds := [], alts := [], laidByText := true, laidKinds := [.data], laidTests := true, laidLooks := .later }
def ChickenKeepsUptoCardSaid : Prop := Claim7.holds Tryd.pinned (.plain (OpenSpec.upto chickenKeepsSpec)) chickenKeepsUptoCard

/-- THE SECOND FORM's CARD OF 'flitlaw13.ChickenReads'. -/
def chickenReadsUptoCard : Claim7 := { stood := { row := chickenReadsUptoRow, standIns := [], harness := (true, "2afe47bb0c341d42397626ccc439444da6bcac894c447bad247a5970426ff2fb"), looks := false }, kinds := [], alts := [], laidByText := true, laidKinds := [.data], laidTests := true, laidLooks := .later }
def ChickenReadsUptoCardSaid : Prop := Claim7.holds Tryd.pinned (.plain (OpenSpec.upto chickenReadsSpec)) chickenReadsUptoCard

/-- THE SECOND FORM's CARD OF 'flitlaw13.ChickenSwaps'. -/
def chickenSwapsUptoCard : Claim7 := { stood := { row := chickenSwapsUptoRow, standIns := [], harness := (true, "2afe47bb0c341d42397626ccc439444da6bcac894c447bad247a5970426ff2fb"), looks := false }, kinds := [], alts := [], laidByText := true, laidKinds := [.data], laidTests := true, laidLooks := .later }
def ChickenSwapsUptoCardSaid : Prop := Claim7.holds Tryd.pinned (.plain (OpenSpec.upto chickenSwapsSpec)) chickenSwapsUptoCard

/-- THE SECOND FORM's CARD OF 'flitlaw13.ChickenAborts'. -/
def chickenAbortsUptoCard : Claim7 := { stood := { row := chickenAbortsUptoRow, standIns := [], harness := (true, "2afe47bb0c341d42397626ccc439444da6bcac894c447bad247a5970426ff2fb"), looks := false }, kinds := [], alts := [], laidByText := true, laidKinds := [.data], laidTests := true, laidLooks := .later }
def ChickenAbortsUptoCardSaid : Prop := Claim7.holds Tryd.pinned (.plain (OpenSpec.upto chickenAbortsSpec)) chickenAbortsUptoCard

/-- THE SECOND FORM's CARD OF 'flitlaw13.ChickenMoved'. -/
def chickenMovedUptoCard : Claim7 := { stood := { row := chickenMovedUptoRow, standIns := [], harness := (true, "2afe47bb0c341d42397626ccc439444da6bcac894c447bad247a5970426ff2fb"), looks := false }, kinds := [], alts := [], laidByText := true, laidKinds := [.data], laidTests := true, laidLooks := .later }
def ChickenMovedUptoCardSaid : Prop := Claim7.holds Tryd.pinned (.plain (OpenSpec.upto chickenMovedSpec)) chickenMovedUptoCard
end Rows
end Go.Proofs.YtahafmglidlcnaaDoor
