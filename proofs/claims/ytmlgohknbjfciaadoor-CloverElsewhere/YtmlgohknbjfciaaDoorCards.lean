/-
  DERIVED. GIVEN WITH THE SEED: THE CARDS: each row of YtmlgohknbjfciaaDoorRows.lean that lists a variable, with what it lists TIED to the program's text (the seventh form; the later family's looks); each row that meets fmt, with fmt's text TOLD by the authors' own Lean function (tested against real Go, not proved from fmt's source: count such statements apart). THE CARD IS WHAT COUNTS. Prove the row's statement (the work); the ties are given (YtmlgohknbjfciaaDoorTie.lean); close each card by the builder's one call (the guide's Derived/Test/ToyasCard.lean, 'card_holds'). Laid BY PROGRAM, IN A SANDBOX (cutbox-door.mjs). By AI agents, Wed Nov 11 2026. No macro, syntax, notation, axiom, sorry.
-/
import Derived.Test.YtmlgohknbjfciaaDoorRows
import GoSem.ClaimSeven
namespace Go.Proofs.YtmlgohknbjfciaaDoor
namespace Rows

/-- THE TIED CARD OF 'flitlaw14.CloverWaits'. -/
def cloverWaitsCard : Claim7 := { stood := { row := cloverWaitsRow, standIns := [], harness := (true, "35bd1167dec598f7ad6cee1b88a393e577d80daf7f1df2a7783e9cfdef71b65b"), looks := false }, kinds := [], alts := [], laidByText := true, laidKinds := [.data], laidTests := true, laidLooks := .later }
def CloverWaitsCardSaid : Prop := Claim7.holds Tryd.pinned (.plain (OpenSpec.ofChange cloverWaitsSpec)) cloverWaitsCard

/-- THE TIED CARD OF 'flitlaw14.CloverElsewhere'. -/
def cloverElsewhereCard : Claim7 := { stood := { row := cloverElsewhereRow, standIns := [], harness := (true, "35bd1167dec598f7ad6cee1b88a393e577d80daf7f1df2a7783e9cfdef71b65b"), looks := false }, kinds := [], alts := [], laidByText := true, laidKinds := [.data], laidTests := true, laidLooks := .later }
def CloverElsewhereCardSaid : Prop := Claim7.holds Tryd.pinned (.plain (OpenSpec.ofChange cloverElsewhereSpec)) cloverElsewhereCard

/-- THE SECOND FORM's CARD OF 'flitlaw14.CloverWaits'. -/
def cloverWaitsUptoCard : Claim7 := { stood := { row := cloverWaitsUptoRow, standIns := [], harness := (true, "35bd1167dec598f7ad6cee1b88a393e577d80daf7f1df2a7783e9cfdef71b65b"), looks := false }, kinds := [], alts := [], laidByText := true, laidKinds := [.data], laidTests := true, laidLooks := .later }
def CloverWaitsUptoCardSaid : Prop := Claim7.holds Tryd.pinned (.plain (OpenSpec.upto cloverWaitsSpec)) cloverWaitsUptoCard

/-- THE SECOND FORM's CARD OF 'flitlaw14.CloverElsewhere'. -/
def cloverElsewhereUptoCard : Claim7 := { stood := { row := cloverElsewhereUptoRow, standIns := [], harness := (true, "35bd1167dec598f7ad6cee1b88a393e577d80daf7f1df2a7783e9cfdef71b65b"), looks := false }, kinds := [], alts := [], laidByText := true, laidKinds := [.data], laidTests := true, laidLooks := .later }
def CloverElsewhereUptoCardSaid : Prop := Claim7.holds Tryd.pinned (.plain (OpenSpec.upto cloverElsewhereSpec)) cloverElsewhereUptoCard
end Rows
end Go.Proofs.YtmlgohknbjfciaaDoor
