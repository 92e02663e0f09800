/-
  DERIVED. GIVEN WITH THE SEED: THE CARDS: each row of YtmlgohknbjfciaaGreatDoorRows.lean that lists a variable, with what it lists TIED to the program's text (the seventh form; the later family's looks); each row that meets fmt, with fmt's text TOLD by the authors' own Lean function (tested against real Go, not proved from fmt's source: count such statements apart). THE CARD IS WHAT COUNTS. Prove the row's statement (the work); the ties are given (YtmlgohknbjfciaaGreatDoorTie.lean); close each card by the builder's one call (the guide's Derived/Test/ToyasCard.lean, 'card_holds'). Laid BY PROGRAM, IN A SANDBOX (cutbox-door.mjs). By AI agents, Wed Nov 11 2026. No macro, syntax, notation, axiom, sorry.
-/
import Derived.Test.YtmlgohknbjfciaaGreatDoorRows
import GoSem.ClaimSeven
namespace Go.Proofs.YtmlgohknbjfciaaGreatDoor
namespace Rows

/-- THE TIED CARD OF 'flitlaw14.CloverPlays'. -/
def cloverPlaysCard : Claim7 := { stood := { row := cloverPlaysRow, standIns := [], harness := (true, "b74a124de6e05da957a1dffcf2f1542f280ba5df2b8ae9ce52284525aaa284e9"), looks := false }, kinds := [], alts := [], laidByText := true, laidKinds := [.data], laidTests := true, laidLooks := .later }
def CloverPlaysCardSaid : Prop := Claim7.holds Tryz.pinned (.plain (OpenSpec.ofChange cloverPlaysSpec)) cloverPlaysCard

/-- THE TIED CARD OF 'flitlaw14.CloverKeeps'. -/
def cloverKeepsCard : Claim7 := { stood := { row := cloverKeepsRow, standIns := [], harness := (true, "b74a124de6e05da957a1dffcf2f1542f280ba5df2b8ae9ce52284525aaa284e9"), looks := false }, kinds := [], alts := [], laidByText := true, laidKinds := [.data], laidTests := true, laidLooks := .later }
def CloverKeepsCardSaid : Prop := Claim7.holds Tryz.pinned (.plain (OpenSpec.ofChange cloverKeepsSpec)) cloverKeepsCard

/-- THE TIED CARD OF 'flitlaw14.CloverReads'. -/
def cloverReadsCard : Claim7 := { stood := { row := cloverReadsRow, standIns := [], harness := (true, "b74a124de6e05da957a1dffcf2f1542f280ba5df2b8ae9ce52284525aaa284e9"), looks := false }, kinds := [], alts := [], laidByText := true, laidKinds := [.data], laidTests := true, laidLooks := .later }
def CloverReadsCardSaid : Prop := Claim7.holds Tryz.pinned (.plain (OpenSpec.ofChange cloverReadsSpec)) cloverReadsCard

/-- THE TIED CARD OF 'flitlaw14.CloverSwaps'. -/
def cloverSwapsCard : Claim7 := { stood := { row := cloverSwapsRow, standIns := [], harness := (true, "b74a124de6e05da957a1dffcf2f1542f280ba5df2b8ae9ce52284525aaa284e9"), looks := false }, kinds := [], alts := [], laidByText := true, laidKinds := [.data], laidTests := true, laidLooks := .later }
def CloverSwapsCardSaid : Prop := Claim7.holds Tryz.pinned (.plain (OpenSpec.ofChange cloverSwapsSpec)) cloverSwapsCard

/-- THE SECOND FORM's CARD OF 'flitlaw14.CloverPlays'. -/
def cloverPlaysUptoCard : Claim7 := { stood := { row := cloverPlaysUptoRow, standIns := [], harness := (true, "b74a124de6e05da957a1dffcf2f1542f280ba5df2b8ae9ce52284525aaa284e9"), looks := false }, kinds := [], alts := [], laidByText := true, laidKinds := [.data], laidTests := true, laidLooks := .later }
def CloverPlaysUptoCardSaid : Prop := Claim7.holds Tryz.pinned (.plain (OpenSpec.upto cloverPlaysSpec)) cloverPlaysUptoCard

/-- THE SECOND FORM's CARD OF 'flitlaw14.CloverKeeps'. -/
def cloverKeepsUptoCard : Claim7 := { stood := { row := cloverKeepsUptoRow, standIns := [], harness := (true, "b74a124de6e05da957a1dffcf2f1542f280ba5df2b8ae9ce52284525aaa284e9"), looks := false }, kinds := [], alts := [], laidByText := true, laidKinds := [.data], laidTests := true, laidLooks := .later }
def CloverKeepsUptoCardSaid : Prop := Claim7.holds Tryz.pinned (.plain (OpenSpec.upto cloverKeepsSpec)) cloverKeepsUptoCard

/-- THE SECOND FORM's CARD OF 'flitlaw14.CloverReads'. -/
def cloverReadsUptoCard : Claim7 := { stood := { row := cloverReadsUptoRow, standIns := [], harness := (true, "b74a124de6e05da957a1dffcf2f1542f280ba5df2b8ae9ce52284525aaa284e9"), looks := false }, kinds := [], alts := [], laidByText := true, laidKinds := [.data], laidTests := true, laidLooks := .later }
def CloverReadsUptoCardSaid : Prop := Claim7.holds Tryz.pinned (.plain (OpenSpec.upto cloverReadsSpec)) cloverReadsUptoCard

/-- THE SECOND FORM's CARD OF 'flitlaw14.CloverSwaps'. -/
def cloverSwapsUptoCard : Claim7 := { stood := { row := cloverSwapsUptoRow, standIns := [], harness := (true, "b74a124de6e05da957a1dffcf2f1542f280ba5df2b8ae9ce52284525aaa284e9"), looks := false }, kinds := [], alts := [], laidByText := true, laidKinds := [.data], laidTests := true, laidLooks := .later }
def CloverSwapsUptoCardSaid : Prop := Claim7.holds Tryz.pinned (.plain (OpenSpec.upto cloverSwapsSpec)) cloverSwapsUptoCard
end Rows
end Go.Proofs.YtmlgohknbjfciaaGreatDoor
