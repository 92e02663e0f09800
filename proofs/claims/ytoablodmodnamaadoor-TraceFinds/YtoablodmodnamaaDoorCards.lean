/-
  DERIVED. GIVEN WITH THE SEED: THE CARDS: each row of YtoablodmodnamaaDoorRows.lean that lists a variable, with what it lists TIED to the program's text (the seventh form; the later family's looks); each row that meets fmt, with fmt's text TOLD by the authors' own Lean function (tested against real Go, not proved from fmt's source: count such statements apart). THE CARD IS WHAT COUNTS. Prove the row's statement (the work); the ties are given (YtoablodmodnamaaDoorTie.lean); close each card by the builder's one call (the guide's Derived/Test/ToyasCard.lean, 'card_holds'). Laid BY PROGRAM, IN A SANDBOX (cutbox-door.mjs). By AI agents, Wed Nov 11 2026. No macro, syntax, notation, axiom, sorry.
-/
import Derived.Test.YtoablodmodnamaaDoorRows
import GoSem.ClaimSeven
namespace Go.Proofs.YtoablodmodnamaaDoor
namespace Rows

/-- THE TIED CARD OF 'flitlaw16.ShakePlays'. -/
def shakePlaysCard : Claim7 := { stood := { row := shakePlaysRow, standIns := [], harness := (true, "8bda3d7b742c44f0e62a67f6da86116c708aabf519ab90c5785efba17af3a5a4"), looks := false }, kinds := [], alts := [], laidByText := true, laidKinds := [.data], laidTests := true, laidLooks := .later }
def ShakePlaysCardSaid : Prop := Claim7.holds Tryd.pinned (.plain (OpenSpec.ofChange shakePlaysSpec)) shakePlaysCard

/-- THE TIED CARD OF 'flitlaw17.TraceFinds'. -/
def traceFindsCard : Claim7 := { stood := { row := traceFindsRow, standIns := [], harness := (true, "8bda3d7b742c44f0e62a67f6da86116c708aabf519ab90c5785efba17af3a5a4"), looks := false }, kinds := [], alts := [], laidByText := true, laidKinds := [.data], laidTests := true, laidLooks := .later }
def TraceFindsCardSaid : Prop := Claim7.holds Tryd.pinned (.plain (OpenSpec.ofChange traceFindsSpec)) traceFindsCard

/-- THE TIED CARD OF 'flitlaw17.TraceKeeps'. -/
def traceKeepsCard : Claim7 := { stood := { row := traceKeepsRow, standIns := [], harness := (true, "8bda3d7b742c44f0e62a67f6da86116c708aabf519ab90c5785efba17af3a5a4"), looks := false }, kinds := [], alts := [], laidByText := true, laidKinds := [.data], laidTests := true, laidLooks := .later }
def TraceKeepsCardSaid : Prop := Claim7.holds Tryd.pinned (.plain (OpenSpec.ofChange traceKeepsSpec)) traceKeepsCard

/-- THE SECOND FORM's CARD OF 'flitlaw16.ShakePlays'. -/
def shakePlaysUptoCard : Claim7 := { stood := { row := shakePlaysUptoRow, standIns := [], harness := (true, "8bda3d7b742c44f0e62a67f6da86116c708aabf519ab90c5785efba17af3a5a4"), looks := false }, kinds := [], alts := [], laidByText := true, laidKinds := [.data], laidTests := true, laidLooks := .later }
def ShakePlaysUptoCardSaid : Prop := Claim7.holds Tryd.pinned (.plain (OpenSpec.upto shakePlaysSpec)) shakePlaysUptoCard

/-- THE SECOND FORM's CARD OF 'flitlaw17.TraceFinds'. -/
def traceFindsUptoCard : Claim7 := { stood := { row := traceFindsUptoRow, standIns := [], harness := (true, "8bda3d7b742c44f0e62a67f6da86116c708aabf519ab90c5785efba17af3a5a4"), looks := false }, kinds := [], alts := [], laidByText := true, laidKinds := [.data], laidTests := true, laidLooks := .later }
def TraceFindsUptoCardSaid : Prop := Claim7.holds Tryd.pinned (.plain (OpenSpec.upto traceFindsSpec)) traceFindsUptoCard

/-- THE SECOND FORM's CARD OF 'flitlaw17.TraceKeeps'. -/
def traceKeepsUptoCard : Claim7 := { stood := { row := traceKeepsUptoRow, standIns := [], harness := (true, "8bda3d7b742c44f0e62a67f6da86116c708aabf519ab90c5785efba17af3a5a4"), looks := false }, kinds := [], alts := [], laidByText := true, laidKinds := [.data], laidTests := true, laidLooks := .later }
def TraceKeepsUptoCardSaid : Prop := Claim7.holds Tryd.pinned (.plain (OpenSpec.upto traceKeepsSpec)) traceKeepsUptoCard
end Rows
end Go.Proofs.YtoablodmodnamaaDoor
