/-
  DERIVED. GIVEN WITH THE SEED: THE CARDS: each row of YtpcoldpphihfmaaGreatDoorRows.lean that lists a variable, with what it lists TIED to the program's text (the seventh form; the later family's looks); each row that meets fmt, with fmt's text TOLD by the authors' own Lean function (tested against real Go, not proved from fmt's source: count such statements apart). THE CARD IS WHAT COUNTS. Prove the row's statement (the work); the ties are given (YtpcoldpphihfmaaGreatDoorTie.lean); close each card by the builder's one call (the guide's Derived/Test/ToyasCard.lean, 'card_holds'). Laid BY PROGRAM, IN A SANDBOX (cutbox-door.mjs). By AI agents, Wed Nov 11 2026. No macro, syntax, notation, axiom, sorry.
-/
import Derived.Test.YtpcoldpphihfmaaGreatDoorRows
import GoSem.ClaimSeven
namespace Go.Proofs.YtpcoldpphihfmaaGreatDoor
namespace Rows

/-- THE TIED CARD OF 'flitlaw15.StoplessPlays'. -/
def stoplessPlaysCard : Claim7 := { stood := { row := stoplessPlaysRow, standIns := [], harness := (true, "011e661a89becc3f350ca707c150ebc6cc157c6bab990aba02c370f3b28de82e"), looks := false }, kinds := [], alts := [], laidByText := true, laidKinds := [.data, .data], laidTests := true, laidLooks := .later }
def StoplessPlaysCardSaid : Prop := Claim7.holds Tryz.pinned (.plain (OpenSpec.ofChange stoplessPlaysSpec)) stoplessPlaysCard

/-- THE TIED CARD OF 'flitlaw15.StoplessKeeps'. -/
def stoplessKeepsCard : Claim7 := { stood := { row := stoplessKeepsRow, standIns := [], harness := (true, "011e661a89becc3f350ca707c150ebc6cc157c6bab990aba02c370f3b28de82e"), looks := false }, kinds := [], alts := [], laidByText := true, laidKinds := [.data, .data], laidTests := true, laidLooks := .later }
def StoplessKeepsCardSaid : Prop := Claim7.holds Tryz.pinned (.plain (OpenSpec.ofChange stoplessKeepsSpec)) stoplessKeepsCard

/-- THE TIED CARD OF 'flitlaw15.StoplessReads'. -/
def stoplessReadsCard : Claim7 := { stood := { row := stoplessReadsRow, standIns := [], harness := (true, "011e661a89becc3f350ca707c150ebc6cc157c6bab990aba02c370f3b28de82e"), looks := false }, kinds := [], alts := [], laidByText := true, laidKinds := [.data, .data], laidTests := true, laidLooks := .later }
def StoplessReadsCardSaid : Prop := Claim7.holds Tryz.pinned (.plain (OpenSpec.ofChange stoplessReadsSpec)) stoplessReadsCard

/-- THE TIED CARD OF 'flitlaw15.StoplessSwaps'. -/
def stoplessSwapsCard : Claim7 := { stood := { row := stoplessSwapsRow, standIns := [], harness := (true, "011e661a89becc3f350ca707c150ebc6cc157c6bab990aba02c370f3b28de82e"), looks := false }, kinds := [], alts := [], laidByText := true, laidKinds := [.data, .data], laidTests := true, laidLooks := .later }
def StoplessSwapsCardSaid : Prop := Claim7.holds Tryz.pinned (.plain (OpenSpec.ofChange stoplessSwapsSpec)) stoplessSwapsCard

/-- THE TIED CARD OF 'flitlaw15.StoplessWhere'. -/
def stoplessWhereCard : Claim7 := { stood := { row := stoplessWhereRow, standIns := [], harness := (true, "011e661a89becc3f350ca707c150ebc6cc157c6bab990aba02c370f3b28de82e"), looks := false }, kinds := [], alts := [], laidByText := true, laidKinds := [.data, .data], laidTests := true, laidLooks := .later }
def StoplessWhereCardSaid : Prop := Claim7.holds Tryz.pinned (.plain (OpenSpec.ofChange stoplessWhereSpec)) stoplessWhereCard

/-- THE TIED CARD OF 'flitlaw15.StoplessWrites'. -/
def stoplessWritesCard : Claim7 := { stood := { row := stoplessWritesRow, standIns := [], harness := (true, "011e661a89becc3f350ca707c150ebc6cc157c6bab990aba02c370f3b28de82e"), looks := false }, kinds := [], alts := [], laidByText := true, laidKinds := [.data, .data], laidTests := true, laidLooks := .later }
def StoplessWritesCardSaid : Prop := Claim7.holds Tryz.pinned (.plain (OpenSpec.ofChange stoplessWritesSpec)) stoplessWritesCard

/-- THE SECOND FORM's CARD OF 'flitlaw15.StoplessPlays'. -/
def stoplessPlaysUptoCard : Claim7 := { stood := { row := stoplessPlaysUptoRow, standIns := [], harness := (true, "011e661a89becc3f350ca707c150ebc6cc157c6bab990aba02c370f3b28de82e"), looks := false }, kinds := [], alts := [], laidByText := true, laidKinds := [.data, .data], laidTests := true, laidLooks := .later }
def StoplessPlaysUptoCardSaid : Prop := Claim7.holds Tryz.pinned (.plain (OpenSpec.upto stoplessPlaysSpec)) stoplessPlaysUptoCard

/-- THE SECOND FORM's CARD OF 'flitlaw15.StoplessKeeps'. -/
def stoplessKeepsUptoCard : Claim7 := { stood := { row := stoplessKeepsUptoRow, standIns := [], harness := (true, "011e661a89becc3f350ca707c150ebc6cc157c6bab990aba02c370f3b28de82e"), looks := false }, kinds := [], alts := [], laidByText := true, laidKinds := [.data, .data], laidTests := true, laidLooks := .later }
def StoplessKeepsUptoCardSaid : Prop := Claim7.holds Tryz.pinned (.plain (OpenSpec.upto stoplessKeepsSpec)) stoplessKeepsUptoCard

/-- THE SECOND FORM's CARD OF 'flitlaw15.StoplessReads'. -/
def stoplessReadsUptoCard : Claim7 := { stood := { row := stoplessReadsUptoRow, standIns := [], harness := (true, "011e661a89becc3f350ca707c150ebc6cc157c6bab990aba02c370f3b28de82e"), looks := false }, kinds := [], alts := [], laidByText := true, laidKinds := [.data, .data], laidTests := true, laidLooks := .later }
def StoplessReadsUptoCardSaid : Prop := Claim7.holds Tryz.pinned (.plain (OpenSpec.upto stoplessReadsSpec)) stoplessReadsUptoCard

/-- THE SECOND FORM's CARD OF 'flitlaw15.StoplessSwaps'. -/
def stoplessSwapsUptoCard : Claim7 := { stood := { row := stoplessSwapsUptoRow, standIns := [], harness := (true, "011e661a89becc3f350ca707c150ebc6cc157c6bab990aba02c370f3b28de82e"), looks := false }, kinds := [], alts := [], laidByText := true, laidKinds := [.data, .data], laidTests := true, laidLooks := .later }
def StoplessSwapsUptoCardSaid : Prop := Claim7.holds Tryz.pinned (.plain (OpenSpec.upto stoplessSwapsSpec)) stoplessSwapsUptoCard

/-- THE SECOND FORM's CARD OF 'flitlaw15.StoplessWhere'. -/
def stoplessWhereUptoCard : Claim7 := { stood := { row := stoplessWhereUptoRow, standIns := [], harness := (true, "011e661a89becc3f350ca707c150ebc6cc157c6bab990aba02c370f3b28de82e"), looks := false }, kinds := [], alts := [], laidByText := true, laidKinds := [.data, .data], laidTests := true, laidLooks := .later }
def StoplessWhereUptoCardSaid : Prop := Claim7.holds Tryz.pinned (.plain (OpenSpec.upto stoplessWhereSpec)) stoplessWhereUptoCard

/-- THE SECOND FORM's CARD OF 'flitlaw15.StoplessWrites'. -/
def stoplessWritesUptoCard : Claim7 := { stood := { row := stoplessWritesUptoRow, standIns := [], harness := (true, "011e661a89becc3f350ca707c150ebc6cc157c6bab990aba02c370f3b28de82e"), looks := false }, kinds := [], alts := [], laidByText := true, laidKinds := [.data, .data], laidTests := true, laidLooks := .later }
def StoplessWritesUptoCardSaid : Prop := Claim7.holds Tryz.pinned (.plain (OpenSpec.upto stoplessWritesSpec)) stoplessWritesUptoCard
end Rows
end Go.Proofs.YtpcoldpphihfmaaGreatDoor
