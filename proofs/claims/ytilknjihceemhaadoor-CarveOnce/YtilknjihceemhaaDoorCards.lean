/-
  DERIVED. GIVEN WITH THE SEED: THE CARDS: each row of YtilknjihceemhaaDoorRows.lean that lists a variable, with what it lists TIED to the program's text (the seventh form; the later family's looks); each row that meets fmt, with fmt's text TOLD by the authors' own Lean function (tested against real Go, not proved from fmt's source: count such statements apart). THE CARD IS WHAT COUNTS. Prove the row's statement (the work); the ties are given (YtilknjihceemhaaDoorTie.lean); close each card by the builder's one call (the guide's Derived/Test/ToyasCard.lean, 'card_holds'). Laid BY PROGRAM, IN A SANDBOX (cutbox-door.mjs). By AI agents, Wed Nov 11 2026. No macro, syntax, notation, axiom, sorry.
-/
import Derived.Test.YtilknjihceemhaaDoorRows
import GoSem.ClaimSeven
namespace Go.Proofs.YtilknjihceemhaaDoor
namespace Rows

/-- THE TIED CARD OF 'flitlaw09.CarveOnce'. -/
def carveOnceCard : Claim7 := { stood := { row := carveOnceRow, standIns := [], harness := (true, "335f256b54e625b392f172fc11ee8456f0619a84dd233909df380643b70e0451"), looks := false }, kinds := [], alts := [], laidByText := true, laidKinds := [.data, .data], laidTests := true, laidLooks := .later }
def CarveOnceCardSaid : Prop := Claim7.holds Tryd.pinned (.plain (OpenSpec.ofChange carveOnceSpec)) carveOnceCard

/-- THE TIED CARD OF 'flitlaw09.CarveCells'. -/
def carveCellsCard : Claim7 := { stood := { row := carveCellsRow, standIns := [], harness := (true, "335f256b54e625b392f172fc11ee8456f0619a84dd233909df380643b70e0451"), looks := false }, kinds := [], alts := [], laidByText := true, laidKinds := [.data, .data], laidTests := true, laidLooks := .later }
def CarveCellsCardSaid : Prop := Claim7.holds Tryd.pinned (.plain (OpenSpec.ofChange carveCellsSpec)) carveCellsCard

/-- THE TIED CARD OF 'flitlaw09.CarveBack'. -/
def carveBackCard : Claim7 := { stood := { row := carveBackRow, standIns := [], harness := (true, "335f256b54e625b392f172fc11ee8456f0619a84dd233909df380643b70e0451"), looks := false }, kinds := [], alts := [], laidByText := true, laidKinds := [.data, .data], laidTests := true, laidLooks := .later }
def CarveBackCardSaid : Prop := Claim7.holds Tryd.pinned (.plain (OpenSpec.ofChange carveBackSpec)) carveBackCard

/-- THE SECOND FORM's CARD OF 'flitlaw09.CarveOnce'. -/
def carveOnceUptoCard : Claim7 := { stood := { row := carveOnceUptoRow, standIns := [], harness := (true, "335f256b54e625b392f172fc11ee8456f0619a84dd233909df380643b70e0451"), looks := false }, kinds := [], alts := [], laidByText := true, laidKinds := [.data, .data], laidTests := true, laidLooks := .later }
def CarveOnceUptoCardSaid : Prop := Claim7.holds Tryd.pinned (.plain (OpenSpec.upto carveOnceSpec)) carveOnceUptoCard

/-- THE SECOND FORM's CARD OF 'flitlaw09.CarveCells'. -/
def carveCellsUptoCard : Claim7 := { stood := { row := carveCellsUptoRow, standIns := [], harness := (true, "335f256b54e625b392f172fc11ee8456f0619a84dd233909df380643b70e0451"), looks := false }, kinds := [], alts := [], laidByText := true, laidKinds := [.data, .data], laidTests := true, laidLooks := .later }
def CarveCellsUptoCardSaid : Prop := Claim7.holds Tryd.pinned (.plain (OpenSpec.upto carveCellsSpec)) carveCellsUptoCard

/-- THE SECOND FORM's CARD OF 'flitlaw09.CarveBack'. -/
def carveBackUptoCard : Claim7 := { stood := { row := carveBackUptoRow, standIns := [], harness := (true, "335f256b54e625b392f172fc11ee8456f0619a84dd233909df380643b70e0451"), looks := false }, kinds := [], alts := [], laidByText := true, laidKinds := [.data, .data], laidTests := true, laidLooks := .later }
def CarveBackUptoCardSaid : Prop := Claim7.holds Tryd.pinned (.plain (OpenSpec.upto carveBackSpec)) carveBackUptoCard
end Rows
end Go.Proofs.YtilknjihceemhaaDoor
