/-
  DERIVED. GIVEN WITH THE SEED: THE CARDS: each row of YtkgmfnllhjedpaaDoorRows.lean that lists a variable, with what it lists TIED to the program's text (the seventh form; the later family's looks); each row that meets fmt, with fmt's text TOLD by the authors' own Lean function (tested against real Go, not proved from fmt's source: count such statements apart). THE CARD IS WHAT COUNTS. Prove the row's statement (the work); the ties are given (YtkgmfnllhjedpaaDoorTie.lean); close each card by the builder's one call (the guide's Derived/Test/ToyasCard.lean, 'card_holds'). Laid BY PROGRAM, IN A SANDBOX (cutbox-door.mjs). By AI agents, Wed Nov 11 2026. No macro, syntax, notation, axiom, sorry.
-/
import Derived.Test.YtkgmfnllhjedpaaDoorRows
import GoSem.ClaimSeven
namespace Go.Proofs.YtkgmfnllhjedpaaDoor
namespace Rows

/-- THE TIED CARD OF 'flitlaw11.GreyPlays'. -/
def greyPlaysCard : Claim7 := { stood := { row := greyPlaysRow, standIns := [], harness := (true, "af773cf40c907807a841a37ab3e0c7efdad8d7603cb7b8d61f870ea023f36387"), looks := false }, kinds := [], alts := [], laidByText := true, laidKinds := [.data], laidTests := true, laidLooks := .later }
def GreyPlaysCardSaid : Prop := Claim7.holds Tryd.pinned (.plain (OpenSpec.ofChange greyPlaysSpec)) greyPlaysCard

/-- THE TIED CARD OF 'flitlaw11.GreyOnce'. -/
def greyOnceCard : Claim7 := { stood := { row := greyOnceRow, standIns := [], harness := (true, "af773cf40c907807a841a37ab3e0c7efdad8d7603cb7b8d61f870ea023f36387"), looks := false }, kinds := [], alts := [], laidByText := true, laidKinds := [.data], laidTests := true, laidLooks := .later }
def GreyOnceCardSaid : Prop := Claim7.holds Tryd.pinned (.plain (OpenSpec.ofChange greyOnceSpec)) greyOnceCard

/-- THE TIED CARD OF 'flitlaw11.GreyMarks'. -/
def greyMarksCard : Claim7 := { stood := { row := greyMarksRow, standIns := [], harness := (true, "af773cf40c907807a841a37ab3e0c7efdad8d7603cb7b8d61f870ea023f36387"), looks := false }, kinds := [], alts := [], laidByText := true, laidKinds := [.data], laidTests := true, laidLooks := .later }
def GreyMarksCardSaid : Prop := Claim7.holds Tryd.pinned (.plain (OpenSpec.ofChange greyMarksSpec)) greyMarksCard

/-- THE TIED CARD OF 'flitlaw11.GreyOrder'. -/
def greyOrderCard : Claim7 := { stood := { row := greyOrderRow, standIns := [], harness := (true, "af773cf40c907807a841a37ab3e0c7efdad8d7603cb7b8d61f870ea023f36387"), looks := false }, kinds := [], alts := [], laidByText := true, laidKinds := [.data], laidTests := true, laidLooks := .later }
def GreyOrderCardSaid : Prop := Claim7.holds Tryd.pinned (.plain (OpenSpec.ofChange greyOrderSpec)) greyOrderCard

/-- THE TIED CARD OF 'flitlaw11.GreyFields'. -/
def greyFieldsCard : Claim7 := { stood := { row := greyFieldsRow, standIns := [], harness := (true, "af773cf40c907807a841a37ab3e0c7efdad8d7603cb7b8d61f870ea023f36387"), looks := false }, kinds := [], alts := [], laidByText := true, laidKinds := [.data], laidTests := true, laidLooks := .later }
def GreyFieldsCardSaid : Prop := Claim7.holds Tryd.pinned (.plain (OpenSpec.ofChange greyFieldsSpec)) greyFieldsCard

/-- THE SECOND FORM's CARD OF 'flitlaw11.GreyPlays'. -/
def greyPlaysUptoCard : Claim7 := { stood := { row := greyPlaysUptoRow, standIns := [], harness := (true, "af773cf40c907807a841a37ab3e0c7efdad8d7603cb7b8d61f870ea023f36387"), looks := false }, kinds := [], alts := [], laidByText := true, laidKinds := [.data], laidTests := true, laidLooks := .later }
def GreyPlaysUptoCardSaid : Prop := Claim7.holds Tryd.pinned (.plain (OpenSpec.upto greyPlaysSpec)) greyPlaysUptoCard

/-- THE SECOND FORM's CARD OF 'flitlaw11.GreyOnce'. -/
def greyOnceUptoCard : Claim7 := { stood := { row := greyOnceUptoRow, standIns := [], harness := (true, "af773cf40c907807a841a37ab3e0c7efdad8d7603cb7b8d61f870ea023f36387"), looks := false }, kinds := [], alts := [], laidByText := true, laidKinds := [.data], laidTests := true, laidLooks := .later }
def GreyOnceUptoCardSaid : Prop := Claim7.holds Tryd.pinned (.plain (OpenSpec.upto greyOnceSpec)) greyOnceUptoCard

/-- THE SECOND FORM's CARD OF 'flitlaw11.GreyMarks'. -/
def greyMarksUptoCard : Claim7 := { stood := { row := greyMarksUptoRow, standIns := [], harness := (true, "af773cf40c907807a841a37ab3e0c7efdad8d7603cb7b8d61f870ea023f36387"), looks := false }, kinds := [], alts := [], laidByText := true, laidKinds := [.data], laidTests := true, laidLooks := .later }
def GreyMarksUptoCardSaid : Prop := Claim7.holds Tryd.pinned (.plain (OpenSpec.upto greyMarksSpec)) greyMarksUptoCard

/-- THE SECOND FORM's CARD OF 'flitlaw11.GreyOrder'. -/
def greyOrderUptoCard : Claim7 := { stood := { row := greyOrderUptoRow, standIns := [], harness := (true, "af773cf40c907807a841a37ab3e0c7efdad8d7603cb7b8d61f870ea023f36387"), looks := false }, kinds := [], alts := [], laidByText := true, laidKinds := [.data], laidTests := true, laidLooks := .later }
def GreyOrderUptoCardSaid : Prop := Claim7.holds Tryd.pinned (.plain (OpenSpec.upto greyOrderSpec)) greyOrderUptoCard

/-- THE SECOND FORM's CARD OF 'flitlaw11.GreyFields'. -/
def greyFieldsUptoCard : Claim7 := { stood := { row := greyFieldsUptoRow, standIns := [], harness := (true, "af773cf40c907807a841a37ab3e0c7efdad8d7603cb7b8d61f870ea023f36387"), looks := false }, kinds := [], alts := [], laidByText := true, laidKinds := [.data], laidTests := true, laidLooks := .later }
def GreyFieldsUptoCardSaid : Prop := Claim7.holds Tryd.pinned (.plain (OpenSpec.upto greyFieldsSpec)) greyFieldsUptoCard
end Rows
end Go.Proofs.YtkgmfnllhjedpaaDoor
