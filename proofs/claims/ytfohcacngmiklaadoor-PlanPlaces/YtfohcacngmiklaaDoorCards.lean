/-
  DERIVED. GIVEN WITH THE SEED: THE CARDS: each row of YtfohcacngmiklaaDoorRows.lean that lists a variable, with what it lists TIED to the program's text (the seventh form; the later family's looks); each row that meets fmt, with fmt's text TOLD by the authors' own Lean function (tested against real Go, not proved from fmt's source: count such statements apart). THE CARD IS WHAT COUNTS. Prove the row's statement (the work); the ties are given (YtfohcacngmiklaaDoorTie.lean); close each card by the builder's one call (the guide's Derived/Test/ToyasCard.lean, 'card_holds'). Laid BY PROGRAM, IN A SANDBOX (cutbox-door.mjs). By AI agents, Wed Nov 11 2026. No macro, syntax, notation, axiom, sorry.
-/
import Derived.Test.YtfohcacngmiklaaDoorRows
import GoSem.ClaimSeven
namespace Go.Proofs.YtfohcacngmiklaaDoor
namespace Rows

/-- THE TIED CARD OF 'flitlaw05.PlanMakes'. -/
def planMakesCard : Claim7 := { stood := { row := planMakesRow, standIns := [], harness := (true, "e636194fa68e7ee14209a870f154954ee9aed69ef237fc4b405c5efbe23a8c52"), looks := false }, kinds := [], alts := [], laidByText := true, laidKinds := [.data], laidTests := true, laidLooks := .later }
def PlanMakesCardSaid : Prop := Claim7.holds Tryd.pinned (.plain (OpenSpec.ofChange planMakesSpec)) planMakesCard

/-- THE TIED CARD OF 'flitlaw05.PlanClasses'. -/
def planClassesCard : Claim7 := { stood := { row := planClassesRow, standIns := [], harness := (true, "e636194fa68e7ee14209a870f154954ee9aed69ef237fc4b405c5efbe23a8c52"), looks := false }, kinds := [], alts := [], laidByText := true, laidKinds := [.data], laidTests := true, laidLooks := .later }
def PlanClassesCardSaid : Prop := Claim7.holds Tryd.pinned (.plain (OpenSpec.ofChange planClassesSpec)) planClassesCard

/-- THE TIED CARD OF 'flitlaw05.PlanPlaces'. -/
def planPlacesCard : Claim7 := { stood := { row := planPlacesRow, standIns := [], harness := (true, "e636194fa68e7ee14209a870f154954ee9aed69ef237fc4b405c5efbe23a8c52"), looks := false }, kinds := [], alts := [], laidByText := true, laidKinds := [.data], laidTests := true, laidLooks := .later }
def PlanPlacesCardSaid : Prop := Claim7.holds Tryd.pinned (.plain (OpenSpec.ofChange planPlacesSpec)) planPlacesCard

/-- THE TIED CARD OF 'flitlaw05.PlanApart'. -/
def planApartCard : Claim7 := { stood := { row := planApartRow, standIns := [], harness := (true, "e636194fa68e7ee14209a870f154954ee9aed69ef237fc4b405c5efbe23a8c52"), looks := false }, kinds := [], alts := [], laidByText := true, laidKinds := [.data], laidTests := true, laidLooks := .later }
def PlanApartCardSaid : Prop := Claim7.holds Tryd.pinned (.plain (OpenSpec.ofChange planApartSpec)) planApartCard

/-- THE TIED CARD OF 'flitlaw05.PlanSizes'. -/
def planSizesCard : Claim7 := { stood := { row := planSizesRow, standIns := [], harness := (true, "e636194fa68e7ee14209a870f154954ee9aed69ef237fc4b405c5efbe23a8c52"), looks := false }, kinds := [], alts := [], laidByText := true, laidKinds := [.data], laidTests := true, laidLooks := .later }
def PlanSizesCardSaid : Prop := Claim7.holds Tryd.pinned (.plain (OpenSpec.ofChange planSizesSpec)) planSizesCard

/-- THE TIED CARD OF 'flitlaw05.PlanBlocks'. -/
def planBlocksCard : Claim7 := { stood := { row := planBlocksRow, standIns := [], harness := (true, "e636194fa68e7ee14209a870f154954ee9aed69ef237fc4b405c5efbe23a8c52"), looks := false }, kinds := [], alts := [], laidByText := true, laidKinds := [.data], laidTests := true, laidLooks := .later }
def PlanBlocksCardSaid : Prop := Claim7.holds Tryd.pinned (.plain (OpenSpec.ofChange planBlocksSpec)) planBlocksCard

/-- THE SECOND FORM's CARD OF 'flitlaw05.PlanMakes'. -/
def planMakesUptoCard : Claim7 := { stood := { row := planMakesUptoRow, standIns := [], harness := (true, "e636194fa68e7ee14209a870f154954ee9aed69ef237fc4b405c5efbe23a8c52"), looks := false }, kinds := [], alts := [], laidByText := true, laidKinds := [.data], laidTests := true, laidLooks := .later }
def PlanMakesUptoCardSaid : Prop := Claim7.holds Tryd.pinned (.plain (OpenSpec.upto planMakesSpec)) planMakesUptoCard

/-- THE SECOND FORM's CARD OF 'flitlaw05.PlanClasses'. -/
def planClassesUptoCard : Claim7 := { stood := { row := planClassesUptoRow, standIns := [], harness := (true, "e636194fa68e7ee14209a870f154954ee9aed69ef237fc4b405c5efbe23a8c52"), looks := false }, kinds := [], alts := [], laidByText := true, laidKinds := [.data], laidTests := true, laidLooks := .later }
def PlanClassesUptoCardSaid : Prop := Claim7.holds Tryd.pinned (.plain (OpenSpec.upto planClassesSpec)) planClassesUptoCard

/-- THE SECOND FORM's CARD OF 'flitlaw05.PlanPlaces'. -/
def planPlacesUptoCard : Claim7 := { stood := { row := planPlacesUptoRow, standIns := [], harness := (true, "e636194fa68e7ee14209a870f154954ee9aed69ef237fc4b405c5efbe23a8c52"), looks := false }, kinds := [], alts := [], laidByText := true, laidKinds := [.data], laidTests := true, laidLooks := .later }
def PlanPlacesUptoCardSaid : Prop := Claim7.holds Tryd.pinned (.plain (OpenSpec.upto planPlacesSpec)) planPlacesUptoCard

/-- THE SECOND FORM's CARD OF 'flitlaw05.PlanApart'. -/
def planApartUptoCard : Claim7 := { stood := { row := planApartUptoRow, standIns := [], harness := (true, "e636194fa68e7ee14209a870f154954ee9aed69ef237fc4b405c5efbe23a8c52"), looks := false }, kinds := [], alts := [], laidByText := true, laidKinds := [.data], laidTests := true, laidLooks := .later }
def PlanApartUptoCardSaid : Prop := Claim7.holds Tryd.pinned (.plain (OpenSpec.upto planApartSpec)) planApartUptoCard

/-- THE SECOND FORM's CARD OF 'flitlaw05.PlanSizes'. -/
def planSizesUptoCard : Claim7 := { stood := { row := planSizesUptoRow, standIns := [], harness := (true, "e636194fa68e7ee14209a870f154954ee9aed69ef237fc4b405c5efbe23a8c52"), looks := false }, kinds := [], alts := [], laidByText := true, laidKinds := [.data], laidTests := true, laidLooks := .later }
def PlanSizesUptoCardSaid : Prop := Claim7.holds Tryd.pinned (.plain (OpenSpec.upto planSizesSpec)) planSizesUptoCard

/-- THE SECOND FORM's CARD OF 'flitlaw05.PlanBlocks'. -/
def planBlocksUptoCard : Claim7 := { stood := { row := planBlocksUptoRow, standIns := [], harness := (true, "e636194fa68e7ee14209a870f154954ee9aed69ef237fc4b405c5efbe23a8c52"), looks := false }, kinds := [], alts := [], laidByText := true, laidKinds := [.data], laidTests := true, laidLooks := .later }
def PlanBlocksUptoCardSaid : Prop := Claim7.holds Tryd.pinned (.plain (OpenSpec.upto planBlocksSpec)) planBlocksUptoCard
end Rows
end Go.Proofs.YtfohcacngmiklaaDoor
