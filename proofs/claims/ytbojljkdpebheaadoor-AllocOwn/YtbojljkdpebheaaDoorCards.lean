/-
  DERIVED. GIVEN WITH THE SEED: THE CARDS: each row of YtbojljkdpebheaaDoorRows.lean that lists a variable, with what it lists TIED to the program's text (the seventh form; the later family's looks); each row that meets fmt, with fmt's text TOLD by the authors' own Lean function (tested against real Go, not proved from fmt's source: count such statements apart). THE CARD IS WHAT COUNTS. Prove the row's statement (the work); the ties are given (YtbojljkdpebheaaDoorTie.lean); close each card by the builder's one call (the guide's Derived/Test/ToyasCard.lean, 'card_holds'). Laid BY PROGRAM, IN A SANDBOX (cutbox-door.mjs). By AI agents, Wed Nov 11 2026. No macro, syntax, notation, axiom, sorry.
-/
import Derived.Test.YtbojljkdpebheaaDoorRows
import GoSem.ClaimSeven
namespace Go.Proofs.YtbojljkdpebheaaDoor
namespace Rows

/-- THE TIED CARD OF 'flitlaw10.AllocOwn'. -/
def allocOwnCard : Claim7 := { stood := { row := allocOwnRow, standIns := [], harness := (true, "893104e2ffe111b48ab4a323faaf6cb552db847ff06f8b23c2251c503800b925"), looks := false }, kinds := [], alts := [], laidByText := true, laidKinds := [.data, .data], laidTests := true, laidLooks := .later }
def AllocOwnCardSaid : Prop := Claim7.holds Tryd.pinned (.plain (OpenSpec.ofChange allocOwnSpec)) allocOwnCard

/-- THE TIED CARD OF 'flitlaw10.AllocAll'. -/
def allocAllCard : Claim7 := { stood := { row := allocAllRow, standIns := [], harness := (true, "893104e2ffe111b48ab4a323faaf6cb552db847ff06f8b23c2251c503800b925"), looks := false }, kinds := [], alts := [], laidByText := true, laidKinds := [.data, .data], laidTests := true, laidLooks := .later }
def AllocAllCardSaid : Prop := Claim7.holds Tryd.pinned (.plain (OpenSpec.ofChange allocAllSpec)) allocAllCard

/-- THE TIED CARD OF 'flitlaw10.AllocSteps'. -/
def allocStepsCard : Claim7 := { stood := { row := allocStepsRow, standIns := [], harness := (true, "893104e2ffe111b48ab4a323faaf6cb552db847ff06f8b23c2251c503800b925"), looks := false }, kinds := [], alts := [], laidByText := true, laidKinds := [.data, .data], laidTests := true, laidLooks := .later }
def AllocStepsCardSaid : Prop := Claim7.holds Tryd.pinned (.plain (OpenSpec.ofChange allocStepsSpec)) allocStepsCard

/-- THE TIED CARD OF 'flitlaw10.AllocSets'. -/
def allocSetsCard : Claim7 := { stood := { row := allocSetsRow, standIns := [], harness := (true, "893104e2ffe111b48ab4a323faaf6cb552db847ff06f8b23c2251c503800b925"), looks := false }, kinds := [], alts := [], laidByText := true, laidKinds := [.data, .data], laidTests := true, laidLooks := .later }
def AllocSetsCardSaid : Prop := Claim7.holds Tryd.pinned (.plain (OpenSpec.ofChange allocSetsSpec)) allocSetsCard

/-- THE SECOND FORM's CARD OF 'flitlaw10.AllocOwn'. -/
def allocOwnUptoCard : Claim7 := { stood := { row := allocOwnUptoRow, standIns := [], harness := (true, "893104e2ffe111b48ab4a323faaf6cb552db847ff06f8b23c2251c503800b925"), looks := false }, kinds := [], alts := [], laidByText := true, laidKinds := [.data, .data], laidTests := true, laidLooks := .later }
def AllocOwnUptoCardSaid : Prop := Claim7.holds Tryd.pinned (.plain (OpenSpec.upto allocOwnSpec)) allocOwnUptoCard

/-- THE SECOND FORM's CARD OF 'flitlaw10.AllocAll'. -/
def allocAllUptoCard : Claim7 := { stood := { row := allocAllUptoRow, standIns := [], harness := (true, "893104e2ffe111b48ab4a323faaf6cb552db847ff06f8b23c2251c503800b925"), looks := false }, kinds := [], alts := [], laidByText := true, laidKinds := [.data, .data], laidTests := true, laidLooks := .later }
def AllocAllUptoCardSaid : Prop := Claim7.holds Tryd.pinned (.plain (OpenSpec.upto allocAllSpec)) allocAllUptoCard

/-- THE SECOND FORM's CARD OF 'flitlaw10.AllocSteps'. -/
def allocStepsUptoCard : Claim7 := { stood := { row := allocStepsUptoRow, standIns := [], harness := (true, "893104e2ffe111b48ab4a323faaf6cb552db847ff06f8b23c2251c503800b925"), looks := false }, kinds := [], alts := [], laidByText := true, laidKinds := [.data, .data], laidTests := true, laidLooks := .later }
def AllocStepsUptoCardSaid : Prop := Claim7.holds Tryd.pinned (.plain (OpenSpec.upto allocStepsSpec)) allocStepsUptoCard

/-- THE SECOND FORM's CARD OF 'flitlaw10.AllocSets'. -/
def allocSetsUptoCard : Claim7 := { stood := { row := allocSetsUptoRow, standIns := [], harness := (true, "893104e2ffe111b48ab4a323faaf6cb552db847ff06f8b23c2251c503800b925"), looks := false }, kinds := [], alts := [], laidByText := true, laidKinds := [.data, .data], laidTests := true, laidLooks := .later }
def AllocSetsUptoCardSaid : Prop := Claim7.holds Tryd.pinned (.plain (OpenSpec.upto allocSetsSpec)) allocSetsUptoCard
end Rows
end Go.Proofs.YtbojljkdpebheaaDoor
