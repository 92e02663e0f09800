/-
  DERIVED. GIVEN WITH THE SEED: THE CARDS: each row of YtikedddeafjnnabDoorRows.lean that lists a variable, with what it lists TIED to the program's text (the seventh form; the later family's looks); each row that meets fmt, with fmt's text TOLD by the authors' own Lean function (tested against real Go, not proved from fmt's source: count such statements apart). THE CARD IS WHAT COUNTS. Prove the row's statement (the work); the ties are given (YtikedddeafjnnabDoorTie.lean); close each card by the builder's one call (the guide's Derived/Test/ToyasCard.lean, 'card_holds'). Laid BY PROGRAM, IN A SANDBOX (cutbox-door.mjs). By AI agents, Wed Nov 11 2026. No macro, syntax, notation, axiom, sorry.
-/
import Derived.Test.YtikedddeafjnnabDoorRows
import GoSem.ClaimSeven
namespace Go.Proofs.YtikedddeafjnnabDoor
namespace Rows

/-- THE TIED CARD OF 'flitlaw02.HeadTags'. -/
def headTagsCard : Claim7 := { stood := { row := headTagsRow, standIns := [], harness := (true, "1896e487157ba5abd0dda4ed7f871d8945c812197379fb8fde43126b2f5c6a3f"), looks := false }, kinds := [], alts := [], laidByText := true, laidKinds := [.data], laidTests := true, laidLooks := .later }
def HeadTagsCardSaid : Prop := Claim7.holds Tryd.pinned (.plain (OpenSpec.ofChange headTagsSpec)) headTagsCard

/-- THE TIED CARD OF 'flitlaw02.HeadRanges'. -/
def headRangesCard : Claim7 := { stood := { row := headRangesRow, standIns := [], harness := (true, "1896e487157ba5abd0dda4ed7f871d8945c812197379fb8fde43126b2f5c6a3f"), looks := false }, kinds := [], alts := [], laidByText := true, laidKinds := [.data], laidTests := true, laidLooks := .later }
def HeadRangesCardSaid : Prop := Claim7.holds Tryd.pinned (.plain (OpenSpec.ofChange headRangesSpec)) headRangesCard

/-- THE SECOND FORM's CARD OF 'flitlaw02.HeadTags'. -/
def headTagsUptoCard : Claim7 := { stood := { row := headTagsUptoRow, standIns := [], harness := (true, "1896e487157ba5abd0dda4ed7f871d8945c812197379fb8fde43126b2f5c6a3f"), looks := false }, kinds := [], alts := [], laidByText := true, laidKinds := [.data], laidTests := true, laidLooks := .later }
def HeadTagsUptoCardSaid : Prop := Claim7.holds Tryd.pinned (.plain (OpenSpec.upto headTagsSpec)) headTagsUptoCard

/-- THE SECOND FORM's CARD OF 'flitlaw02.HeadRanges'. -/
def headRangesUptoCard : Claim7 := { stood := { row := headRangesUptoRow, standIns := [], harness := (true, "1896e487157ba5abd0dda4ed7f871d8945c812197379fb8fde43126b2f5c6a3f"), looks := false }, kinds := [], alts := [], laidByText := true, laidKinds := [.data], laidTests := true, laidLooks := .later }
def HeadRangesUptoCardSaid : Prop := Claim7.holds Tryd.pinned (.plain (OpenSpec.upto headRangesSpec)) headRangesUptoCard
end Rows
end Go.Proofs.YtikedddeafjnnabDoor
