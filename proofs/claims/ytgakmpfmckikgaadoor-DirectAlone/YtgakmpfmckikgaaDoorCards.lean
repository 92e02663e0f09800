/-
  DERIVED. GIVEN WITH THE SEED: THE CARDS: each row of YtgakmpfmckikgaaDoorRows.lean that lists a variable, with what it lists TIED to the program's text (the seventh form; the later family's looks); each row that meets fmt, with fmt's text TOLD by the authors' own Lean function (tested against real Go, not proved from fmt's source: count such statements apart). THE CARD IS WHAT COUNTS. Prove the row's statement (the work); the ties are given (YtgakmpfmckikgaaDoorTie.lean); close each card by the builder's one call (the guide's Derived/Test/ToyasCard.lean, 'card_holds'). Laid BY PROGRAM, IN A SANDBOX (cutbox-door.mjs). By AI agents, Wed Nov 11 2026. No macro, syntax, notation, axiom, sorry.
-/
import Derived.Test.YtgakmpfmckikgaaDoorRows
import GoSem.ClaimSeven
namespace Go.Proofs.YtgakmpfmckikgaaDoor
namespace Rows

/-- THE TIED CARD OF 'flitlaw12.DirectAlone'. -/
def directAloneCard : Claim7 := { stood := { row := directAloneRow, standIns := [], harness := (true, "9e621393564ff77f0ef5ac7f28e3cbcf52c47f272f7c4f55a1d2f613914c8091"), looks := false }, kinds := [], alts := [], laidByText := true, laidKinds := [.data], laidTests := true, laidLooks := .later }
def DirectAloneCardSaid : Prop := Claim7.holds Tryd.pinned (.plain (OpenSpec.ofChange directAloneSpec)) directAloneCard

/-- THE TIED CARD OF 'flitlaw12.DirectSwaps'. -/
def directSwapsCard : Claim7 := { stood := { row := directSwapsRow, standIns := [], harness := (true, "9e621393564ff77f0ef5ac7f28e3cbcf52c47f272f7c4f55a1d2f613914c8091"), looks := false }, kinds := [], alts := [], laidByText := true, laidKinds := [.data], laidTests := true, laidLooks := .later }
def DirectSwapsCardSaid : Prop := Claim7.holds Tryd.pinned (.plain (OpenSpec.ofChange directSwapsSpec)) directSwapsCard

/-- THE TIED CARD OF 'flitlaw12.DirectFixes'. -/
def directFixesCard : Claim7 := { stood := { row := directFixesRow, standIns := [], harness := (true, "9e621393564ff77f0ef5ac7f28e3cbcf52c47f272f7c4f55a1d2f613914c8091"), looks := false }, kinds := [], alts := [], laidByText := true, laidKinds := [.data], laidTests := true, laidLooks := .later }
def DirectFixesCardSaid : Prop := Claim7.holds Tryd.pinned (.plain (OpenSpec.ofChange directFixesSpec)) directFixesCard

/-- THE TIED CARD OF 'flitlaw12.DirectCanon'. -/
def directCanonCard : Claim7 := { stood := { row := directCanonRow, standIns := [], harness := (true, "9e621393564ff77f0ef5ac7f28e3cbcf52c47f272f7c4f55a1d2f613914c8091"), looks := false }, kinds := [], alts := [], laidByText := true, laidKinds := [.data], laidTests := true, laidLooks := .later }
def DirectCanonCardSaid : Prop := Claim7.holds Tryd.pinned (.plain (OpenSpec.ofChange directCanonSpec)) directCanonCard

/-- THE TIED CARD OF 'flitlaw12.DirectSame'. -/
def directSameCard : Claim7 := { stood := { row := directSameRow, standIns := [], harness := (true, "9e621393564ff77f0ef5ac7f28e3cbcf52c47f272f7c4f55a1d2f613914c8091"), looks := false }, kinds := [], alts := [], laidByText := true, laidKinds := [.data], laidTests := true, laidLooks := .later }
def DirectSameCardSaid : Prop := Claim7.holds Tryd.pinned (.plain (OpenSpec.ofChange directSameSpec)) directSameCard

/-- THE SECOND FORM's CARD OF 'flitlaw12.DirectAlone'. -/
def directAloneUptoCard : Claim7 := { stood := { row := directAloneUptoRow, standIns := [], harness := (true, "9e621393564ff77f0ef5ac7f28e3cbcf52c47f272f7c4f55a1d2f613914c8091"), looks := false }, kinds := [], alts := [], laidByText := true, laidKinds := [.data], laidTests := true, laidLooks := .later }
def DirectAloneUptoCardSaid : Prop := Claim7.holds Tryd.pinned (.plain (OpenSpec.upto directAloneSpec)) directAloneUptoCard

/-- THE SECOND FORM's CARD OF 'flitlaw12.DirectSwaps'. -/
def directSwapsUptoCard : Claim7 := { stood := { row := directSwapsUptoRow, standIns := [], harness := (true, "9e621393564ff77f0ef5ac7f28e3cbcf52c47f272f7c4f55a1d2f613914c8091"), looks := false }, kinds := [], alts := [], laidByText := true, laidKinds := [.data], laidTests := true, laidLooks := .later }
def DirectSwapsUptoCardSaid : Prop := Claim7.holds Tryd.pinned (.plain (OpenSpec.upto directSwapsSpec)) directSwapsUptoCard

/-- THE SECOND FORM's CARD OF 'flitlaw12.DirectFixes'. -/
def directFixesUptoCard : Claim7 := { stood := { row := directFixesUptoRow, standIns := [], harness := (true, "9e621393564ff77f0ef5ac7f28e3cbcf52c47f272f7c4f55a1d2f613914c8091"), looks := false }, kinds := [], alts := [], laidByText := true, laidKinds := [.data], laidTests := true, laidLooks := .later }
def DirectFixesUptoCardSaid : Prop := Claim7.holds Tryd.pinned (.plain (OpenSpec.upto directFixesSpec)) directFixesUptoCard

/-- THE SECOND FORM's CARD OF 'flitlaw12.DirectCanon'. -/
def directCanonUptoCard : Claim7 := { stood := { row := directCanonUptoRow, standIns := [], harness := (true, "9e621393564ff77f0ef5ac7f28e3cbcf52c47f272f7c4f55a1d2f613914c8091"), looks := false }, kinds := [], alts := [], laidByText := true, laidKinds := [.data], laidTests := true, laidLooks := .later }
def DirectCanonUptoCardSaid : Prop := Claim7.holds Tryd.pinned (.plain (OpenSpec.upto directCanonSpec)) directCanonUptoCard

/-- THE SECOND FORM's CARD OF 'flitlaw12.DirectSame'. -/
def directSameUptoCard : Claim7 := { stood := { row := directSameUptoRow, standIns := [], harness := (true, "9e621393564ff77f0ef5ac7f28e3cbcf52c47f272f7c4f55a1d2f613914c8091"), looks := false }, kinds := [], alts := [], laidByText := true, laidKinds := [.data], laidTests := true, laidLooks := .later }
def DirectSameUptoCardSaid : Prop := Claim7.holds Tryd.pinned (.plain (OpenSpec.upto directSameSpec)) directSameUptoCard
end Rows
end Go.Proofs.YtgakmpfmckikgaaDoor
