/-
  DERIVED. GIVEN WITH THE SEED: THE CARDS: each row of YtikedddeafjnnaaDoorRows.lean that lists a variable, with what it lists TIED to the program's text (the seventh form; the later family's looks); each row that meets fmt, with fmt's text TOLD by the authors' own Lean function (tested against real Go, not proved from fmt's source: count such statements apart). THE CARD IS WHAT COUNTS. Prove the row's statement (the work); the ties are given (YtikedddeafjnnaaDoorTie.lean); close each card by the builder's one call (the guide's Derived/Test/ToyasCard.lean, 'card_holds'). Laid BY PROGRAM, IN A SANDBOX (cutbox-door.mjs). By AI agents, Wed Nov 11 2026. No macro, syntax, notation, axiom, sorry.
-/
import Derived.Test.YtikedddeafjnnaaDoorRows
import GoSem.ClaimSeven
namespace Go.Proofs.YtikedddeafjnnaaDoor
namespace Rows

/-- THE TIED CARD OF 'flitlaw02.HeadPacks'. -/
def headPacksCard : Claim7 := { stood := { row := headPacksRow, standIns := [], harness := (true, "634e6d24e604bb09cf733b2b93827df2965d1e617db996b6e6bb85ac9c8574f5"), looks := false }, kinds := [], alts := [], laidByText := true, laidKinds := [.data], laidTests := true, laidLooks := .later }
def HeadPacksCardSaid : Prop := Claim7.holds Tryd.pinned (.plain (OpenSpec.ofChange headPacksSpec)) headPacksCard

/-- THE TIED CARD OF 'flitlaw02.HeadReads'. -/
def headReadsCard : Claim7 := { stood := { row := headReadsRow, standIns := [], harness := (true, "634e6d24e604bb09cf733b2b93827df2965d1e617db996b6e6bb85ac9c8574f5"), looks := false }, kinds := [], alts := [], laidByText := true, laidKinds := [.data], laidTests := true, laidLooks := .later }
def HeadReadsCardSaid : Prop := Claim7.holds Tryd.pinned (.plain (OpenSpec.ofChange headReadsSpec)) headReadsCard

/-- THE TIED CARD OF 'flitlaw02.HeadBack'. -/
def headBackCard : Claim7 := { stood := { row := headBackRow, standIns := [], harness := (true, "634e6d24e604bb09cf733b2b93827df2965d1e617db996b6e6bb85ac9c8574f5"), looks := false }, kinds := [], alts := [], laidByText := true, laidKinds := [.data], laidTests := true, laidLooks := .later }
def HeadBackCardSaid : Prop := Claim7.holds Tryd.pinned (.plain (OpenSpec.ofChange headBackSpec)) headBackCard

/-- THE TIED CARD OF 'flitlaw02.HeadApart'. -/
def headApartCard : Claim7 := { stood := { row := headApartRow, standIns := [], harness := (true, "634e6d24e604bb09cf733b2b93827df2965d1e617db996b6e6bb85ac9c8574f5"), looks := false }, kinds := [], alts := [], laidByText := true, laidKinds := [.data], laidTests := true, laidLooks := .later }
def HeadApartCardSaid : Prop := Claim7.holds Tryd.pinned (.plain (OpenSpec.ofChange headApartSpec)) headApartCard

/-- THE TIED CARD OF 'flitlaw02.HeadLow'. -/
def headLowCard : Claim7 := { stood := { row := headLowRow, standIns := [], harness := (true, "634e6d24e604bb09cf733b2b93827df2965d1e617db996b6e6bb85ac9c8574f5"), looks := false }, kinds := [], alts := [], laidByText := true, laidKinds := [.data], laidTests := true, laidLooks := .later }
def HeadLowCardSaid : Prop := Claim7.holds Tryd.pinned (.plain (OpenSpec.ofChange headLowSpec)) headLowCard

/-- THE TIED CARD OF 'flitlaw02.HeadMoves'. -/
def headMovesCard : Claim7 := { stood := { row := headMovesRow, standIns := [], harness := (true, "634e6d24e604bb09cf733b2b93827df2965d1e617db996b6e6bb85ac9c8574f5"), looks := false }, kinds := [], alts := [], laidByText := true, laidKinds := [.data], laidTests := true, laidLooks := .later }
def HeadMovesCardSaid : Prop := Claim7.holds Tryd.pinned (.plain (OpenSpec.ofChange headMovesSpec)) headMovesCard

/-- THE SECOND FORM's CARD OF 'flitlaw02.HeadPacks'. -/
def headPacksUptoCard : Claim7 := { stood := { row := headPacksUptoRow, standIns := [], harness := (true, "634e6d24e604bb09cf733b2b93827df2965d1e617db996b6e6bb85ac9c8574f5"), looks := false }, kinds := [], alts := [], laidByText := true, laidKinds := [.data], laidTests := true, laidLooks := .later }
def HeadPacksUptoCardSaid : Prop := Claim7.holds Tryd.pinned (.plain (OpenSpec.upto headPacksSpec)) headPacksUptoCard

/-- THE SECOND FORM's CARD OF 'flitlaw02.HeadReads'. -/
def headReadsUptoCard : Claim7 := { stood := { row := headReadsUptoRow, standIns := [], harness := (true, "634e6d24e604bb09cf733b2b93827df2965d1e617db996b6e6bb85ac9c8574f5"), looks := false }, kinds := [], alts := [], laidByText := true, laidKinds := [.data], laidTests := true, laidLooks := .later }
def HeadReadsUptoCardSaid : Prop := Claim7.holds Tryd.pinned (.plain (OpenSpec.upto headReadsSpec)) headReadsUptoCard

/-- THE SECOND FORM's CARD OF 'flitlaw02.HeadBack'. -/
def headBackUptoCard : Claim7 := { stood := { row := headBackUptoRow, standIns := [], harness := (true, "634e6d24e604bb09cf733b2b93827df2965d1e617db996b6e6bb85ac9c8574f5"), looks := false }, kinds := [], alts := [], laidByText := true, laidKinds := [.data], laidTests := true, laidLooks := .later }
def HeadBackUptoCardSaid : Prop := Claim7.holds Tryd.pinned (.plain (OpenSpec.upto headBackSpec)) headBackUptoCard

/-- THE SECOND FORM's CARD OF 'flitlaw02.HeadApart'. -/
def headApartUptoCard : Claim7 := { stood := { row := headApartUptoRow, standIns := [], harness := (true, "634e6d24e604bb09cf733b2b93827df2965d1e617db996b6e6bb85ac9c8574f5"), looks := false }, kinds := [], alts := [], laidByText := true, laidKinds := [.data], laidTests := true, laidLooks := .later }
def HeadApartUptoCardSaid : Prop := Claim7.holds Tryd.pinned (.plain (OpenSpec.upto headApartSpec)) headApartUptoCard

/-- THE SECOND FORM's CARD OF 'flitlaw02.HeadLow'. -/
def headLowUptoCard : Claim7 := { stood := { row := headLowUptoRow, standIns := [], harness := (true, "634e6d24e604bb09cf733b2b93827df2965d1e617db996b6e6bb85ac9c8574f5"), looks := false }, kinds := [], alts := [], laidByText := true, laidKinds := [.data], laidTests := true, laidLooks := .later }
def HeadLowUptoCardSaid : Prop := Claim7.holds Tryd.pinned (.plain (OpenSpec.upto headLowSpec)) headLowUptoCard

/-- THE SECOND FORM's CARD OF 'flitlaw02.HeadMoves'. -/
def headMovesUptoCard : Claim7 := { stood := { row := headMovesUptoRow, standIns := [], harness := (true, "634e6d24e604bb09cf733b2b93827df2965d1e617db996b6e6bb85ac9c8574f5"), looks := false }, kinds := [], alts := [], laidByText := true, laidKinds := [.data], laidTests := true, laidLooks := .later }
def HeadMovesUptoCardSaid : Prop := Claim7.holds Tryd.pinned (.plain (OpenSpec.upto headMovesSpec)) headMovesUptoCard
end Rows
end Go.Proofs.YtikedddeafjnnaaDoor
