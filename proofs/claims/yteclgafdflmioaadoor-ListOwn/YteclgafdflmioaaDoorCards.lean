/-
  DERIVED. GIVEN WITH THE SEED: THE CARDS: each row of YteclgafdflmioaaDoorRows.lean that lists a variable, with what it lists TIED to the program's text (the seventh form; the later family's looks); each row that meets fmt, with fmt's text TOLD by the authors' own Lean function (tested against real Go, not proved from fmt's source: count such statements apart). THE CARD IS WHAT COUNTS. Prove the row's statement (the work); the ties are given (YteclgafdflmioaaDoorTie.lean); close each card by the builder's one call (the guide's Derived/Test/ToyasCard.lean, 'card_holds'). Laid BY PROGRAM, IN A SANDBOX (cutbox-door.mjs). By AI agents, Wed Nov 11 2026. No macro, syntax, notation, axiom, sorry.
-/
import Derived.Test.YteclgafdflmioaaDoorRows
import GoSem.ClaimSeven
namespace Go.Proofs.YteclgafdflmioaaDoor
namespace Rows

/-- THE TIED CARD OF 'flitlaw08.ListPlays'. -/
def listPlaysCard : Claim7 := { stood := { row := listPlaysRow, standIns := [], harness := (true, "244d20f073f4d0a947cf577b794877ce8432850d1e08ddba4ef36556c99bf10b"), looks := false }, kinds := [], alts := [], laidByText := true, laidKinds := [.data], laidTests := true, laidLooks := .later }
def ListPlaysCardSaid : Prop := Claim7.holds Tryd.pinned (.plain (OpenSpec.ofChange listPlaysSpec)) listPlaysCard

/-- THE TIED CARD OF 'flitlaw08.ListOwn'. -/
def listOwnCard : Claim7 := { stood := { row := listOwnRow, standIns := [], harness := (true, "244d20f073f4d0a947cf577b794877ce8432850d1e08ddba4ef36556c99bf10b"), looks := false }, kinds := [], alts := [], laidByText := true, laidKinds := [.data], laidTests := true, laidLooks := .later }
def ListOwnCardSaid : Prop := Claim7.holds Tryd.pinned (.plain (OpenSpec.ofChange listOwnSpec)) listOwnCard

/-- THE TIED CARD OF 'flitlaw08.ListOrder'. -/
def listOrderCard : Claim7 := { stood := { row := listOrderRow, standIns := [], harness := (true, "244d20f073f4d0a947cf577b794877ce8432850d1e08ddba4ef36556c99bf10b"), looks := false }, kinds := [], alts := [], laidByText := true, laidKinds := [.data], laidTests := true, laidLooks := .later }
def ListOrderCardSaid : Prop := Claim7.holds Tryd.pinned (.plain (OpenSpec.ofChange listOrderSpec)) listOrderCard

/-- THE TIED CARD OF 'flitlaw08.ListChains'. -/
def listChainsCard : Claim7 := { stood := { row := listChainsRow, standIns := [], harness := (true, "244d20f073f4d0a947cf577b794877ce8432850d1e08ddba4ef36556c99bf10b"), looks := false }, kinds := [], alts := [], laidByText := true, laidKinds := [.data], laidTests := true, laidLooks := .later }
def ListChainsCardSaid : Prop := Claim7.holds Tryd.pinned (.plain (OpenSpec.ofChange listChainsSpec)) listChainsCard

/-- THE SECOND FORM's CARD OF 'flitlaw08.ListPlays'. -/
def listPlaysUptoCard : Claim7 := { stood := { row := listPlaysUptoRow, standIns := [], harness := (true, "244d20f073f4d0a947cf577b794877ce8432850d1e08ddba4ef36556c99bf10b"), looks := false }, kinds := [], alts := [], laidByText := true, laidKinds := [.data], laidTests := true, laidLooks := .later }
def ListPlaysUptoCardSaid : Prop := Claim7.holds Tryd.pinned (.plain (OpenSpec.upto listPlaysSpec)) listPlaysUptoCard

/-- THE SECOND FORM's CARD OF 'flitlaw08.ListOwn'. -/
def listOwnUptoCard : Claim7 := { stood := { row := listOwnUptoRow, standIns := [], harness := (true, "244d20f073f4d0a947cf577b794877ce8432850d1e08ddba4ef36556c99bf10b"), looks := false }, kinds := [], alts := [], laidByText := true, laidKinds := [.data], laidTests := true, laidLooks := .later }
def ListOwnUptoCardSaid : Prop := Claim7.holds Tryd.pinned (.plain (OpenSpec.upto listOwnSpec)) listOwnUptoCard

/-- THE SECOND FORM's CARD OF 'flitlaw08.ListOrder'. -/
def listOrderUptoCard : Claim7 := { stood := { row := listOrderUptoRow, standIns := [], harness := (true, "244d20f073f4d0a947cf577b794877ce8432850d1e08ddba4ef36556c99bf10b"), looks := false }, kinds := [], alts := [], laidByText := true, laidKinds := [.data], laidTests := true, laidLooks := .later }
def ListOrderUptoCardSaid : Prop := Claim7.holds Tryd.pinned (.plain (OpenSpec.upto listOrderSpec)) listOrderUptoCard

/-- THE SECOND FORM's CARD OF 'flitlaw08.ListChains'. -/
def listChainsUptoCard : Claim7 := { stood := { row := listChainsUptoRow, standIns := [], harness := (true, "244d20f073f4d0a947cf577b794877ce8432850d1e08ddba4ef36556c99bf10b"), looks := false }, kinds := [], alts := [], laidByText := true, laidKinds := [.data], laidTests := true, laidLooks := .later }
def ListChainsUptoCardSaid : Prop := Claim7.holds Tryd.pinned (.plain (OpenSpec.upto listChainsSpec)) listChainsUptoCard
end Rows
end Go.Proofs.YteclgafdflmioaaDoor
