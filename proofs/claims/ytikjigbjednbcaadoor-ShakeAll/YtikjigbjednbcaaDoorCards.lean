/-
  DERIVED. GIVEN WITH THE SEED: THE CARDS: each row of YtikjigbjednbcaaDoorRows.lean that lists a variable, with what it lists TIED to the program's text (the seventh form; the later family's looks); each row that meets fmt, with fmt's text TOLD by the authors' own Lean function (tested against real Go, not proved from fmt's source: count such statements apart). THE CARD IS WHAT COUNTS. Prove the row's statement (the work); the ties are given (YtikjigbjednbcaaDoorTie.lean); close each card by the builder's one call (the guide's Derived/Test/ToyasCard.lean, 'card_holds'). Laid BY PROGRAM, IN A SANDBOX (cutbox-door.mjs). By AI agents, Wed Nov 11 2026. No macro, syntax, notation, axiom, sorry.
-/
import Derived.Test.YtikjigbjednbcaaDoorRows
import GoSem.ClaimSeven
namespace Go.Proofs.YtikjigbjednbcaaDoor
namespace Rows

/-- THE TIED CARD OF 'flitlaw16.ShakePlays'. -/
def shakePlaysCard : Claim7 := { stood := { row := shakePlaysRow, standIns := [], harness := (true, "6188cc933781f5daf2f3bfe694b041b24cdd4ac5d6aa706008426ea72f64c0fd"), looks := false }, kinds := [], alts := [], laidByText := true, laidKinds := [.data], laidTests := true, laidLooks := .later }
def ShakePlaysCardSaid : Prop := Claim7.holds Tryd.pinned (.plain (OpenSpec.ofChange shakePlaysSpec)) shakePlaysCard

/-- THE TIED CARD OF 'flitlaw16.ShakeAll'. -/
def shakeAllCard : Claim7 := { stood := { row := shakeAllRow, standIns := [], harness := (true, "6188cc933781f5daf2f3bfe694b041b24cdd4ac5d6aa706008426ea72f64c0fd"), looks := false }, kinds := [], alts := [], laidByText := true, laidKinds := [.data], laidTests := true, laidLooks := .later }
def ShakeAllCardSaid : Prop := Claim7.holds Tryd.pinned (.plain (OpenSpec.ofChange shakeAllSpec)) shakeAllCard

/-- THE TIED CARD OF 'flitlaw16.ShakeRoots'. -/
def shakeRootsCard : Claim7 := { stood := { row := shakeRootsRow, standIns := [], harness := (true, "6188cc933781f5daf2f3bfe694b041b24cdd4ac5d6aa706008426ea72f64c0fd"), looks := false }, kinds := [], alts := [], laidByText := true, laidKinds := [.data], laidTests := true, laidLooks := .later }
def ShakeRootsCardSaid : Prop := Claim7.holds Tryd.pinned (.plain (OpenSpec.ofChange shakeRootsSpec)) shakeRootsCard

/-- THE TIED CARD OF 'flitlaw16.ShakeStays'. -/
def shakeStaysCard : Claim7 := { stood := { row := shakeStaysRow, standIns := [], harness := (true, "6188cc933781f5daf2f3bfe694b041b24cdd4ac5d6aa706008426ea72f64c0fd"), looks := false }, kinds := [], alts := [], laidByText := true, laidKinds := [.data], laidTests := true, laidLooks := .later }
def ShakeStaysCardSaid : Prop := Claim7.holds Tryd.pinned (.plain (OpenSpec.ofChange shakeStaysSpec)) shakeStaysCard

/-- THE TIED CARD OF 'flitlaw16.ShakeWords'. -/
def shakeWordsCard : Claim7 := { stood := { row := shakeWordsRow, standIns := [], harness := (true, "6188cc933781f5daf2f3bfe694b041b24cdd4ac5d6aa706008426ea72f64c0fd"), looks := false }, kinds := [], alts := [], laidByText := true, laidKinds := [.data], laidTests := true, laidLooks := .later }
def ShakeWordsCardSaid : Prop := Claim7.holds Tryd.pinned (.plain (OpenSpec.ofChange shakeWordsSpec)) shakeWordsCard

/-- THE SECOND FORM's CARD OF 'flitlaw16.ShakePlays'. -/
def shakePlaysUptoCard : Claim7 := { stood := { row := shakePlaysUptoRow, standIns := [], harness := (true, "6188cc933781f5daf2f3bfe694b041b24cdd4ac5d6aa706008426ea72f64c0fd"), looks := false }, kinds := [], alts := [], laidByText := true, laidKinds := [.data], laidTests := true, laidLooks := .later }
def ShakePlaysUptoCardSaid : Prop := Claim7.holds Tryd.pinned (.plain (OpenSpec.upto shakePlaysSpec)) shakePlaysUptoCard

/-- THE SECOND FORM's CARD OF 'flitlaw16.ShakeAll'. -/
def shakeAllUptoCard : Claim7 := { stood := { row := shakeAllUptoRow, standIns := [], harness := (true, "6188cc933781f5daf2f3bfe694b041b24cdd4ac5d6aa706008426ea72f64c0fd"), looks := false }, kinds := [], alts := [], laidByText := true, laidKinds := [.data], laidTests := true, laidLooks := .later }
def ShakeAllUptoCardSaid : Prop := Claim7.holds Tryd.pinned (.plain (OpenSpec.upto shakeAllSpec)) shakeAllUptoCard

/-- THE SECOND FORM's CARD OF 'flitlaw16.ShakeRoots'. -/
def shakeRootsUptoCard : Claim7 := { stood := { row := shakeRootsUptoRow, standIns := [], harness := (true, "6188cc933781f5daf2f3bfe694b041b24cdd4ac5d6aa706008426ea72f64c0fd"), looks := false }, kinds := [], alts := [], laidByText := true, laidKinds := [.data], laidTests := true, laidLooks := .later }
def ShakeRootsUptoCardSaid : Prop := Claim7.holds Tryd.pinned (.plain (OpenSpec.upto shakeRootsSpec)) shakeRootsUptoCard

/-- THE SECOND FORM's CARD OF 'flitlaw16.ShakeStays'. -/
def shakeStaysUptoCard : Claim7 := { stood := { row := shakeStaysUptoRow, standIns := [], harness := (true, "6188cc933781f5daf2f3bfe694b041b24cdd4ac5d6aa706008426ea72f64c0fd"), looks := false }, kinds := [], alts := [], laidByText := true, laidKinds := [.data], laidTests := true, laidLooks := .later }
def ShakeStaysUptoCardSaid : Prop := Claim7.holds Tryd.pinned (.plain (OpenSpec.upto shakeStaysSpec)) shakeStaysUptoCard

/-- THE SECOND FORM's CARD OF 'flitlaw16.ShakeWords'. -/
def shakeWordsUptoCard : Claim7 := { stood := { row := shakeWordsUptoRow, standIns := [], harness := (true, "6188cc933781f5daf2f3bfe694b041b24cdd4ac5d6aa706008426ea72f64c0fd"), looks := false }, kinds := [], alts := [], laidByText := true, laidKinds := [.data], laidTests := true, laidLooks := .later }
def ShakeWordsUptoCardSaid : Prop := Claim7.holds Tryd.pinned (.plain (OpenSpec.upto shakeWordsSpec)) shakeWordsUptoCard
end Rows
end Go.Proofs.YtikjigbjednbcaaDoor
