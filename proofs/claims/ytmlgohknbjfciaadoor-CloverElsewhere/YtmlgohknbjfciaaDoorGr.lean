/-
  What the reference's machines of layer 11 come to when they are stepped.
-/
import Derived.Test.YtmlgohknbjfciaaDoorGc
namespace Go.Proofs.YtmlgohknbjfciaaDoor
set_option linter.unusedVariables false
set_option maxRecDepth 100000
open Go.ChangeShapes Go.WideShapes Go.RowKit
open S.Plain (t0 t1 tw nx)
open H.Plain (hw pS pC pN pM pG pT pL)

section
variable {w : World} {L : Loc} {s : St} {p : Nat}
end
end Go.Proofs.YtmlgohknbjfciaaDoor

