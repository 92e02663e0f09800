/-
  What reading a block's word comes to: the one function that the seat of the last law does not have.
-/
import Derived.Test.YtoablodmodnamaaDoorSCalls
namespace Go.Proofs.YtoablodmodnamaaDoor.S
open Go.ChangeShapes Go.WideShapes Go.ChangeAt Go.RowKit
open Plain

end Go.Proofs.YtoablodmodnamaaDoor.S
