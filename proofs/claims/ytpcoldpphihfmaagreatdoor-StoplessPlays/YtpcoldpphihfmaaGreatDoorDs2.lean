import Derived.Test.YtpcoldpphihfmaaGreatDoorDd2
import Derived.Shelf.Abstract
namespace Go.Proofs.YtpcoldpphihfmaaGreatDoor
set_option linter.unusedVariables false
set_option maxRecDepth 100000
open Go.ChangeShapes Go.WideShapes Go.RowKit
section
variable {w : World} {L : Loc} {s : St} {p : Nat} {T : TypeId}
theorem fneq (f : Nat) (cs : Array Value) (w : World) : (binOp .neq 107 (.func (.func f) #[] cs) .nilFunc).run Tryz.prog w = .ok (.bool true) w := by kernel_rfl
theorem feql (f : Nat) (cs : Array Value) (w : World) : (binOp .eql 107 (.func (.func f) #[] cs) .nilFunc).run Tryz.prog w = .ok (.bool false) w := by kernel_rfl
end
end Go.Proofs.YtpcoldpphihfmaaGreatDoor
