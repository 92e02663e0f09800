/-
  What the reference's machines come to when they are stepped.
-/
import Derived.Test.YtbojljkdpebheaaDoorLc
namespace Go.Proofs.YtbojljkdpebheaaDoor
set_option linter.unusedVariables false
set_option maxRecDepth 100000
open Go.ChangeShapes Go.WideShapes Go.RowKit
open S.Plain (t0 t1 tw nx)
open H.Plain (hw pL)

def PopS.rcells (x : PopS) (h : Int) : Array Value := #[.int .i64 x.hd, .int .i64 x.pc, .int .u64 x.seen, .int .u64 h, .int .i64 x.at_, .int .u64 x.saw]
def PushS.rcells (x : PushS) : Array Value := #[.int .i64 x.hd, .int .i64 x.fst, .int .i64 x.lst, .int .i64 x.cls, .int .i64 x.pc, .int .u64 x.seen]
section
variable {w : World} {L : Loc} {s : St} {p : Nat}
end
end Go.Proofs.YtbojljkdpebheaaDoor
