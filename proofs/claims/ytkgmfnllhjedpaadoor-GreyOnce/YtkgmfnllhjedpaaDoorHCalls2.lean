/-
  What Moved, the law's own test of a header, and the document's examples come to when they are called.
-/
import Derived.Test.YtkgmfnllhjedpaaDoorHCalls
namespace Go.Proofs.YtkgmfnllhjedpaaDoor.H
open Go.ChangeShapes Go.WideShapes Go.ChangeAt Go.RowKit
open Plain

/-- nothing that was there has turned, over two steps -/
theorem on2 {w u v : World} (h : Below w.heap.size w u) (hb : Below u.heap.size u v) : Below w.heap.size w v := h.trans (hb.mono h.size)

end Go.Proofs.YtkgmfnllhjedpaaDoor.H
