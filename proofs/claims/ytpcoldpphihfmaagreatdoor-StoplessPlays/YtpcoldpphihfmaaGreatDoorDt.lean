import Derived.Test.YtpcoldpphihfmaaGreatDoorD2
import Derived.Test.YtpcoldpphihfmaaGreatDoorDs3
namespace Go.Proofs.YtpcoldpphihfmaaGreatDoor
set_option linter.unusedVariables false
set_option maxRecDepth 100000
open Go.ChangeShapes Go.WideShapes Go.RowKit
open H.Plain (hw pS pC pN pM pG pT pL mv)
section
variable {w0 w w' : World} {b y p q : Nat} {s1 s2 : St} {N : Nat} {T T' : TypeId} {cs : Array Value} {F : List Nat} {x : Sx}
theorem Two.seen (h : Two w0 w b y s1 s2 N) : ∃ g cp, Seen2 w y g cp s2 := by
 obtain ⟨⟨L, M, e1, rfl, hm, hr, hl, hl2⟩, _⟩ := h
 exact ⟨M.g, M.cp, hr.cell0, hr.cell2, fun j hj => hr.wcell j hj, hr.lt _ (by simp [Loc.fp]), hr.lt _ (by simp [Loc.fp])⟩
end
end Go.Proofs.YtpcoldpphihfmaaGreatDoor
