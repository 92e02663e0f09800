/-
  The document's examples, as the laws begin with them.
-/
import Derived.Test.YtmidhhigopjkhaaOwn
namespace Go.Proofs.Ytmidhhigopjkhaa
set_option linter.unusedVariables false
open Go.ChangeShapes Go.WideShapes Go.RowKit

set_option maxHeartbeats 800000 in
set_option maxRecDepth 100000 in
theorem cShown (w : World) : Calls Try.prog 8 #[] w fun e w' => e = .returned (.bool true) ∧ Below w.heap.size w w' := by
  go_enter Try.func8, Try.ntmps8
  go_wp2_with (first
    | (go_at_call 9; refine (oNew w 4 (by decide) (by decide) (Below.refl w.heap.size w)).mono ?_; rintro e w1 ⟨b, rfl, h1⟩)
    | (go_at_call 16; refine (oCAS (by assumption) (by decide) _ _ _).mono ?_; rintro e w2 ⟨rfl, h2, _⟩)
    | (go_at_call 18; refine (oCAS2 (by assumption) (by decide) _ _ _ _ _).mono ?_; rintro e w2 ⟨rfl, h2, _⟩)
    | (go_at_call 12; refine (oLoad (by assumption) (by decide) _).mono ?_; rintro e w2 ⟨rfl, h2, _⟩)
    | (go_at_call 25; refine (oTraps (by assumption)).mono ?_; rintro e w2 ⟨rfl, hw⟩; rw [hw])
    | (go_at_call 24; refine (oCount (by assumption)).mono ?_; rintro e w2 ⟨rfl, hw⟩; rw [hw]))
  all_goals go_ret
  all_goals exact ⟨rfl, h2.bel⟩
end Go.Proofs.Ytmidhhigopjkhaa
