/-
  The law on what changes a word, for every list of calls.
-/
import Derived.Test.YtmidhhigopjkhaaChanges
import Derived.Test.YtmidhhigopjkhaaOpenOps
namespace Go.Proofs.Ytmidhhigopjkhaa
set_option linter.unusedVariables false
open Go.ChangeShapes Go.WideShapes Go.RowKit

theorem wChanges0 (ao : Option Addr) (cap : Nat) (w : World) :
    Calls Try.prog 4 #[.slice ao 0 cap] w fun e w' => e = .returned (.bool true) ∧ Below w.heap.size w w' := by
  go_enter Try.func4, Try.ntmps4
  go_wp2_with (first
    | (go_at_call 8; refine (cShown w).mono ?_; rintro e w1 ⟨rfl, hb1⟩)
    | (go_at_call 9; refine (oNew _ 8 (by decide) (by decide) hb1).mono ?_; rintro e w2 ⟨mb, rfl, h2⟩))
  have h3 := h2.alloc (.cells #[.int .u64 0, .int .u64 0, .int .u64 0, .int .u64 0, .int .u64 0, .int .u64 0, .int .u64 0, .int .u64 0] 50)
  have u : (St.new 8).t = 0 := rfl
  refine wp_loop_rounds 1 ?_
  rw [rounds_succ]
  go_wp2_with (go_at_call 25; refine (oTraps h3).mono ?_; rintro e w4 ⟨rfl, hw4⟩; rw [hw4]; clear hw4 w4)
  go_ret
  exact ⟨rfl, h3.bel⟩
theorem wMemChanges (ao : Option Addr) (len cap : Nat) (z : Nat → Op6) (w : World) (hl : Came w ao len z) :
    Calls Try.prog 4 #[.slice ao len cap] w fun e w' => e = .returned (.bool true) ∧ Below w.heap.size w w' := by
  rcases hl with rfl | ⟨b, off, rfl, hl⟩
  · exact wChanges0 ao cap w
  · exact wChanges b off len cap z w hl
end Go.Proofs.Ytmidhhigopjkhaa
