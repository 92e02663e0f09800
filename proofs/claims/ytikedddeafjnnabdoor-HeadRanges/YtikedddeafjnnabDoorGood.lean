/-
  What the law's own test of a header comes to: whether each number is one that its bits hold.
-/
import Derived.Test.YtikedddeafjnnabDoorCalls
namespace Go.Proofs.YtikedddeafjnnabDoor
open Go.ChangeShapes Go.WideShapes Go.ChangeAt Go.RowKit
open Plain

/-- whether each number is one that its bits hold -/
def gd (s c n m g t l : Int) : Bool := decide (0 ≤ s ∧ s < 4 ∧ 0 ≤ c ∧ c < 4 ∧ 0 ≤ n ∧ n < 8 ∧ 0 ≤ m ∧ m < 2 ∧ 0 ≤ g ∧ g < 2 ∧ 0 ≤ t ∧ t < 8 ∧ 0 ≤ l ∧ l < 4096)
theorem gd_of {s c n m g t l : Int} (h : gd s c n m g t l = true) : 0 ≤ s ∧ s < 4 ∧ 0 ≤ c ∧ c < 4 ∧ 0 ≤ n ∧ n < 8 ∧ 0 ≤ m ∧ m < 2 ∧ 0 ≤ g ∧ g < 2 ∧ 0 ≤ t ∧ t < 8 ∧ 0 ≤ l ∧ l < 4096 := of_decide_eq_true h

set_option maxHeartbeats 2000000 in
theorem cGood (s c n m g t l : Int) (w : World) :
    Calls Tryd.prog 8 #[.agg #[.int .i64 s, .int .i64 c, .int .i64 n, .int .i64 m, .int .i64 g, .int .i64 t, .int .i64 l]] w fun e w' => e = .returned (.bool (gd s c n m g t l)) ∧ w' = w.alloc (.cells #[.int .i64 s, .int .i64 c, .int .i64 n, .int .i64 m, .int .i64 g, .int .i64 t, .int .i64 l] 23) := by
  go_enter Tryd.func8, Tryd.ntmps8
  go_wp2
  all_goals
    go_ret
    refine ⟨congrArg (fun b => Ending.returned (Value.bool b)) (?_ : _ = gd s c n m g t l), rfl⟩
    unfold gd
    first
      | exact (decide_eq_false (by omega)).symm
      | exact decide_eq_decide.2 (by omega)
end Go.Proofs.YtikedddeafjnnabDoor
