/-
  The law on counts, for every list of calls.
-/
import Derived.Test.YtmidhhigopjkhaaCounts
import Derived.Test.YtmidhhigopjkhaaOpenOps
namespace Go.Proofs.Ytmidhhigopjkhaa
set_option linter.unusedVariables false
open Go.ChangeShapes Go.WideShapes Go.RowKit

set_option maxHeartbeats 400000 in
set_option maxRecDepth 100000 in
theorem wCounts0 (n : Int) (hn : -9223372036854775808 ≤ n) (hn' : n ≤ 9223372036854775807) (ao : Option Addr) (cap : Nat) (w : World) :
    Calls Try.prog 5 #[.int .i64 n, .slice ao 0 cap] w fun e w' => e = .returned (.bool true) ∧ Below w.heap.size w w' := by
  obtain ⟨n0, hn0, hn64⟩ : ∃ m : Nat, kd n 64 = m ∧ m < 64 := ⟨(kd n 64).toNat, by have := kd_bounds n 64 (by decide); omega, by have := kd_bounds n 64 (by decide); omega⟩
  go_enter Try.func5, Try.ntmps5
  go_wp2_with (first
    | (go_at_call 8; refine (cShown w).mono ?_; rintro e w1 ⟨rfl, hb1⟩)
    | (go_at_call 11; refine (cKind w1 n 64 hn hn' (by decide)).mono ?_; rintro e w2 ⟨rfl, hw2⟩; rw [hw2, hn0]; clear hw2 w2)
    | (go_at_call 9; refine (oNew w1 (1 + n0) (by omega) (by omega) hb1).mono ?_; rintro e w2 ⟨mb, rfl, h2⟩))
  have u1 : (St.new (1 + n0)).l.length = 0 := rfl
  have u2 : (St.new (1 + n0)).took.l.length = 0 := rfl
  have u3 : (St.new (1 + n0)).took.took.t = 0 := rfl
  have u4 : (St.new (1 + n0)).took.took.c = 0 := rfl
  refine wp_loop_rounds 1 ?_
  rw [rounds_succ]
  go_wp2_with (first
    | (go_at_call 21; refine (oTake (by assumption)).mono ?_; rintro e w7 ⟨ao7, cp7, rfl, o7, t7, k7⟩)
    | (go_at_call 24; refine (oCount (by assumption)).mono ?_; rintro e w8 ⟨rfl, hw8⟩; rw [hw8]; clear hw8 w8)
    | (go_at_call 25; refine (oTraps (by assumption)).mono ?_; rintro e w8 ⟨rfl, hw8⟩; rw [hw8]; clear hw8 w8))
  all_goals go_ret
  all_goals exact ⟨by simp, o7.bel⟩
theorem wMemCounts (n : Int) (ao : Option Addr) (len cap : Nat) (z : Nat → Op6) (hn : -9223372036854775808 ≤ n) (hn' : n ≤ 9223372036854775807) (w : World) (hl : Came w ao len z) :
    Calls Try.prog 5 #[.int .i64 n, .slice ao len cap] w fun e w' => e = .returned (.bool true) ∧ Below w.heap.size w w' := by
  rcases hl with rfl | ⟨b, off, rfl, hl⟩
  · exact wCounts0 n hn hn' ao cap w
  · exact wCounts n hn hn' b off len cap z w hl
end Go.Proofs.Ytmidhhigopjkhaa
