/-
  The law on plays, for every length and every list of calls.
-/
import Derived.Test.YtmidhhigopjkhaaPlays
import Derived.Test.YtmidhhigopjkhaaPlaysBad
namespace Go.Proofs.Ytmidhhigopjkhaa
set_option linter.unusedVariables false
open Go.ChangeShapes Go.WideShapes Go.RowKit

theorem wMemPlays (n : Int) (ao : Option Addr) (len cap : Nat) (z : Nat → Op6) (hn : -9223372036854775808 ≤ n) (hn' : n ≤ 9223372036854775807) (w : World) (hl : Came w ao len z) :
    Calls Try.prog 3 #[.int .i64 n, .slice ao len cap] w fun e w' => e = .returned (.bool true) ∧ Below w.heap.size w w' := by
  by_cases h : n < 1 ∨ 4096 < n
  · exact wPlaysBad n h ao len cap w
  · obtain ⟨m, rfl⟩ : ∃ m : Nat, n = m := ⟨n.toNat, by omega⟩
    exact wPlays m (by omega) (by omega) ao len cap z w hl
end Go.Proofs.Ytmidhhigopjkhaa
