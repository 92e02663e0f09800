/-
  The walk of the law on two things that fields have, whole: its eleven ways put together.
-/
import Derived.Test.YtpmjkoaffbnedaaWalks3
namespace Go.Proofs.Ytpmjkoaffbnedaa
open Go.RowKit
open Plain
theorem wApart (k n l m : Int) (w : World) :
    Calls Try.prog 8 #[.agg #[.int .i64 k, .int .i64 n], .agg #[.int .i64 l, .int .i64 m]] w fun e w' => e = .returned (.bool true) ∧ Below w.heap.size w w' := by
  by_cases h0 : k < 0
  · exact wApartOut0 k n l m h0 w
  have g0 : 0 ≤ k := by omega
  by_cases h1 : 3 < k
  · exact wApartOut1 k n l m g0 h1 w
  have g1 : k ≤ 3 := by omega
  by_cases h2 : n < 0
  · exact wApartOut2 k n l m g0 g1 h2 w
  have g2 : 0 ≤ n := by omega
  by_cases h3 : 2305843009213693952 ≤ n
  · exact wApartOut3 k n l m g0 g1 g2 h3 w
  have g3 : n < 2305843009213693952 := by omega
  by_cases h4 : l < 0
  · exact wApartOut4 k n l m g0 g1 g2 g3 h4 w
  have g4 : 0 ≤ l := by omega
  by_cases h5 : 3 < l
  · exact wApartOut5 k n l m g0 g1 g2 g3 g4 h5 w
  have g5 : l ≤ 3 := by omega
  by_cases h6 : m < 0
  · exact wApartOut6 k n l m g0 g1 g2 g3 g4 g5 h6 w
  have g6 : 0 ≤ m := by omega
  by_cases h7 : 2305843009213693952 ≤ m
  · exact wApartOut7 k n l m g0 g1 g2 g3 g4 g5 g6 h7 w
  have g7 : m < 2305843009213693952 := by omega
  by_cases e1 : k = l
  · subst e1
    by_cases e2 : n = m
    · subst e2
      exact wApartSame k n g0 g1 g2 g3 w
    · exact wApartNums k n m g0 g1 g2 g3 g6 g7 (by unfold word; simp only [beq_eq_false_iff_ne, ne_eq]; omega) (by simpa using e2) w
  · exact wApartKinds k n l m g0 g1 g2 g3 g4 g5 g6 g7 (by unfold word; simp only [beq_eq_false_iff_ne, ne_eq]; omega) (by simpa using e1) w
end Go.Proofs.Ytpmjkoaffbnedaa
