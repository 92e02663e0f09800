/-
  The walk of the law on reading back, whole: its ways put together.
-/
import Derived.Test.YtodelndbbpgblaaWalks4
namespace Go.Proofs.Ytodelndbbpgblaa
open Go.ChangeShapes Go.WideShapes Go.ChangeAt Go.RowKit
open Plain

theorem wBack (ta tv pn pm pk pl cs cc ct cn : Int) (w : World) :
    Calls Try.prog 5 #[.agg #[.int .i64 ta, .int .i64 tv], .agg #[.int .i64 pn, .int .i64 pm, .int .i64 pk, .int .i64 pl], .agg #[.int .i64 cs, .int .i64 cc, .int .i64 ct, .int .i64 cn]] w fun e w' => e = .returned (.bool true) ∧ Below w.heap.size w w' := by
  by_cases h0 : ta < 0
  · exact wBackOut0 ta tv pn pm pk pl cs cc ct cn  (decide_eq_true h0) w
  have g0 : 0 ≤ ta := by omega
  by_cases h1 : 4096 ≤ ta
  · exact wBackOut1 ta tv pn pm pk pl cs cc ct cn (decide_eq_false h0) (decide_eq_true h1) w
  have g1 : ta < 4096 := by omega
  by_cases h2 : tv < 0
  · exact wBackOut2 ta tv pn pm pk pl cs cc ct cn (decide_eq_false h0) (decide_eq_false h1) (decide_eq_true h2) w
  have g2 : 0 ≤ tv := by omega
  by_cases h3 : 1099511627776 ≤ tv
  · exact wBackOut3 ta tv pn pm pk pl cs cc ct cn (decide_eq_false h0) (decide_eq_false h1) (decide_eq_false h2) (decide_eq_true h3) w
  have g3 : tv < 1099511627776 := by omega
  by_cases h4 : pn < 0
  · exact wBackOut4 ta tv pn pm pk pl cs cc ct cn (decide_eq_false h0) (decide_eq_false h1) (decide_eq_false h2) (decide_eq_false h3) (decide_eq_true h4) w
  have g4 : 0 ≤ pn := by omega
  by_cases h5 : 1099511627776 ≤ pn
  · exact wBackOut5 ta tv pn pm pk pl cs cc ct cn (decide_eq_false h0) (decide_eq_false h1) (decide_eq_false h2) (decide_eq_false h3) (decide_eq_false h4) (decide_eq_true h5) w
  have g5 : pn < 1099511627776 := by omega
  by_cases h6 : pm < 0
  · exact wBackOut6 ta tv pn pm pk pl cs cc ct cn (decide_eq_false h0) (decide_eq_false h1) (decide_eq_false h2) (decide_eq_false h3) (decide_eq_false h4) (decide_eq_false h5) (decide_eq_true h6) w
  have g6 : 0 ≤ pm := by omega
  by_cases h7 : 15 < pm
  · exact wBackOut7 ta tv pn pm pk pl cs cc ct cn (decide_eq_false h0) (decide_eq_false h1) (decide_eq_false h2) (decide_eq_false h3) (decide_eq_false h4) (decide_eq_false h5) (decide_eq_false h6) (decide_eq_true h7) w
  have g7 : pm ≤ 15 := by omega
  by_cases h8 : pk < 0
  · exact wBackOut8 ta tv pn pm pk pl cs cc ct cn (decide_eq_false h0) (decide_eq_false h1) (decide_eq_false h2) (decide_eq_false h3) (decide_eq_false h4) (decide_eq_false h5) (decide_eq_false h6) (decide_eq_false h7) (decide_eq_true h8) w
  have g8 : 0 ≤ pk := by omega
  by_cases h9 : 1 < pk
  · exact wBackOut9 ta tv pn pm pk pl cs cc ct cn (decide_eq_false h0) (decide_eq_false h1) (decide_eq_false h2) (decide_eq_false h3) (decide_eq_false h4) (decide_eq_false h5) (decide_eq_false h6) (decide_eq_false h7) (decide_eq_false h8) (decide_eq_true h9) w
  have g9 : pk ≤ 1 := by omega
  by_cases h10 : pl < 0
  · exact wBackOut10 ta tv pn pm pk pl cs cc ct cn (decide_eq_false h0) (decide_eq_false h1) (decide_eq_false h2) (decide_eq_false h3) (decide_eq_false h4) (decide_eq_false h5) (decide_eq_false h6) (decide_eq_false h7) (decide_eq_false h8) (decide_eq_false h9) (decide_eq_true h10) w
  have g10 : 0 ≤ pl := by omega
  by_cases h11 : 1 < pl
  · exact wBackOut11 ta tv pn pm pk pl cs cc ct cn (decide_eq_false h0) (decide_eq_false h1) (decide_eq_false h2) (decide_eq_false h3) (decide_eq_false h4) (decide_eq_false h5) (decide_eq_false h6) (decide_eq_false h7) (decide_eq_false h8) (decide_eq_false h9) (decide_eq_false h10) (decide_eq_true h11) w
  have g11 : pl ≤ 1 := by omega
  by_cases h12 : cs < 0
  · exact wBackOut12 ta tv pn pm pk pl cs cc ct cn (decide_eq_false h0) (decide_eq_false h1) (decide_eq_false h2) (decide_eq_false h3) (decide_eq_false h4) (decide_eq_false h5) (decide_eq_false h6) (decide_eq_false h7) (decide_eq_false h8) (decide_eq_false h9) (decide_eq_false h10) (decide_eq_false h11) (decide_eq_true h12) w
  have g12 : 0 ≤ cs := by omega
  by_cases h13 : 3 < cs
  · exact wBackOut13 ta tv pn pm pk pl cs cc ct cn (decide_eq_false h0) (decide_eq_false h1) (decide_eq_false h2) (decide_eq_false h3) (decide_eq_false h4) (decide_eq_false h5) (decide_eq_false h6) (decide_eq_false h7) (decide_eq_false h8) (decide_eq_false h9) (decide_eq_false h10) (decide_eq_false h11) (decide_eq_false h12) (decide_eq_true h13) w
  have g13 : cs ≤ 3 := by omega
  by_cases h14 : cc < 0
  · exact wBackOut14 ta tv pn pm pk pl cs cc ct cn (decide_eq_false h0) (decide_eq_false h1) (decide_eq_false h2) (decide_eq_false h3) (decide_eq_false h4) (decide_eq_false h5) (decide_eq_false h6) (decide_eq_false h7) (decide_eq_false h8) (decide_eq_false h9) (decide_eq_false h10) (decide_eq_false h11) (decide_eq_false h12) (decide_eq_false h13) (decide_eq_true h14) w
  have g14 : 0 ≤ cc := by omega
  by_cases h15 : 3 < cc
  · exact wBackOut15 ta tv pn pm pk pl cs cc ct cn (decide_eq_false h0) (decide_eq_false h1) (decide_eq_false h2) (decide_eq_false h3) (decide_eq_false h4) (decide_eq_false h5) (decide_eq_false h6) (decide_eq_false h7) (decide_eq_false h8) (decide_eq_false h9) (decide_eq_false h10) (decide_eq_false h11) (decide_eq_false h12) (decide_eq_false h13) (decide_eq_false h14) (decide_eq_true h15) w
  have g15 : cc ≤ 3 := by omega
  by_cases h16 : ct < 0
  · exact wBackOut16 ta tv pn pm pk pl cs cc ct cn (decide_eq_false h0) (decide_eq_false h1) (decide_eq_false h2) (decide_eq_false h3) (decide_eq_false h4) (decide_eq_false h5) (decide_eq_false h6) (decide_eq_false h7) (decide_eq_false h8) (decide_eq_false h9) (decide_eq_false h10) (decide_eq_false h11) (decide_eq_false h12) (decide_eq_false h13) (decide_eq_false h14) (decide_eq_false h15) (decide_eq_true h16) w
  have g16 : 0 ≤ ct := by omega
  by_cases h17 : 1 < ct
  · exact wBackOut17 ta tv pn pm pk pl cs cc ct cn (decide_eq_false h0) (decide_eq_false h1) (decide_eq_false h2) (decide_eq_false h3) (decide_eq_false h4) (decide_eq_false h5) (decide_eq_false h6) (decide_eq_false h7) (decide_eq_false h8) (decide_eq_false h9) (decide_eq_false h10) (decide_eq_false h11) (decide_eq_false h12) (decide_eq_false h13) (decide_eq_false h14) (decide_eq_false h15) (decide_eq_false h16) (decide_eq_true h17) w
  have g17 : ct ≤ 1 := by omega
  by_cases h18 : cn < 0
  · exact wBackOut18 ta tv pn pm pk pl cs cc ct cn (decide_eq_false h0) (decide_eq_false h1) (decide_eq_false h2) (decide_eq_false h3) (decide_eq_false h4) (decide_eq_false h5) (decide_eq_false h6) (decide_eq_false h7) (decide_eq_false h8) (decide_eq_false h9) (decide_eq_false h10) (decide_eq_false h11) (decide_eq_false h12) (decide_eq_false h13) (decide_eq_false h14) (decide_eq_false h15) (decide_eq_false h16) (decide_eq_false h17) (decide_eq_true h18) w
  have g18 : 0 ≤ cn := by omega
  by_cases h19 : 127 < cn
  · exact wBackOut19 ta tv pn pm pk pl cs cc ct cn (decide_eq_false h0) (decide_eq_false h1) (decide_eq_false h2) (decide_eq_false h3) (decide_eq_false h4) (decide_eq_false h5) (decide_eq_false h6) (decide_eq_false h7) (decide_eq_false h8) (decide_eq_false h9) (decide_eq_false h10) (decide_eq_false h11) (decide_eq_false h12) (decide_eq_false h13) (decide_eq_false h14) (decide_eq_false h15) (decide_eq_false h16) (decide_eq_false h17) (decide_eq_false h18) (decide_eq_true h19) w
  have g19 : cn ≤ 127 := by omega
  exact wBackIn ta tv pn pm pk pl cs cc ct cn g0 g1 g2 g3 g4 g5 g6 g7 g8 g9 g10 g11 g12 g13 g14 g15 g16 g17 g18 g19 w
end Go.Proofs.Ytodelndbbpgblaa
