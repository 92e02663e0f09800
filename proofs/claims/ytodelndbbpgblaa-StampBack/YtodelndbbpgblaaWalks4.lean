/-
  The ways of the law on reading back: a number that its bits do not hold; and all held.
-/
import Derived.Test.YtodelndbbpgblaaWalks0
namespace Go.Proofs.Ytodelndbbpgblaa
open Go.ChangeShapes Go.WideShapes Go.ChangeAt Go.RowKit
open Plain

theorem wBackOut0 (ta tv pn pm pk pl cs cc ct cn : Int)  (c : decide (ta < 0) = true) (w : World) :
    Calls Try.prog 5 #[.agg #[.int .i64 ta, .int .i64 tv], .agg #[.int .i64 pn, .int .i64 pm, .int .i64 pk, .int .i64 pl], .agg #[.int .i64 cs, .int .i64 cc, .int .i64 ct, .int .i64 cn]] w fun e w' => e = .returned (.bool true) ∧ Below w.heap.size w w' := by
  go_enter Try.func5, Try.ntmps5
  go_wp2_with (go_at_call 9; refine (cShown3 _ _ _ _ _ _ _ _ _ _ w).mono ?_; rintro e w1 ⟨rfl, hH0, hH1, hH2, hH3, hH4, hH5, hH6, hH7, hH8, hH9, hH10, hH11, hH12, hH13⟩)
  go_ret
  exact ⟨rfl, hH0⟩

theorem wBackOut1 (ta tv pn pm pk pl cs cc ct cn : Int) (g0 : decide (ta < 0) = false) (c : decide (4096 ≤ ta) = true) (w : World) :
    Calls Try.prog 5 #[.agg #[.int .i64 ta, .int .i64 tv], .agg #[.int .i64 pn, .int .i64 pm, .int .i64 pk, .int .i64 pl], .agg #[.int .i64 cs, .int .i64 cc, .int .i64 ct, .int .i64 cn]] w fun e w' => e = .returned (.bool true) ∧ Below w.heap.size w w' := by
  go_enter Try.func5, Try.ntmps5
  go_wp2_with (go_at_call 9; refine (cShown3 _ _ _ _ _ _ _ _ _ _ w).mono ?_; rintro e w1 ⟨rfl, hH0, hH1, hH2, hH3, hH4, hH5, hH6, hH7, hH8, hH9, hH10, hH11, hH12, hH13⟩)
  go_ret
  exact ⟨rfl, hH0⟩

theorem wBackOut2 (ta tv pn pm pk pl cs cc ct cn : Int) (g0 : decide (ta < 0) = false) (g1 : decide (4096 ≤ ta) = false) (c : decide (tv < 0) = true) (w : World) :
    Calls Try.prog 5 #[.agg #[.int .i64 ta, .int .i64 tv], .agg #[.int .i64 pn, .int .i64 pm, .int .i64 pk, .int .i64 pl], .agg #[.int .i64 cs, .int .i64 cc, .int .i64 ct, .int .i64 cn]] w fun e w' => e = .returned (.bool true) ∧ Below w.heap.size w w' := by
  go_enter Try.func5, Try.ntmps5
  go_wp2_with (go_at_call 9; refine (cShown3 _ _ _ _ _ _ _ _ _ _ w).mono ?_; rintro e w1 ⟨rfl, hH0, hH1, hH2, hH3, hH4, hH5, hH6, hH7, hH8, hH9, hH10, hH11, hH12, hH13⟩)
  go_ret
  exact ⟨rfl, hH0⟩

theorem wBackOut3 (ta tv pn pm pk pl cs cc ct cn : Int) (g0 : decide (ta < 0) = false) (g1 : decide (4096 ≤ ta) = false) (g2 : decide (tv < 0) = false) (c : decide (1099511627776 ≤ tv) = true) (w : World) :
    Calls Try.prog 5 #[.agg #[.int .i64 ta, .int .i64 tv], .agg #[.int .i64 pn, .int .i64 pm, .int .i64 pk, .int .i64 pl], .agg #[.int .i64 cs, .int .i64 cc, .int .i64 ct, .int .i64 cn]] w fun e w' => e = .returned (.bool true) ∧ Below w.heap.size w w' := by
  go_enter Try.func5, Try.ntmps5
  go_wp2_with (go_at_call 9; refine (cShown3 _ _ _ _ _ _ _ _ _ _ w).mono ?_; rintro e w1 ⟨rfl, hH0, hH1, hH2, hH3, hH4, hH5, hH6, hH7, hH8, hH9, hH10, hH11, hH12, hH13⟩)
  go_ret
  exact ⟨rfl, hH0⟩

theorem wBackOut4 (ta tv pn pm pk pl cs cc ct cn : Int) (g0 : decide (ta < 0) = false) (g1 : decide (4096 ≤ ta) = false) (g2 : decide (tv < 0) = false) (g3 : decide (1099511627776 ≤ tv) = false) (c : decide (pn < 0) = true) (w : World) :
    Calls Try.prog 5 #[.agg #[.int .i64 ta, .int .i64 tv], .agg #[.int .i64 pn, .int .i64 pm, .int .i64 pk, .int .i64 pl], .agg #[.int .i64 cs, .int .i64 cc, .int .i64 ct, .int .i64 cn]] w fun e w' => e = .returned (.bool true) ∧ Below w.heap.size w w' := by
  go_enter Try.func5, Try.ntmps5
  go_wp2_with (go_at_call 9; refine (cShown3 _ _ _ _ _ _ _ _ _ _ w).mono ?_; rintro e w1 ⟨rfl, hH0, hH1, hH2, hH3, hH4, hH5, hH6, hH7, hH8, hH9, hH10, hH11, hH12, hH13⟩)
  go_ret
  exact ⟨rfl, hH0⟩

theorem wBackOut5 (ta tv pn pm pk pl cs cc ct cn : Int) (g0 : decide (ta < 0) = false) (g1 : decide (4096 ≤ ta) = false) (g2 : decide (tv < 0) = false) (g3 : decide (1099511627776 ≤ tv) = false) (g4 : decide (pn < 0) = false) (c : decide (1099511627776 ≤ pn) = true) (w : World) :
    Calls Try.prog 5 #[.agg #[.int .i64 ta, .int .i64 tv], .agg #[.int .i64 pn, .int .i64 pm, .int .i64 pk, .int .i64 pl], .agg #[.int .i64 cs, .int .i64 cc, .int .i64 ct, .int .i64 cn]] w fun e w' => e = .returned (.bool true) ∧ Below w.heap.size w w' := by
  go_enter Try.func5, Try.ntmps5
  go_wp2_with (go_at_call 9; refine (cShown3 _ _ _ _ _ _ _ _ _ _ w).mono ?_; rintro e w1 ⟨rfl, hH0, hH1, hH2, hH3, hH4, hH5, hH6, hH7, hH8, hH9, hH10, hH11, hH12, hH13⟩)
  go_ret
  exact ⟨rfl, hH0⟩

theorem wBackOut6 (ta tv pn pm pk pl cs cc ct cn : Int) (g0 : decide (ta < 0) = false) (g1 : decide (4096 ≤ ta) = false) (g2 : decide (tv < 0) = false) (g3 : decide (1099511627776 ≤ tv) = false) (g4 : decide (pn < 0) = false) (g5 : decide (1099511627776 ≤ pn) = false) (c : decide (pm < 0) = true) (w : World) :
    Calls Try.prog 5 #[.agg #[.int .i64 ta, .int .i64 tv], .agg #[.int .i64 pn, .int .i64 pm, .int .i64 pk, .int .i64 pl], .agg #[.int .i64 cs, .int .i64 cc, .int .i64 ct, .int .i64 cn]] w fun e w' => e = .returned (.bool true) ∧ Below w.heap.size w w' := by
  go_enter Try.func5, Try.ntmps5
  go_wp2_with (go_at_call 9; refine (cShown3 _ _ _ _ _ _ _ _ _ _ w).mono ?_; rintro e w1 ⟨rfl, hH0, hH1, hH2, hH3, hH4, hH5, hH6, hH7, hH8, hH9, hH10, hH11, hH12, hH13⟩)
  go_ret
  exact ⟨rfl, hH0⟩

theorem wBackOut7 (ta tv pn pm pk pl cs cc ct cn : Int) (g0 : decide (ta < 0) = false) (g1 : decide (4096 ≤ ta) = false) (g2 : decide (tv < 0) = false) (g3 : decide (1099511627776 ≤ tv) = false) (g4 : decide (pn < 0) = false) (g5 : decide (1099511627776 ≤ pn) = false) (g6 : decide (pm < 0) = false) (c : decide (15 < pm) = true) (w : World) :
    Calls Try.prog 5 #[.agg #[.int .i64 ta, .int .i64 tv], .agg #[.int .i64 pn, .int .i64 pm, .int .i64 pk, .int .i64 pl], .agg #[.int .i64 cs, .int .i64 cc, .int .i64 ct, .int .i64 cn]] w fun e w' => e = .returned (.bool true) ∧ Below w.heap.size w w' := by
  go_enter Try.func5, Try.ntmps5
  go_wp2_with (go_at_call 9; refine (cShown3 _ _ _ _ _ _ _ _ _ _ w).mono ?_; rintro e w1 ⟨rfl, hH0, hH1, hH2, hH3, hH4, hH5, hH6, hH7, hH8, hH9, hH10, hH11, hH12, hH13⟩)
  go_ret
  exact ⟨rfl, hH0⟩

theorem wBackOut8 (ta tv pn pm pk pl cs cc ct cn : Int) (g0 : decide (ta < 0) = false) (g1 : decide (4096 ≤ ta) = false) (g2 : decide (tv < 0) = false) (g3 : decide (1099511627776 ≤ tv) = false) (g4 : decide (pn < 0) = false) (g5 : decide (1099511627776 ≤ pn) = false) (g6 : decide (pm < 0) = false) (g7 : decide (15 < pm) = false) (c : decide (pk < 0) = true) (w : World) :
    Calls Try.prog 5 #[.agg #[.int .i64 ta, .int .i64 tv], .agg #[.int .i64 pn, .int .i64 pm, .int .i64 pk, .int .i64 pl], .agg #[.int .i64 cs, .int .i64 cc, .int .i64 ct, .int .i64 cn]] w fun e w' => e = .returned (.bool true) ∧ Below w.heap.size w w' := by
  go_enter Try.func5, Try.ntmps5
  go_wp2_with (go_at_call 9; refine (cShown3 _ _ _ _ _ _ _ _ _ _ w).mono ?_; rintro e w1 ⟨rfl, hH0, hH1, hH2, hH3, hH4, hH5, hH6, hH7, hH8, hH9, hH10, hH11, hH12, hH13⟩)
  go_ret
  exact ⟨rfl, hH0⟩

theorem wBackOut9 (ta tv pn pm pk pl cs cc ct cn : Int) (g0 : decide (ta < 0) = false) (g1 : decide (4096 ≤ ta) = false) (g2 : decide (tv < 0) = false) (g3 : decide (1099511627776 ≤ tv) = false) (g4 : decide (pn < 0) = false) (g5 : decide (1099511627776 ≤ pn) = false) (g6 : decide (pm < 0) = false) (g7 : decide (15 < pm) = false) (g8 : decide (pk < 0) = false) (c : decide (1 < pk) = true) (w : World) :
    Calls Try.prog 5 #[.agg #[.int .i64 ta, .int .i64 tv], .agg #[.int .i64 pn, .int .i64 pm, .int .i64 pk, .int .i64 pl], .agg #[.int .i64 cs, .int .i64 cc, .int .i64 ct, .int .i64 cn]] w fun e w' => e = .returned (.bool true) ∧ Below w.heap.size w w' := by
  go_enter Try.func5, Try.ntmps5
  go_wp2_with (go_at_call 9; refine (cShown3 _ _ _ _ _ _ _ _ _ _ w).mono ?_; rintro e w1 ⟨rfl, hH0, hH1, hH2, hH3, hH4, hH5, hH6, hH7, hH8, hH9, hH10, hH11, hH12, hH13⟩)
  go_ret
  exact ⟨rfl, hH0⟩

theorem wBackOut10 (ta tv pn pm pk pl cs cc ct cn : Int) (g0 : decide (ta < 0) = false) (g1 : decide (4096 ≤ ta) = false) (g2 : decide (tv < 0) = false) (g3 : decide (1099511627776 ≤ tv) = false) (g4 : decide (pn < 0) = false) (g5 : decide (1099511627776 ≤ pn) = false) (g6 : decide (pm < 0) = false) (g7 : decide (15 < pm) = false) (g8 : decide (pk < 0) = false) (g9 : decide (1 < pk) = false) (c : decide (pl < 0) = true) (w : World) :
    Calls Try.prog 5 #[.agg #[.int .i64 ta, .int .i64 tv], .agg #[.int .i64 pn, .int .i64 pm, .int .i64 pk, .int .i64 pl], .agg #[.int .i64 cs, .int .i64 cc, .int .i64 ct, .int .i64 cn]] w fun e w' => e = .returned (.bool true) ∧ Below w.heap.size w w' := by
  go_enter Try.func5, Try.ntmps5
  go_wp2_with (go_at_call 9; refine (cShown3 _ _ _ _ _ _ _ _ _ _ w).mono ?_; rintro e w1 ⟨rfl, hH0, hH1, hH2, hH3, hH4, hH5, hH6, hH7, hH8, hH9, hH10, hH11, hH12, hH13⟩)
  go_ret
  exact ⟨rfl, hH0⟩

theorem wBackOut11 (ta tv pn pm pk pl cs cc ct cn : Int) (g0 : decide (ta < 0) = false) (g1 : decide (4096 ≤ ta) = false) (g2 : decide (tv < 0) = false) (g3 : decide (1099511627776 ≤ tv) = false) (g4 : decide (pn < 0) = false) (g5 : decide (1099511627776 ≤ pn) = false) (g6 : decide (pm < 0) = false) (g7 : decide (15 < pm) = false) (g8 : decide (pk < 0) = false) (g9 : decide (1 < pk) = false) (g10 : decide (pl < 0) = false) (c : decide (1 < pl) = true) (w : World) :
    Calls Try.prog 5 #[.agg #[.int .i64 ta, .int .i64 tv], .agg #[.int .i64 pn, .int .i64 pm, .int .i64 pk, .int .i64 pl], .agg #[.int .i64 cs, .int .i64 cc, .int .i64 ct, .int .i64 cn]] w fun e w' => e = .returned (.bool true) ∧ Below w.heap.size w w' := by
  go_enter Try.func5, Try.ntmps5
  go_wp2_with (go_at_call 9; refine (cShown3 _ _ _ _ _ _ _ _ _ _ w).mono ?_; rintro e w1 ⟨rfl, hH0, hH1, hH2, hH3, hH4, hH5, hH6, hH7, hH8, hH9, hH10, hH11, hH12, hH13⟩)
  go_ret
  exact ⟨rfl, hH0⟩

theorem wBackOut12 (ta tv pn pm pk pl cs cc ct cn : Int) (g0 : decide (ta < 0) = false) (g1 : decide (4096 ≤ ta) = false) (g2 : decide (tv < 0) = false) (g3 : decide (1099511627776 ≤ tv) = false) (g4 : decide (pn < 0) = false) (g5 : decide (1099511627776 ≤ pn) = false) (g6 : decide (pm < 0) = false) (g7 : decide (15 < pm) = false) (g8 : decide (pk < 0) = false) (g9 : decide (1 < pk) = false) (g10 : decide (pl < 0) = false) (g11 : decide (1 < pl) = false) (c : decide (cs < 0) = true) (w : World) :
    Calls Try.prog 5 #[.agg #[.int .i64 ta, .int .i64 tv], .agg #[.int .i64 pn, .int .i64 pm, .int .i64 pk, .int .i64 pl], .agg #[.int .i64 cs, .int .i64 cc, .int .i64 ct, .int .i64 cn]] w fun e w' => e = .returned (.bool true) ∧ Below w.heap.size w w' := by
  go_enter Try.func5, Try.ntmps5
  go_wp2_with (go_at_call 9; refine (cShown3 _ _ _ _ _ _ _ _ _ _ w).mono ?_; rintro e w1 ⟨rfl, hH0, hH1, hH2, hH3, hH4, hH5, hH6, hH7, hH8, hH9, hH10, hH11, hH12, hH13⟩)
  go_ret
  exact ⟨rfl, hH0⟩

theorem wBackOut13 (ta tv pn pm pk pl cs cc ct cn : Int) (g0 : decide (ta < 0) = false) (g1 : decide (4096 ≤ ta) = false) (g2 : decide (tv < 0) = false) (g3 : decide (1099511627776 ≤ tv) = false) (g4 : decide (pn < 0) = false) (g5 : decide (1099511627776 ≤ pn) = false) (g6 : decide (pm < 0) = false) (g7 : decide (15 < pm) = false) (g8 : decide (pk < 0) = false) (g9 : decide (1 < pk) = false) (g10 : decide (pl < 0) = false) (g11 : decide (1 < pl) = false) (g12 : decide (cs < 0) = false) (c : decide (3 < cs) = true) (w : World) :
    Calls Try.prog 5 #[.agg #[.int .i64 ta, .int .i64 tv], .agg #[.int .i64 pn, .int .i64 pm, .int .i64 pk, .int .i64 pl], .agg #[.int .i64 cs, .int .i64 cc, .int .i64 ct, .int .i64 cn]] w fun e w' => e = .returned (.bool true) ∧ Below w.heap.size w w' := by
  go_enter Try.func5, Try.ntmps5
  go_wp2_with (go_at_call 9; refine (cShown3 _ _ _ _ _ _ _ _ _ _ w).mono ?_; rintro e w1 ⟨rfl, hH0, hH1, hH2, hH3, hH4, hH5, hH6, hH7, hH8, hH9, hH10, hH11, hH12, hH13⟩)
  go_ret
  exact ⟨rfl, hH0⟩

theorem wBackOut14 (ta tv pn pm pk pl cs cc ct cn : Int) (g0 : decide (ta < 0) = false) (g1 : decide (4096 ≤ ta) = false) (g2 : decide (tv < 0) = false) (g3 : decide (1099511627776 ≤ tv) = false) (g4 : decide (pn < 0) = false) (g5 : decide (1099511627776 ≤ pn) = false) (g6 : decide (pm < 0) = false) (g7 : decide (15 < pm) = false) (g8 : decide (pk < 0) = false) (g9 : decide (1 < pk) = false) (g10 : decide (pl < 0) = false) (g11 : decide (1 < pl) = false) (g12 : decide (cs < 0) = false) (g13 : decide (3 < cs) = false) (c : decide (cc < 0) = true) (w : World) :
    Calls Try.prog 5 #[.agg #[.int .i64 ta, .int .i64 tv], .agg #[.int .i64 pn, .int .i64 pm, .int .i64 pk, .int .i64 pl], .agg #[.int .i64 cs, .int .i64 cc, .int .i64 ct, .int .i64 cn]] w fun e w' => e = .returned (.bool true) ∧ Below w.heap.size w w' := by
  go_enter Try.func5, Try.ntmps5
  go_wp2_with (go_at_call 9; refine (cShown3 _ _ _ _ _ _ _ _ _ _ w).mono ?_; rintro e w1 ⟨rfl, hH0, hH1, hH2, hH3, hH4, hH5, hH6, hH7, hH8, hH9, hH10, hH11, hH12, hH13⟩)
  go_ret
  exact ⟨rfl, hH0⟩

theorem wBackOut15 (ta tv pn pm pk pl cs cc ct cn : Int) (g0 : decide (ta < 0) = false) (g1 : decide (4096 ≤ ta) = false) (g2 : decide (tv < 0) = false) (g3 : decide (1099511627776 ≤ tv) = false) (g4 : decide (pn < 0) = false) (g5 : decide (1099511627776 ≤ pn) = false) (g6 : decide (pm < 0) = false) (g7 : decide (15 < pm) = false) (g8 : decide (pk < 0) = false) (g9 : decide (1 < pk) = false) (g10 : decide (pl < 0) = false) (g11 : decide (1 < pl) = false) (g12 : decide (cs < 0) = false) (g13 : decide (3 < cs) = false) (g14 : decide (cc < 0) = false) (c : decide (3 < cc) = true) (w : World) :
    Calls Try.prog 5 #[.agg #[.int .i64 ta, .int .i64 tv], .agg #[.int .i64 pn, .int .i64 pm, .int .i64 pk, .int .i64 pl], .agg #[.int .i64 cs, .int .i64 cc, .int .i64 ct, .int .i64 cn]] w fun e w' => e = .returned (.bool true) ∧ Below w.heap.size w w' := by
  go_enter Try.func5, Try.ntmps5
  go_wp2_with (go_at_call 9; refine (cShown3 _ _ _ _ _ _ _ _ _ _ w).mono ?_; rintro e w1 ⟨rfl, hH0, hH1, hH2, hH3, hH4, hH5, hH6, hH7, hH8, hH9, hH10, hH11, hH12, hH13⟩)
  go_ret
  exact ⟨rfl, hH0⟩

theorem wBackOut16 (ta tv pn pm pk pl cs cc ct cn : Int) (g0 : decide (ta < 0) = false) (g1 : decide (4096 ≤ ta) = false) (g2 : decide (tv < 0) = false) (g3 : decide (1099511627776 ≤ tv) = false) (g4 : decide (pn < 0) = false) (g5 : decide (1099511627776 ≤ pn) = false) (g6 : decide (pm < 0) = false) (g7 : decide (15 < pm) = false) (g8 : decide (pk < 0) = false) (g9 : decide (1 < pk) = false) (g10 : decide (pl < 0) = false) (g11 : decide (1 < pl) = false) (g12 : decide (cs < 0) = false) (g13 : decide (3 < cs) = false) (g14 : decide (cc < 0) = false) (g15 : decide (3 < cc) = false) (c : decide (ct < 0) = true) (w : World) :
    Calls Try.prog 5 #[.agg #[.int .i64 ta, .int .i64 tv], .agg #[.int .i64 pn, .int .i64 pm, .int .i64 pk, .int .i64 pl], .agg #[.int .i64 cs, .int .i64 cc, .int .i64 ct, .int .i64 cn]] w fun e w' => e = .returned (.bool true) ∧ Below w.heap.size w w' := by
  go_enter Try.func5, Try.ntmps5
  go_wp2_with (go_at_call 9; refine (cShown3 _ _ _ _ _ _ _ _ _ _ w).mono ?_; rintro e w1 ⟨rfl, hH0, hH1, hH2, hH3, hH4, hH5, hH6, hH7, hH8, hH9, hH10, hH11, hH12, hH13⟩)
  go_ret
  exact ⟨rfl, hH0⟩

theorem wBackOut17 (ta tv pn pm pk pl cs cc ct cn : Int) (g0 : decide (ta < 0) = false) (g1 : decide (4096 ≤ ta) = false) (g2 : decide (tv < 0) = false) (g3 : decide (1099511627776 ≤ tv) = false) (g4 : decide (pn < 0) = false) (g5 : decide (1099511627776 ≤ pn) = false) (g6 : decide (pm < 0) = false) (g7 : decide (15 < pm) = false) (g8 : decide (pk < 0) = false) (g9 : decide (1 < pk) = false) (g10 : decide (pl < 0) = false) (g11 : decide (1 < pl) = false) (g12 : decide (cs < 0) = false) (g13 : decide (3 < cs) = false) (g14 : decide (cc < 0) = false) (g15 : decide (3 < cc) = false) (g16 : decide (ct < 0) = false) (c : decide (1 < ct) = true) (w : World) :
    Calls Try.prog 5 #[.agg #[.int .i64 ta, .int .i64 tv], .agg #[.int .i64 pn, .int .i64 pm, .int .i64 pk, .int .i64 pl], .agg #[.int .i64 cs, .int .i64 cc, .int .i64 ct, .int .i64 cn]] w fun e w' => e = .returned (.bool true) ∧ Below w.heap.size w w' := by
  go_enter Try.func5, Try.ntmps5
  go_wp2_with (go_at_call 9; refine (cShown3 _ _ _ _ _ _ _ _ _ _ w).mono ?_; rintro e w1 ⟨rfl, hH0, hH1, hH2, hH3, hH4, hH5, hH6, hH7, hH8, hH9, hH10, hH11, hH12, hH13⟩)
  go_ret
  exact ⟨rfl, hH0⟩

theorem wBackOut18 (ta tv pn pm pk pl cs cc ct cn : Int) (g0 : decide (ta < 0) = false) (g1 : decide (4096 ≤ ta) = false) (g2 : decide (tv < 0) = false) (g3 : decide (1099511627776 ≤ tv) = false) (g4 : decide (pn < 0) = false) (g5 : decide (1099511627776 ≤ pn) = false) (g6 : decide (pm < 0) = false) (g7 : decide (15 < pm) = false) (g8 : decide (pk < 0) = false) (g9 : decide (1 < pk) = false) (g10 : decide (pl < 0) = false) (g11 : decide (1 < pl) = false) (g12 : decide (cs < 0) = false) (g13 : decide (3 < cs) = false) (g14 : decide (cc < 0) = false) (g15 : decide (3 < cc) = false) (g16 : decide (ct < 0) = false) (g17 : decide (1 < ct) = false) (c : decide (cn < 0) = true) (w : World) :
    Calls Try.prog 5 #[.agg #[.int .i64 ta, .int .i64 tv], .agg #[.int .i64 pn, .int .i64 pm, .int .i64 pk, .int .i64 pl], .agg #[.int .i64 cs, .int .i64 cc, .int .i64 ct, .int .i64 cn]] w fun e w' => e = .returned (.bool true) ∧ Below w.heap.size w w' := by
  go_enter Try.func5, Try.ntmps5
  go_wp2_with (go_at_call 9; refine (cShown3 _ _ _ _ _ _ _ _ _ _ w).mono ?_; rintro e w1 ⟨rfl, hH0, hH1, hH2, hH3, hH4, hH5, hH6, hH7, hH8, hH9, hH10, hH11, hH12, hH13⟩)
  go_ret
  exact ⟨rfl, hH0⟩

theorem wBackOut19 (ta tv pn pm pk pl cs cc ct cn : Int) (g0 : decide (ta < 0) = false) (g1 : decide (4096 ≤ ta) = false) (g2 : decide (tv < 0) = false) (g3 : decide (1099511627776 ≤ tv) = false) (g4 : decide (pn < 0) = false) (g5 : decide (1099511627776 ≤ pn) = false) (g6 : decide (pm < 0) = false) (g7 : decide (15 < pm) = false) (g8 : decide (pk < 0) = false) (g9 : decide (1 < pk) = false) (g10 : decide (pl < 0) = false) (g11 : decide (1 < pl) = false) (g12 : decide (cs < 0) = false) (g13 : decide (3 < cs) = false) (g14 : decide (cc < 0) = false) (g15 : decide (3 < cc) = false) (g16 : decide (ct < 0) = false) (g17 : decide (1 < ct) = false) (g18 : decide (cn < 0) = false) (c : decide (127 < cn) = true) (w : World) :
    Calls Try.prog 5 #[.agg #[.int .i64 ta, .int .i64 tv], .agg #[.int .i64 pn, .int .i64 pm, .int .i64 pk, .int .i64 pl], .agg #[.int .i64 cs, .int .i64 cc, .int .i64 ct, .int .i64 cn]] w fun e w' => e = .returned (.bool true) ∧ Below w.heap.size w w' := by
  go_enter Try.func5, Try.ntmps5
  go_wp2_with (go_at_call 9; refine (cShown3 _ _ _ _ _ _ _ _ _ _ w).mono ?_; rintro e w1 ⟨rfl, hH0, hH1, hH2, hH3, hH4, hH5, hH6, hH7, hH8, hH9, hH10, hH11, hH12, hH13⟩)
  go_ret
  exact ⟨rfl, hH0⟩

theorem gOfTop (a : Int) (h : 0 ≤ a) (h' : a ≤ 18446744073709551615) (w : World) :
    Calls Try.prog 16 #[.int .u64 a] w fun e w' => e = .returned (.agg #[.int .i64 (t0 a), .int .i64 (t1 a)]) ∧ Below w.heap.size w w' :=
  (cOfTop a h h' w).mono fun _ _ ⟨he, hw⟩ => ⟨he, hw ▸ bal (Below.refl _ _) _⟩
theorem gOfPhase (a : Int) (h : 0 ≤ a) (h' : a ≤ 18446744073709551615) (w : World) :
    Calls Try.prog 18 #[.int .u64 a] w fun e w' => e = .returned (.agg #[.int .i64 (p0 a), .int .i64 (p1 a), .int .i64 (p2 a), .int .i64 (p3 a)]) ∧ Below w.heap.size w w' :=
  (cOfPhase a h h' w).mono fun _ _ ⟨he, hw⟩ => ⟨he, hw ▸ bal (Below.refl _ _) _⟩
theorem gOfBlock (a : Int) (h : 0 ≤ a) (h' : a ≤ 18446744073709551615) (w : World) :
    Calls Try.prog 20 #[.int .u64 a] w fun e w' => e = .returned (.agg #[.int .i64 (b0 a), .int .i64 (b1 a), .int .i64 (b2 a), .int .i64 (b3 a)]) ∧ Below w.heap.size w w' :=
  (cOfBlock a h h' w).mono fun _ _ ⟨he, hw⟩ => ⟨he, hw ▸ bal (Below.refl _ _) _⟩

theorem wBackIn (ta tv pn pm pk pl cs cc ct cn : Int) (g0 : 0 ≤ ta) (g1 : ta < 4096) (g2 : 0 ≤ tv) (g3 : tv < 1099511627776) (g4 : 0 ≤ pn) (g5 : pn < 1099511627776) (g6 : 0 ≤ pm) (g7 : pm ≤ 15) (g8 : 0 ≤ pk) (g9 : pk ≤ 1) (g10 : 0 ≤ pl) (g11 : pl ≤ 1) (g12 : 0 ≤ cs) (g13 : cs ≤ 3) (g14 : 0 ≤ cc) (g15 : cc ≤ 3) (g16 : 0 ≤ ct) (g17 : ct ≤ 1) (g18 : 0 ≤ cn) (g19 : cn ≤ 127) (w : World) :
    Calls Try.prog 5 #[.agg #[.int .i64 ta, .int .i64 tv], .agg #[.int .i64 pn, .int .i64 pm, .int .i64 pk, .int .i64 pl], .agg #[.int .i64 cs, .int .i64 cc, .int .i64 ct, .int .i64 cn]] w fun e w' => e = .returned (.bool true) ∧ Below w.heap.size w w' := by
  have qt0 : t0 (tw ta tv) = ta := by rw [t0_tw]; omega
  have qt1 : t1 (tw ta tv) = tv := by rw [t1_tw]; omega
  have lt0 := tw_pos ta tv
  have lt1 := tw_le ta tv
  have qp0 : p0 (pw pn pm pk pl) = pn := by rw [p0_pw]; omega
  have qp1 : p1 (pw pn pm pk pl) = pm := by rw [p1_pw]; omega
  have qp2 : p2 (pw pn pm pk pl) = pk := by rw [p2_pw]; omega
  have qp3 : p3 (pw pn pm pk pl) = pl := by rw [p3_pw]; omega
  have lp0 := pw_pos pn pm pk pl
  have lp1 := pw_le pn pm pk pl
  have qb0 : b0 (bw cs cc ct cn) = cs := by rw [b0_bw]; omega
  have qb1 : b1 (bw cs cc ct cn) = cc := by rw [b1_bw]; omega
  have qb2 : b2 (bw cs cc ct cn) = ct := by rw [b2_bw]; omega
  have qb3 : b3 (bw cs cc ct cn) = cn := by rw [b3_bw]; omega
  have lb0 := bw_pos cs cc ct cn
  have lb1 := bw_le cs cc ct cn
  have d0 : decide (ta < 0) = false := decide_eq_false (by omega)
  have d1 : decide (4096 ≤ ta) = false := decide_eq_false (by omega)
  have d2 : decide (tv < 0) = false := decide_eq_false (by omega)
  have d3 : decide (1099511627776 ≤ tv) = false := decide_eq_false (by omega)
  have d4 : decide (pn < 0) = false := decide_eq_false (by omega)
  have d5 : decide (1099511627776 ≤ pn) = false := decide_eq_false (by omega)
  have d6 : decide (pm < 0) = false := decide_eq_false (by omega)
  have d7 : decide (15 < pm) = false := decide_eq_false (by omega)
  have d8 : decide (pk < 0) = false := decide_eq_false (by omega)
  have d9 : decide (1 < pk) = false := decide_eq_false (by omega)
  have d10 : decide (pl < 0) = false := decide_eq_false (by omega)
  have d11 : decide (1 < pl) = false := decide_eq_false (by omega)
  have d12 : decide (cs < 0) = false := decide_eq_false (by omega)
  have d13 : decide (3 < cs) = false := decide_eq_false (by omega)
  have d14 : decide (cc < 0) = false := decide_eq_false (by omega)
  have d15 : decide (3 < cc) = false := decide_eq_false (by omega)
  have d16 : decide (ct < 0) = false := decide_eq_false (by omega)
  have d17 : decide (1 < ct) = false := decide_eq_false (by omega)
  have d18 : decide (cn < 0) = false := decide_eq_false (by omega)
  have d19 : decide (127 < cn) = false := decide_eq_false (by omega)
  clear g0 g1 g2 g3 g4 g5 g6 g7 g8 g9 g10 g11 g12 g13 g14 g15 g16 g17 g18 g19
  go_enter Try.func5, Try.ntmps5
  go_wp2_with (go_at_call 9; refine (cShown3 _ _ _ _ _ _ _ _ _ _ w).mono ?_; rintro e w1 ⟨rfl, hH0, hH1, hH2, hH3, hH4, hH5, hH6, hH7, hH8, hH9, hH10, hH11, hH12, hH13⟩)
  have hD : Below w.heap.size w w1.drew ∧ w.heap.size < w1.drew.heap.size ∧ w.heap.size + 1 < w1.drew.heap.size ∧ w.heap.size + 1 + 1 < w1.drew.heap.size ∧ w1.drew.cell? ⟨w.heap.size, 0, none⟩ = some (.int .i64 ta) ∧ w1.drew.cell? ⟨w.heap.size, 1, none⟩ = some (.int .i64 tv) ∧ w1.drew.cell? ⟨w.heap.size + 1, 0, none⟩ = some (.int .i64 pn) ∧ w1.drew.cell? ⟨w.heap.size + 1, 1, none⟩ = some (.int .i64 pm) ∧ w1.drew.cell? ⟨w.heap.size + 1, 2, none⟩ = some (.int .i64 pk) ∧ w1.drew.cell? ⟨w.heap.size + 1, 3, none⟩ = some (.int .i64 pl) ∧ w1.drew.cell? ⟨w.heap.size + 1 + 1, 0, none⟩ = some (.int .i64 cs) ∧ w1.drew.cell? ⟨w.heap.size + 1 + 1, 1, none⟩ = some (.int .i64 cc) ∧ w1.drew.cell? ⟨w.heap.size + 1 + 1, 2, none⟩ = some (.int .i64 ct) ∧ w1.drew.cell? ⟨w.heap.size + 1 + 1, 3, none⟩ = some (.int .i64 cn) := ⟨hH0.drew, hH1, hH2, hH3, hH4, hH5, hH6, hH7, hH8, hH9, hH10, hH11, hH12, hH13⟩
  go_region_held3 (fun w' => Below w.heap.size w w' ∧ w.heap.size < w'.heap.size ∧ w.heap.size + 1 < w'.heap.size ∧ w.heap.size + 1 + 1 < w'.heap.size ∧ w'.cell? ⟨w.heap.size, 0, none⟩ = some (.int .i64 ta) ∧ w'.cell? ⟨w.heap.size, 1, none⟩ = some (.int .i64 tv) ∧ w'.cell? ⟨w.heap.size + 1, 0, none⟩ = some (.int .i64 pn) ∧ w'.cell? ⟨w.heap.size + 1, 1, none⟩ = some (.int .i64 pm) ∧ w'.cell? ⟨w.heap.size + 1, 2, none⟩ = some (.int .i64 pk) ∧ w'.cell? ⟨w.heap.size + 1, 3, none⟩ = some (.int .i64 pl) ∧ w'.cell? ⟨w.heap.size + 1 + 1, 0, none⟩ = some (.int .i64 cs) ∧ w'.cell? ⟨w.heap.size + 1 + 1, 1, none⟩ = some (.int .i64 cc) ∧ w'.cell? ⟨w.heap.size + 1 + 1, 2, none⟩ = some (.int .i64 ct) ∧ w'.cell? ⟨w.heap.size + 1 + 1, 3, none⟩ = some (.int .i64 cn)) (first | assumption | exact ⟨hH0, hH1, hH2, hH3, hH4, hH5, hH6, hH7, hH8, hH9, hH10, hH11, hH12, hH13⟩ | exact held_on (by assumption) (by assumption))
    (first
      | (go_at_call 10; refine (gTop _ _ _).mono ?_; rintro e w' ⟨rfl, hb⟩)
      | (go_at_call 12; refine (gPhase _ _ _ _ _).mono ?_; rintro e w' ⟨rfl, hb⟩)
      | (go_at_call 14; refine (gBlock _ _ _ _ _).mono ?_; rintro e w' ⟨rfl, hb⟩)
      | (go_at_call 16; refine (gOfTop _ lt0 lt1 _).mono ?_; rintro e w' ⟨rfl, hb⟩)
      | (go_at_call 18; refine (gOfPhase _ lp0 lp1 _).mono ?_; rintro e w' ⟨rfl, hb⟩)
      | (go_at_call 20; refine (gOfBlock _ lb0 lb1 _).mono ?_; rintro e w' ⟨rfl, hb⟩))
  all_goals go_wp2
  all_goals go_ret
  all_goals exact ⟨rfl, by rename_i h; exact h.1⟩
end Go.Proofs.Ytodelndbbpgblaa
