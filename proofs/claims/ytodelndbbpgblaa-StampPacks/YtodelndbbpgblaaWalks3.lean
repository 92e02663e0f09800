/-
  The walk of the law on packing: it returns true, and writes nothing that was there.
-/
import Derived.Test.YtodelndbbpgblaaWalks0
import Derived.Test.YtodelndbbpgblaaRefs
namespace Go.Proofs.Ytodelndbbpgblaa
open Go.ChangeShapes Go.WideShapes Go.ChangeAt Go.RowKit
open Plain

theorem wPacks (ta tv pn pm pk pl cs cc ct cn : Int) (w : World) :
    Calls Try.prog 3 #[.agg #[.int .i64 ta, .int .i64 tv], .agg #[.int .i64 pn, .int .i64 pm, .int .i64 pk, .int .i64 pl], .agg #[.int .i64 cs, .int .i64 cc, .int .i64 ct, .int .i64 cn]] w fun e w' => e = .returned (.bool true) ∧ Below w.heap.size w w' := by
  go_enter Try.func3, Try.ntmps3
  go_wp2_with (go_at_call 9; refine (cShown3 _ _ _ _ _ _ _ _ _ _ w).mono ?_; rintro e w1 ⟨rfl, hH0, hH1, hH2, hH3, hH4, hH5, hH6, hH7, hH8, hH9, hH10, hH11, hH12, hH13⟩)
  have hD : Below w.heap.size w w1.drew ∧ w.heap.size < w1.drew.heap.size ∧ w.heap.size + 1 < w1.drew.heap.size ∧ w.heap.size + 1 + 1 < w1.drew.heap.size ∧ w1.drew.cell? ⟨w.heap.size, 0, none⟩ = some (.int .i64 ta) ∧ w1.drew.cell? ⟨w.heap.size, 1, none⟩ = some (.int .i64 tv) ∧ w1.drew.cell? ⟨w.heap.size + 1, 0, none⟩ = some (.int .i64 pn) ∧ w1.drew.cell? ⟨w.heap.size + 1, 1, none⟩ = some (.int .i64 pm) ∧ w1.drew.cell? ⟨w.heap.size + 1, 2, none⟩ = some (.int .i64 pk) ∧ w1.drew.cell? ⟨w.heap.size + 1, 3, none⟩ = some (.int .i64 pl) ∧ w1.drew.cell? ⟨w.heap.size + 1 + 1, 0, none⟩ = some (.int .i64 cs) ∧ w1.drew.cell? ⟨w.heap.size + 1 + 1, 1, none⟩ = some (.int .i64 cc) ∧ w1.drew.cell? ⟨w.heap.size + 1 + 1, 2, none⟩ = some (.int .i64 ct) ∧ w1.drew.cell? ⟨w.heap.size + 1 + 1, 3, none⟩ = some (.int .i64 cn) := ⟨hH0.drew, hH1, hH2, hH3, hH4, hH5, hH6, hH7, hH8, hH9, hH10, hH11, hH12, hH13⟩
  go_region_held3 (fun w' => Below w.heap.size w w' ∧ w.heap.size < w'.heap.size ∧ w.heap.size + 1 < w'.heap.size ∧ w.heap.size + 1 + 1 < w'.heap.size ∧ w'.cell? ⟨w.heap.size, 0, none⟩ = some (.int .i64 ta) ∧ w'.cell? ⟨w.heap.size, 1, none⟩ = some (.int .i64 tv) ∧ w'.cell? ⟨w.heap.size + 1, 0, none⟩ = some (.int .i64 pn) ∧ w'.cell? ⟨w.heap.size + 1, 1, none⟩ = some (.int .i64 pm) ∧ w'.cell? ⟨w.heap.size + 1, 2, none⟩ = some (.int .i64 pk) ∧ w'.cell? ⟨w.heap.size + 1, 3, none⟩ = some (.int .i64 pl) ∧ w'.cell? ⟨w.heap.size + 1 + 1, 0, none⟩ = some (.int .i64 cs) ∧ w'.cell? ⟨w.heap.size + 1 + 1, 1, none⟩ = some (.int .i64 cc) ∧ w'.cell? ⟨w.heap.size + 1 + 1, 2, none⟩ = some (.int .i64 ct) ∧ w'.cell? ⟨w.heap.size + 1 + 1, 3, none⟩ = some (.int .i64 cn)) (first | assumption | exact ⟨hH0, hH1, hH2, hH3, hH4, hH5, hH6, hH7, hH8, hH9, hH10, hH11, hH12, hH13⟩ | exact held_on (by assumption) (by assumption))
    (first
      | (go_at_call 10; refine (gTop _ _ _).mono ?_; rintro e w' ⟨rfl, hb⟩)
      | (go_at_call 12; refine (gPhase _ _ _ _ _).mono ?_; rintro e w' ⟨rfl, hb⟩)
      | (go_at_call 14; refine (gBlock _ _ _ _ _).mono ?_; rintro e w' ⟨rfl, hb⟩)
      | (go_at_call 11; refine (hTop _ _ _).mono ?_; rintro e w' ⟨rfl, hb⟩)
      | (go_at_call 13; refine (hPhase _ _ _ _ _).mono ?_; rintro e w' ⟨rfl, hb⟩)
      | (go_at_call 15; refine (hBlock _ _ _ _ _).mono ?_; rintro e w' ⟨rfl, hb⟩))
  all_goals go_wp2
  all_goals go_ret
  all_goals exact ⟨rfl, by rename_i h; exact h.1⟩
end Go.Proofs.Ytodelndbbpgblaa
