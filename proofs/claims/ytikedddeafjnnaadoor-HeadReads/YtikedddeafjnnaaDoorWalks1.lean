/-
  The walks of the laws of layer 2: each returns true, and writes nothing that was there.
-/
import Derived.Test.YtikedddeafjnnaaDoorWalks0
import Derived.Test.YtikedddeafjnnaaDoorRefs
import Derived.Deep.RegionHeld3
namespace Go.Proofs.YtikedddeafjnnaaDoor
open Go.ChangeShapes Go.WideShapes Go.ChangeAt Go.RowKit
open Plain

theorem hWord (s c n m g t l : Int) (w : World) :
    Calls Tryd.prog 11 #[.agg #[.int .i64 s, .int .i64 c, .int .i64 n, .int .i64 m, .int .i64 g, .int .i64 t, .int .i64 l]] w fun e w' => e = .returned (.int .u64 (hw s c n m g t l)) ∧ Below w.heap.size w w' :=
  (rWord s c n m g t l w).mono fun _ _ ⟨he, hw⟩ => ⟨he, hw ▸ bal (Below.refl _ _) _⟩

theorem wPacks (s c n m g t l : Int) (w : World) (W : Wid w) :
    Calls Tryd.prog 3 #[.agg #[.int .i64 s, .int .i64 c, .int .i64 n, .int .i64 m, .int .i64 g, .int .i64 t, .int .i64 l]] w fun e w' => e = .returned (.bool true) ∧ Below w.heap.size w w' := by
  go_enter Tryd.func3, Tryd.ntmps3
  go_wp2_with (go_at_call 9; refine (cShown1 _ _ _ _ _ _ _ w W).mono ?_; rintro e w1 ⟨rfl, hH0, hH1, hH2, hH3, hH4, hH5, hH6, hH7, hH8⟩)
  have hD : Below w.heap.size w w1.drew ∧ w.heap.size < w1.drew.heap.size ∧ w1.drew.cell? ⟨w.heap.size, 0, none⟩ = some (.int .i64 s) ∧ w1.drew.cell? ⟨w.heap.size, 1, none⟩ = some (.int .i64 c) ∧ w1.drew.cell? ⟨w.heap.size, 2, none⟩ = some (.int .i64 n) ∧ w1.drew.cell? ⟨w.heap.size, 3, none⟩ = some (.int .i64 m) ∧ w1.drew.cell? ⟨w.heap.size, 4, none⟩ = some (.int .i64 g) ∧ w1.drew.cell? ⟨w.heap.size, 5, none⟩ = some (.int .i64 t) ∧ w1.drew.cell? ⟨w.heap.size, 6, none⟩ = some (.int .i64 l) := ⟨hH0.drew, hH1, hH2, hH3, hH4, hH5, hH6, hH7, hH8⟩
  go_region_held3 (fun w' => Below w.heap.size w w' ∧ w.heap.size < w'.heap.size ∧ w'.cell? ⟨w.heap.size, 0, none⟩ = some (.int .i64 s) ∧ w'.cell? ⟨w.heap.size, 1, none⟩ = some (.int .i64 c) ∧ w'.cell? ⟨w.heap.size, 2, none⟩ = some (.int .i64 n) ∧ w'.cell? ⟨w.heap.size, 3, none⟩ = some (.int .i64 m) ∧ w'.cell? ⟨w.heap.size, 4, none⟩ = some (.int .i64 g) ∧ w'.cell? ⟨w.heap.size, 5, none⟩ = some (.int .i64 t) ∧ w'.cell? ⟨w.heap.size, 6, none⟩ = some (.int .i64 l)) (first | assumption | exact ⟨hH0, hH1, hH2, hH3, hH4, hH5, hH6, hH7, hH8⟩ | exact held_on (by assumption) (by assumption))
    (first
      | (go_at_call 10; refine (gWord _ _ _ _ _ _ _ _ (W.on (by first | assumption | (rename_i h; exact h.1) | (go_split_ands; assumption)))).mono ?_; rintro e w' ⟨rfl, hb⟩)
      | (go_at_call 11; refine (hWord _ _ _ _ _ _ _ _).mono ?_; rintro e w' ⟨rfl, hb⟩))
  all_goals go_wp2
  all_goals go_ret
  all_goals exact ⟨rfl, by rename_i h; exact h.1⟩

theorem wReads (a x : Int) (h : 0 ≤ a) (h' : a ≤ 18446744073709551615) (w : World) (W : Wid w) :
    Calls Tryd.prog 4 #[.int .u64 a, .int .i64 x] w fun e w' => e = .returned (.bool true) ∧ Below w.heap.size w w' := by
  go_enter Tryd.func4, Tryd.ntmps4
  go_wp2_with (first
    | (go_at_call 9; refine (cShown _ W).mono ?_; rintro e w1 ⟨rfl, hb⟩; have hs := hb.size)
    | (go_at_call 12; refine (cOf a h h' _ (W.on (by go_grown))).mono ?_; rintro e w2 ⟨rfl, rfl⟩)
    | (go_at_call 13; refine (rOf a h h' _).mono ?_; rintro e w2 ⟨rfl, rfl⟩)
    | (go_at_call 14; refine (cMoved a x h h' _ (W.on (by go_grown))).mono ?_; rintro e w2 ⟨rfl, rfl⟩)
    | (go_at_call 15; refine (rMoved a x h h' _).mono ?_; rintro e w2 ⟨rfl, rfl⟩))
  go_ret
  exact ⟨rfl, by go_grown⟩
end Go.Proofs.YtikedddeafjnnaaDoor
