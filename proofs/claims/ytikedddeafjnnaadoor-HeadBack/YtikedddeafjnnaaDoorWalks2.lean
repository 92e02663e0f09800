/-
  The walk of the law that a header that was packed is read as it was.
-/
import Derived.Test.YtikedddeafjnnaaDoorWalks0
import Derived.Test.YtikedddeafjnnaaDoorGood
import Derived.Deep.RegionHeld3
namespace Go.Proofs.YtikedddeafjnnaaDoor
open Go.ChangeShapes Go.WideShapes Go.ChangeAt Go.RowKit
open Plain

theorem wBackIn (s c n m g t l : Int) (q : gd s c n m g t l = true) (w : World) (W : Wid w) :
    Calls Tryd.prog 5 #[.agg #[.int .i64 s, .int .i64 c, .int .i64 n, .int .i64 m, .int .i64 g, .int .i64 t, .int .i64 l]] w fun e w' => e = .returned (.bool true) ∧ Below w.heap.size w w' := by
  have b0 : 0 ≤ hw s c n m g t l := by unfold hw; omega
  have b1 : hw s c n m g t l ≤ 18446744073709551615 := by unfold hw; omega
  have e0 : pS (hw s c n m g t l) = s := by have := gd_of q; unfold hw pS; omega
  have e1 : pC (hw s c n m g t l) = c := by have := gd_of q; unfold hw pC; omega
  have e2 : pN (hw s c n m g t l) = n := by have := gd_of q; unfold hw pN; omega
  have e3 : pM (hw s c n m g t l) = m := by have := gd_of q; unfold hw pM; omega
  have e4 : pG (hw s c n m g t l) = g := by have := gd_of q; unfold hw pG; omega
  have e5 : pT (hw s c n m g t l) = t := by have := gd_of q; unfold hw pT; omega
  have e6 : pL (hw s c n m g t l) = l := by have := gd_of q; unfold hw pL; omega
  go_enter Tryd.func5, Tryd.ntmps5
  go_wp2_with (first
    | (go_at_call 9; refine (cShown1 _ _ _ _ _ _ _ w W).mono ?_; rintro e w1 ⟨rfl, hH0, hH1, hH2, hH3, hH4, hH5, hH6, hH7, hH8⟩)
    | (go_at_call 16; refine (cGood _ _ _ _ _ _ _ _).mono ?_; rintro e w2 ⟨rfl, rfl⟩))
  have hK := held_on (v := (w1.alloc (.cells #[.int .i64 s, .int .i64 c, .int .i64 n, .int .i64 m, .int .i64 g, .int .i64 t, .int .i64 l] 23)).drew) ⟨hH0, hH1, hH2, hH3, hH4, hH5, hH6, hH7, hH8⟩ (bal (Below.refl _ _) _).drew
  go_region_held3 (fun w' => Below w.heap.size w w' ∧ w.heap.size < w'.heap.size ∧ w'.cell? ⟨w.heap.size, 0, none⟩ = some (.int .i64 s) ∧ w'.cell? ⟨w.heap.size, 1, none⟩ = some (.int .i64 c) ∧ w'.cell? ⟨w.heap.size, 2, none⟩ = some (.int .i64 n) ∧ w'.cell? ⟨w.heap.size, 3, none⟩ = some (.int .i64 m) ∧ w'.cell? ⟨w.heap.size, 4, none⟩ = some (.int .i64 g) ∧ w'.cell? ⟨w.heap.size, 5, none⟩ = some (.int .i64 t) ∧ w'.cell? ⟨w.heap.size, 6, none⟩ = some (.int .i64 l)) (first | assumption | exact held_on (by assumption) (by assumption))
    (first
      | (go_at_call 10; refine (gWord _ _ _ _ _ _ _ _ (W.on (by first | assumption | (rename_i h; exact h.1) | (go_split_ands; assumption)))).mono ?_; rintro e w' ⟨rfl, hb⟩)
      | (go_at_call 12; refine (gOf _ b0 b1 _ (W.on (by first | assumption | (rename_i h; exact h.1) | (go_split_ands; assumption)))).mono ?_; rintro e w' ⟨rfl, hb⟩))
  all_goals go_wp2
  all_goals go_ret
  all_goals exact ⟨rfl, by rename_i h; exact h.1⟩

theorem wBackOut (s c n m g t l : Int) (q : gd s c n m g t l = false) (w : World) (W : Wid w) :
    Calls Tryd.prog 5 #[.agg #[.int .i64 s, .int .i64 c, .int .i64 n, .int .i64 m, .int .i64 g, .int .i64 t, .int .i64 l]] w fun e w' => e = .returned (.bool true) ∧ Below w.heap.size w w' := by
  go_enter Tryd.func5, Tryd.ntmps5
  go_wp2_with (first
    | (go_at_call 9; refine (cShown1 _ _ _ _ _ _ _ w W).mono ?_; rintro e w1 ⟨rfl, hH0, hH1, hH2, hH3, hH4, hH5, hH6, hH7, hH8⟩)
    | (go_at_call 16; refine (cGood _ _ _ _ _ _ _ _).mono ?_; rintro e w2 ⟨rfl, rfl⟩))
  go_quiet (fail)
  go_wp2
  go_ret
  exact ⟨rfl, bdr (bal hH0 _) _⟩

theorem wBack (s c n m g t l : Int) (w : World) (W : Wid w) :
    Calls Tryd.prog 5 #[.agg #[.int .i64 s, .int .i64 c, .int .i64 n, .int .i64 m, .int .i64 g, .int .i64 t, .int .i64 l]] w fun e w' => e = .returned (.bool true) ∧ Below w.heap.size w w' := by
  cases q : gd s c n m g t l
  · exact wBackOut s c n m g t l q w W
  · exact wBackIn s c n m g t l q w W
end Go.Proofs.YtikedddeafjnnaaDoor
