/-
  The walk of the law of layer 1 that takes two things that fields have: it returns true, and writes nothing that was there.
-/
import Derived.Test.YtpmjkoaffbnedaaWalks2
namespace Go.Proofs.Ytpmjkoaffbnedaa
open Go.ChangeShapes Go.WideShapes Go.ChangeAt Go.RowKit
open Plain

/-- two Vals that lie in two blocks, while more blocks come -/
theorem held2_on {w : World} {b c : Nat} {k n l m : Int} {u v : World}
    (h : Below w.heap.size w u ∧ b < u.heap.size ∧ c < u.heap.size ∧ u.cell? ⟨b, 0, none⟩ = some (.int .i64 k) ∧ u.cell? ⟨b, 1, none⟩ = some (.int .i64 n) ∧ u.cell? ⟨c, 0, none⟩ = some (.int .i64 l) ∧ u.cell? ⟨c, 1, none⟩ = some (.int .i64 m)) (hb : Below u.heap.size u v) :
    Below w.heap.size w v ∧ b < v.heap.size ∧ c < v.heap.size ∧ v.cell? ⟨b, 0, none⟩ = some (.int .i64 k) ∧ v.cell? ⟨b, 1, none⟩ = some (.int .i64 n) ∧ v.cell? ⟨c, 0, none⟩ = some (.int .i64 l) ∧ v.cell? ⟨c, 1, none⟩ = some (.int .i64 m) :=
  ⟨h.1.trans (hb.mono h.1.size), Nat.lt_of_lt_of_le h.2.1 hb.size, Nat.lt_of_lt_of_le h.2.2.1 hb.size, (hb.cell h.2.1).trans h.2.2.2.1, (hb.cell h.2.1).trans h.2.2.2.2.1, (hb.cell h.2.2.1).trans h.2.2.2.2.2.1, (hb.cell h.2.2.1).trans h.2.2.2.2.2.2⟩

theorem cShown2 (k n l m : Int) (w : World) :
    Calls Try.prog 9 #[] ((w.alloc (.cells #[.int .i64 k, .int .i64 n] 23)).alloc (.cells #[.int .i64 l, .int .i64 m] 23)) fun e v => e = .returned (.bool true) ∧
      Below w.heap.size w v ∧ w.heap.size < v.heap.size ∧ w.heap.size + 1 < v.heap.size ∧ v.cell? ⟨w.heap.size, 0, none⟩ = some (.int .i64 k) ∧ v.cell? ⟨w.heap.size, 1, none⟩ = some (.int .i64 n) ∧ v.cell? ⟨w.heap.size + 1, 0, none⟩ = some (.int .i64 l) ∧ v.cell? ⟨w.heap.size + 1, 1, none⟩ = some (.int .i64 m) :=
  (cShown _).mono fun _ _ ⟨he, hb⟩ => ⟨he, held2_on ⟨bal (bal (Below.refl _ _) _) _, by simp; omega, by simp, by simp [go_sem], by simp [go_sem], by simp [go_sem], by simp [go_sem]⟩ hb⟩

theorem wApartOut0 (k n l m : Int) (g0 : k < 0) (w : World) :
    Calls Try.prog 8 #[.agg #[.int .i64 k, .int .i64 n], .agg #[.int .i64 l, .int .i64 m]] w fun e w' => e = .returned (.bool true) ∧ Below w.heap.size w w' := by
  go_enter Try.func8, Try.ntmps8
  go_wp2_with (go_at_call 9; refine (cShown2 _ _ _ _ w).mono ?_; rintro e w1 ⟨rfl, hH1, hH2, hH3, hH4, hH5, hH6, hH7⟩)
  go_ret
  exact ⟨rfl, hH1⟩

theorem wApartOut1 (k n l m : Int) (g0 : 0 ≤ k) (g1 : 3 < k) (w : World) :
    Calls Try.prog 8 #[.agg #[.int .i64 k, .int .i64 n], .agg #[.int .i64 l, .int .i64 m]] w fun e w' => e = .returned (.bool true) ∧ Below w.heap.size w w' := by
  go_enter Try.func8, Try.ntmps8
  go_wp2_with (go_at_call 9; refine (cShown2 _ _ _ _ w).mono ?_; rintro e w1 ⟨rfl, hH1, hH2, hH3, hH4, hH5, hH6, hH7⟩)
  go_ret
  exact ⟨rfl, hH1⟩

theorem wApartOut2 (k n l m : Int) (g0 : 0 ≤ k) (g1 : k ≤ 3) (g2 : n < 0) (w : World) :
    Calls Try.prog 8 #[.agg #[.int .i64 k, .int .i64 n], .agg #[.int .i64 l, .int .i64 m]] w fun e w' => e = .returned (.bool true) ∧ Below w.heap.size w w' := by
  go_enter Try.func8, Try.ntmps8
  go_wp2_with (go_at_call 9; refine (cShown2 _ _ _ _ w).mono ?_; rintro e w1 ⟨rfl, hH1, hH2, hH3, hH4, hH5, hH6, hH7⟩)
  go_ret
  exact ⟨rfl, hH1⟩

theorem wApartOut3 (k n l m : Int) (g0 : 0 ≤ k) (g1 : k ≤ 3) (g2 : 0 ≤ n) (g3 : 2305843009213693952 ≤ n) (w : World) :
    Calls Try.prog 8 #[.agg #[.int .i64 k, .int .i64 n], .agg #[.int .i64 l, .int .i64 m]] w fun e w' => e = .returned (.bool true) ∧ Below w.heap.size w w' := by
  go_enter Try.func8, Try.ntmps8
  go_wp2_with (go_at_call 9; refine (cShown2 _ _ _ _ w).mono ?_; rintro e w1 ⟨rfl, hH1, hH2, hH3, hH4, hH5, hH6, hH7⟩)
  go_ret
  exact ⟨rfl, hH1⟩

theorem wApartOut4 (k n l m : Int) (g0 : 0 ≤ k) (g1 : k ≤ 3) (g2 : 0 ≤ n) (g3 : n < 2305843009213693952) (g4 : l < 0) (w : World) :
    Calls Try.prog 8 #[.agg #[.int .i64 k, .int .i64 n], .agg #[.int .i64 l, .int .i64 m]] w fun e w' => e = .returned (.bool true) ∧ Below w.heap.size w w' := by
  go_enter Try.func8, Try.ntmps8
  go_wp2_with (go_at_call 9; refine (cShown2 _ _ _ _ w).mono ?_; rintro e w1 ⟨rfl, hH1, hH2, hH3, hH4, hH5, hH6, hH7⟩)
  go_ret
  exact ⟨rfl, hH1⟩

theorem wApartOut5 (k n l m : Int) (g0 : 0 ≤ k) (g1 : k ≤ 3) (g2 : 0 ≤ n) (g3 : n < 2305843009213693952) (g4 : 0 ≤ l) (g5 : 3 < l) (w : World) :
    Calls Try.prog 8 #[.agg #[.int .i64 k, .int .i64 n], .agg #[.int .i64 l, .int .i64 m]] w fun e w' => e = .returned (.bool true) ∧ Below w.heap.size w w' := by
  go_enter Try.func8, Try.ntmps8
  go_wp2_with (go_at_call 9; refine (cShown2 _ _ _ _ w).mono ?_; rintro e w1 ⟨rfl, hH1, hH2, hH3, hH4, hH5, hH6, hH7⟩)
  go_ret
  exact ⟨rfl, hH1⟩

theorem wApartOut6 (k n l m : Int) (g0 : 0 ≤ k) (g1 : k ≤ 3) (g2 : 0 ≤ n) (g3 : n < 2305843009213693952) (g4 : 0 ≤ l) (g5 : l ≤ 3) (g6 : m < 0) (w : World) :
    Calls Try.prog 8 #[.agg #[.int .i64 k, .int .i64 n], .agg #[.int .i64 l, .int .i64 m]] w fun e w' => e = .returned (.bool true) ∧ Below w.heap.size w w' := by
  go_enter Try.func8, Try.ntmps8
  go_wp2_with (go_at_call 9; refine (cShown2 _ _ _ _ w).mono ?_; rintro e w1 ⟨rfl, hH1, hH2, hH3, hH4, hH5, hH6, hH7⟩)
  go_ret
  exact ⟨rfl, hH1⟩

theorem wApartOut7 (k n l m : Int) (g0 : 0 ≤ k) (g1 : k ≤ 3) (g2 : 0 ≤ n) (g3 : n < 2305843009213693952) (g4 : 0 ≤ l) (g5 : l ≤ 3) (g6 : 0 ≤ m) (g7 : 2305843009213693952 ≤ m) (w : World) :
    Calls Try.prog 8 #[.agg #[.int .i64 k, .int .i64 n], .agg #[.int .i64 l, .int .i64 m]] w fun e w' => e = .returned (.bool true) ∧ Below w.heap.size w w' := by
  go_enter Try.func8, Try.ntmps8
  go_wp2_with (go_at_call 9; refine (cShown2 _ _ _ _ w).mono ?_; rintro e w1 ⟨rfl, hH1, hH2, hH3, hH4, hH5, hH6, hH7⟩)
  go_ret
  exact ⟨rfl, hH1⟩

theorem wApartSame (k n : Int) (g0 : 0 ≤ k) (g1 : k ≤ 3) (g2 : 0 ≤ n) (g3 : n < 2305843009213693952)  (w : World) :
    Calls Try.prog 8 #[.agg #[.int .i64 k, .int .i64 n], .agg #[.int .i64 k, .int .i64 n]] w fun e w' => e = .returned (.bool true) ∧ Below w.heap.size w w' := by
  go_enter Try.func8, Try.ntmps8
  go_wp2_with (go_at_call 9; refine (cShown2 _ _ _ _ w).mono ?_; rintro e w1 ⟨rfl, hH1, hH2, hH3, hH4, hH5, hH6, hH7⟩)
  have hD : Below w.heap.size w w1.drew ∧ w.heap.size < w1.drew.heap.size ∧ w.heap.size + 1 < w1.drew.heap.size ∧ w1.drew.cell? ⟨w.heap.size, 0, none⟩ = some (.int .i64 k) ∧ w1.drew.cell? ⟨w.heap.size, 1, none⟩ = some (.int .i64 n) ∧ w1.drew.cell? ⟨w.heap.size + 1, 0, none⟩ = some (.int .i64 k) ∧ w1.drew.cell? ⟨w.heap.size + 1, 1, none⟩ = some (.int .i64 n) := ⟨hH1.drew, hH2, hH3, hH4, hH5, hH6, hH7⟩
  go_region_held3 (fun w' => Below w.heap.size w w' ∧ w.heap.size < w'.heap.size ∧ w.heap.size + 1 < w'.heap.size ∧ w'.cell? ⟨w.heap.size, 0, none⟩ = some (.int .i64 k) ∧ w'.cell? ⟨w.heap.size, 1, none⟩ = some (.int .i64 n) ∧ w'.cell? ⟨w.heap.size + 1, 0, none⟩ = some (.int .i64 k) ∧ w'.cell? ⟨w.heap.size + 1, 1, none⟩ = some (.int .i64 n)) (first | assumption | exact ⟨hH1, hH2, hH3, hH4, hH5, hH6, hH7⟩ | exact held2_on (by assumption) (by assumption))
    (first
      | (go_at_call 10; refine (gWord _ _ _).mono ?_; rintro e w' ⟨rfl, hb⟩))
  all_goals go_wp2
  all_goals go_ret
  all_goals exact ⟨rfl, by rename_i h; exact h.1⟩

theorem wApartKinds (k n l m : Int) (g0 : 0 ≤ k) (g1 : k ≤ 3) (g2 : 0 ≤ n) (g3 : n < 2305843009213693952) (g4 : 0 ≤ l) (g5 : l ≤ 3) (g6 : 0 ≤ m) (g7 : m < 2305843009213693952) (e1 : (word k n == word l m) = false) (e2 : (k == l) = false) (w : World) :
    Calls Try.prog 8 #[.agg #[.int .i64 k, .int .i64 n], .agg #[.int .i64 l, .int .i64 m]] w fun e w' => e = .returned (.bool true) ∧ Below w.heap.size w w' := by
  go_enter Try.func8, Try.ntmps8
  go_wp2_with (go_at_call 9; refine (cShown2 _ _ _ _ w).mono ?_; rintro e w1 ⟨rfl, hH1, hH2, hH3, hH4, hH5, hH6, hH7⟩)
  have hD : Below w.heap.size w w1.drew ∧ w.heap.size < w1.drew.heap.size ∧ w.heap.size + 1 < w1.drew.heap.size ∧ w1.drew.cell? ⟨w.heap.size, 0, none⟩ = some (.int .i64 k) ∧ w1.drew.cell? ⟨w.heap.size, 1, none⟩ = some (.int .i64 n) ∧ w1.drew.cell? ⟨w.heap.size + 1, 0, none⟩ = some (.int .i64 l) ∧ w1.drew.cell? ⟨w.heap.size + 1, 1, none⟩ = some (.int .i64 m) := ⟨hH1.drew, hH2, hH3, hH4, hH5, hH6, hH7⟩
  go_region_held3 (fun w' => Below w.heap.size w w' ∧ w.heap.size < w'.heap.size ∧ w.heap.size + 1 < w'.heap.size ∧ w'.cell? ⟨w.heap.size, 0, none⟩ = some (.int .i64 k) ∧ w'.cell? ⟨w.heap.size, 1, none⟩ = some (.int .i64 n) ∧ w'.cell? ⟨w.heap.size + 1, 0, none⟩ = some (.int .i64 l) ∧ w'.cell? ⟨w.heap.size + 1, 1, none⟩ = some (.int .i64 m)) (first | assumption | exact ⟨hH1, hH2, hH3, hH4, hH5, hH6, hH7⟩ | exact held2_on (by assumption) (by assumption))
    (first
      | (go_at_call 10; refine (gWord _ _ _).mono ?_; rintro e w' ⟨rfl, hb⟩))
  all_goals go_wp2
  all_goals go_ret
  all_goals exact ⟨rfl, by rename_i h; exact h.1⟩

theorem wApartNums (k n m : Int) (g0 : 0 ≤ k) (g1 : k ≤ 3) (g2 : 0 ≤ n) (g3 : n < 2305843009213693952) (g4 : 0 ≤ m) (g5 : m < 2305843009213693952) (e1 : (word k n == word k m) = false) (e2 : (n == m) = false) (w : World) :
    Calls Try.prog 8 #[.agg #[.int .i64 k, .int .i64 n], .agg #[.int .i64 k, .int .i64 m]] w fun e w' => e = .returned (.bool true) ∧ Below w.heap.size w w' := by
  go_enter Try.func8, Try.ntmps8
  go_wp2_with (go_at_call 9; refine (cShown2 _ _ _ _ w).mono ?_; rintro e w1 ⟨rfl, hH1, hH2, hH3, hH4, hH5, hH6, hH7⟩)
  have hD : Below w.heap.size w w1.drew ∧ w.heap.size < w1.drew.heap.size ∧ w.heap.size + 1 < w1.drew.heap.size ∧ w1.drew.cell? ⟨w.heap.size, 0, none⟩ = some (.int .i64 k) ∧ w1.drew.cell? ⟨w.heap.size, 1, none⟩ = some (.int .i64 n) ∧ w1.drew.cell? ⟨w.heap.size + 1, 0, none⟩ = some (.int .i64 k) ∧ w1.drew.cell? ⟨w.heap.size + 1, 1, none⟩ = some (.int .i64 m) := ⟨hH1.drew, hH2, hH3, hH4, hH5, hH6, hH7⟩
  go_region_held3 (fun w' => Below w.heap.size w w' ∧ w.heap.size < w'.heap.size ∧ w.heap.size + 1 < w'.heap.size ∧ w'.cell? ⟨w.heap.size, 0, none⟩ = some (.int .i64 k) ∧ w'.cell? ⟨w.heap.size, 1, none⟩ = some (.int .i64 n) ∧ w'.cell? ⟨w.heap.size + 1, 0, none⟩ = some (.int .i64 k) ∧ w'.cell? ⟨w.heap.size + 1, 1, none⟩ = some (.int .i64 m)) (first | assumption | exact ⟨hH1, hH2, hH3, hH4, hH5, hH6, hH7⟩ | exact held2_on (by assumption) (by assumption))
    (first
      | (go_at_call 10; refine (gWord _ _ _).mono ?_; rintro e w' ⟨rfl, hb⟩))
  all_goals go_wp2
  all_goals go_ret
  all_goals exact ⟨rfl, by rename_i h; exact h.1⟩

end Go.Proofs.Ytpmjkoaffbnedaa
