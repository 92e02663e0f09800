/-
  The walk of the law on two headers whose numbers their bits hold: it returns true, and writes nothing that was there.
-/
import Derived.Test.YtikedddeafjnnaaDoorWalks0
import Derived.Test.YtikedddeafjnnaaDoorGood
import Derived.Deep.RegionHeld3
namespace Go.Proofs.YtikedddeafjnnaaDoor
open Go.ChangeShapes Go.WideShapes Go.ChangeAt Go.RowKit
open Plain

/-- two headers that lie in two blocks, while more blocks come -/
theorem held2_on {w : World} {b d : Nat} {s c n m g t l s' c' n' m' g' t' l' : Int} {u v : World} (h : Below w.heap.size w u ∧ b < u.heap.size ∧ d < u.heap.size ∧ u.cell? ⟨b, 0, none⟩ = some (.int .i64 s) ∧ u.cell? ⟨b, 1, none⟩ = some (.int .i64 c) ∧ u.cell? ⟨b, 2, none⟩ = some (.int .i64 n) ∧ u.cell? ⟨b, 3, none⟩ = some (.int .i64 m) ∧ u.cell? ⟨b, 4, none⟩ = some (.int .i64 g) ∧ u.cell? ⟨b, 5, none⟩ = some (.int .i64 t) ∧ u.cell? ⟨b, 6, none⟩ = some (.int .i64 l) ∧ u.cell? ⟨d, 0, none⟩ = some (.int .i64 s') ∧ u.cell? ⟨d, 1, none⟩ = some (.int .i64 c') ∧ u.cell? ⟨d, 2, none⟩ = some (.int .i64 n') ∧ u.cell? ⟨d, 3, none⟩ = some (.int .i64 m') ∧ u.cell? ⟨d, 4, none⟩ = some (.int .i64 g') ∧ u.cell? ⟨d, 5, none⟩ = some (.int .i64 t') ∧ u.cell? ⟨d, 6, none⟩ = some (.int .i64 l')) (hb : Below u.heap.size u v) :
    Below w.heap.size w v ∧ b < v.heap.size ∧ d < v.heap.size ∧ v.cell? ⟨b, 0, none⟩ = some (.int .i64 s) ∧ v.cell? ⟨b, 1, none⟩ = some (.int .i64 c) ∧ v.cell? ⟨b, 2, none⟩ = some (.int .i64 n) ∧ v.cell? ⟨b, 3, none⟩ = some (.int .i64 m) ∧ v.cell? ⟨b, 4, none⟩ = some (.int .i64 g) ∧ v.cell? ⟨b, 5, none⟩ = some (.int .i64 t) ∧ v.cell? ⟨b, 6, none⟩ = some (.int .i64 l) ∧ v.cell? ⟨d, 0, none⟩ = some (.int .i64 s') ∧ v.cell? ⟨d, 1, none⟩ = some (.int .i64 c') ∧ v.cell? ⟨d, 2, none⟩ = some (.int .i64 n') ∧ v.cell? ⟨d, 3, none⟩ = some (.int .i64 m') ∧ v.cell? ⟨d, 4, none⟩ = some (.int .i64 g') ∧ v.cell? ⟨d, 5, none⟩ = some (.int .i64 t') ∧ v.cell? ⟨d, 6, none⟩ = some (.int .i64 l') := by
  obtain ⟨h0, h1, h2, a0, a1, a2, a3, a4, a5, a6, a7, a8, a9, a10, a11, a12, a13⟩ := h
  exact ⟨h0.trans (hb.mono h0.size), Nat.lt_of_lt_of_le h1 hb.size, Nat.lt_of_lt_of_le h2 hb.size, (hb.cell h1).trans a0, (hb.cell h1).trans a1, (hb.cell h1).trans a2, (hb.cell h1).trans a3, (hb.cell h1).trans a4, (hb.cell h1).trans a5, (hb.cell h1).trans a6, (hb.cell h2).trans a7, (hb.cell h2).trans a8, (hb.cell h2).trans a9, (hb.cell h2).trans a10, (hb.cell h2).trans a11, (hb.cell h2).trans a12, (hb.cell h2).trans a13⟩

/-- the examples, behind two headers' own blocks -/
theorem cShown2 (s c n m g t l s' c' n' m' g' t' l' : Int) (w : World) (W : Wid w) :
    Calls Tryd.prog 9 #[] ((w.alloc (.cells #[.int .i64 s, .int .i64 c, .int .i64 n, .int .i64 m, .int .i64 g, .int .i64 t, .int .i64 l] 23)).alloc (.cells #[.int .i64 s', .int .i64 c', .int .i64 n', .int .i64 m', .int .i64 g', .int .i64 t', .int .i64 l'] 23)) fun e v => e = .returned (.bool true) ∧ Below w.heap.size w v ∧ w.heap.size < v.heap.size ∧ w.heap.size + 1 < v.heap.size ∧ v.cell? ⟨w.heap.size, 0, none⟩ = some (.int .i64 s) ∧ v.cell? ⟨w.heap.size, 1, none⟩ = some (.int .i64 c) ∧ v.cell? ⟨w.heap.size, 2, none⟩ = some (.int .i64 n) ∧ v.cell? ⟨w.heap.size, 3, none⟩ = some (.int .i64 m) ∧ v.cell? ⟨w.heap.size, 4, none⟩ = some (.int .i64 g) ∧ v.cell? ⟨w.heap.size, 5, none⟩ = some (.int .i64 t) ∧ v.cell? ⟨w.heap.size, 6, none⟩ = some (.int .i64 l) ∧ v.cell? ⟨w.heap.size + 1, 0, none⟩ = some (.int .i64 s') ∧ v.cell? ⟨w.heap.size + 1, 1, none⟩ = some (.int .i64 c') ∧ v.cell? ⟨w.heap.size + 1, 2, none⟩ = some (.int .i64 n') ∧ v.cell? ⟨w.heap.size + 1, 3, none⟩ = some (.int .i64 m') ∧ v.cell? ⟨w.heap.size + 1, 4, none⟩ = some (.int .i64 g') ∧ v.cell? ⟨w.heap.size + 1, 5, none⟩ = some (.int .i64 t') ∧ v.cell? ⟨w.heap.size + 1, 6, none⟩ = some (.int .i64 l') :=
  (cShown _ (W.on (bal (bal (Below.refl _ _) _) _))).mono fun _ _ ⟨he, hb⟩ => ⟨he, held2_on ⟨bal (bal (Below.refl _ _) _) _, by simp; omega, by simp, by simp [go_sem], by simp [go_sem], by simp [go_sem], by simp [go_sem], by simp [go_sem], by simp [go_sem], by simp [go_sem], by simp [go_sem], by simp [go_sem], by simp [go_sem], by simp [go_sem], by simp [go_sem], by simp [go_sem], by simp [go_sem]⟩ hb⟩

theorem wApartOutA (s c n m g t l s' c' n' m' g' t' l' : Int) (q : gd s c n m g t l = false) (w : World) (W : Wid w) :
    Calls Tryd.prog 6 #[.agg #[.int .i64 s, .int .i64 c, .int .i64 n, .int .i64 m, .int .i64 g, .int .i64 t, .int .i64 l], .agg #[.int .i64 s', .int .i64 c', .int .i64 n', .int .i64 m', .int .i64 g', .int .i64 t', .int .i64 l']] w fun e w' => e = .returned (.bool true) ∧ Below w.heap.size w w' := by
  go_enter Tryd.func6, Tryd.ntmps6
  go_wp2_with (first | (go_at_call 9; refine (cShown2 _ _ _ _ _ _ _ _ _ _ _ _ _ _ w W).mono ?_; rintro e w1 ⟨rfl, hH0, hH1, hH2, hH3, hH4, hH5, hH6, hH7, hH8, hH9, hH10, hH11, hH12, hH13, hH14, hH15, hH16⟩) | (go_at_call 16; refine (cGood _ _ _ _ _ _ _ _).mono ?_; rintro e w2 ⟨rfl, rfl⟩))
  all_goals go_quiet (fail)
  all_goals go_wp2
  all_goals go_ret
  all_goals exact ⟨rfl, bdr (bal (bal hH0 _) _) _⟩

theorem wApartOutB (s c n m g t l s' c' n' m' g' t' l' : Int) (q : gd s c n m g t l = true) (q' : gd s' c' n' m' g' t' l' = false) (w : World) (W : Wid w) :
    Calls Tryd.prog 6 #[.agg #[.int .i64 s, .int .i64 c, .int .i64 n, .int .i64 m, .int .i64 g, .int .i64 t, .int .i64 l], .agg #[.int .i64 s', .int .i64 c', .int .i64 n', .int .i64 m', .int .i64 g', .int .i64 t', .int .i64 l']] w fun e w' => e = .returned (.bool true) ∧ Below w.heap.size w w' := by
  go_enter Tryd.func6, Tryd.ntmps6
  go_wp2_with (first | (go_at_call 9; refine (cShown2 _ _ _ _ _ _ _ _ _ _ _ _ _ _ w W).mono ?_; rintro e w1 ⟨rfl, hH0, hH1, hH2, hH3, hH4, hH5, hH6, hH7, hH8, hH9, hH10, hH11, hH12, hH13, hH14, hH15, hH16⟩) | (go_at_call 16; refine (cGood _ _ _ _ _ _ _ _).mono ?_; rintro e w2 ⟨rfl, rfl⟩))
  all_goals go_quiet (fail)
  all_goals go_wp2
  all_goals go_ret
  all_goals exact ⟨rfl, bdr (bal (bal hH0 _) _) _⟩

theorem wApartSame (s c n m g t l : Int) (q : gd s c n m g t l = true)  (w : World) (W : Wid w) :
    Calls Tryd.prog 6 #[.agg #[.int .i64 s, .int .i64 c, .int .i64 n, .int .i64 m, .int .i64 g, .int .i64 t, .int .i64 l], .agg #[.int .i64 s, .int .i64 c, .int .i64 n, .int .i64 m, .int .i64 g, .int .i64 t, .int .i64 l]] w fun e w' => e = .returned (.bool true) ∧ Below w.heap.size w w' := by
  go_enter Tryd.func6, Tryd.ntmps6
  go_wp2_with (first | (go_at_call 9; refine (cShown2 _ _ _ _ _ _ _ _ _ _ _ _ _ _ w W).mono ?_; rintro e w1 ⟨rfl, hH0, hH1, hH2, hH3, hH4, hH5, hH6, hH7, hH8, hH9, hH10, hH11, hH12, hH13, hH14, hH15, hH16⟩) | (go_at_call 16; refine (cGood _ _ _ _ _ _ _ _).mono ?_; rintro e w2 ⟨rfl, rfl⟩))
  have hK := held2_on (v := ((w1.alloc (.cells #[.int .i64 s, .int .i64 c, .int .i64 n, .int .i64 m, .int .i64 g, .int .i64 t, .int .i64 l] 23)).alloc (.cells #[.int .i64 s, .int .i64 c, .int .i64 n, .int .i64 m, .int .i64 g, .int .i64 t, .int .i64 l] 23)).drew) ⟨hH0, hH1, hH2, hH3, hH4, hH5, hH6, hH7, hH8, hH9, hH10, hH11, hH12, hH13, hH14, hH15, hH16⟩ (bal (bal (Below.refl _ _) _) _).drew
  go_region_held3 (fun w' => Below w.heap.size w w' ∧ w.heap.size < w'.heap.size ∧ w.heap.size + 1 < w'.heap.size ∧ w'.cell? ⟨w.heap.size, 0, none⟩ = some (.int .i64 s) ∧ w'.cell? ⟨w.heap.size, 1, none⟩ = some (.int .i64 c) ∧ w'.cell? ⟨w.heap.size, 2, none⟩ = some (.int .i64 n) ∧ w'.cell? ⟨w.heap.size, 3, none⟩ = some (.int .i64 m) ∧ w'.cell? ⟨w.heap.size, 4, none⟩ = some (.int .i64 g) ∧ w'.cell? ⟨w.heap.size, 5, none⟩ = some (.int .i64 t) ∧ w'.cell? ⟨w.heap.size, 6, none⟩ = some (.int .i64 l) ∧ w'.cell? ⟨w.heap.size + 1, 0, none⟩ = some (.int .i64 s) ∧ w'.cell? ⟨w.heap.size + 1, 1, none⟩ = some (.int .i64 c) ∧ w'.cell? ⟨w.heap.size + 1, 2, none⟩ = some (.int .i64 n) ∧ w'.cell? ⟨w.heap.size + 1, 3, none⟩ = some (.int .i64 m) ∧ w'.cell? ⟨w.heap.size + 1, 4, none⟩ = some (.int .i64 g) ∧ w'.cell? ⟨w.heap.size + 1, 5, none⟩ = some (.int .i64 t) ∧ w'.cell? ⟨w.heap.size + 1, 6, none⟩ = some (.int .i64 l)) (first | assumption | exact held2_on (by assumption) (by assumption))
    (first
      | (go_at_call 10; refine (gWord _ _ _ _ _ _ _ _ (W.on (by first | assumption | (rename_i h; exact h.1) | (go_split_ands; assumption)))).mono ?_; rintro e w' ⟨rfl, hb⟩))
  all_goals go_wp2
  all_goals go_ret
  all_goals exact ⟨rfl, by rename_i h; exact h.1⟩

theorem wApartD0 (s c n m g t l s' c' n' m' g' t' l' : Int) (q : gd s c n m g t l = true) (q' : gd s' c' n' m' g' t' l' = true) (e1 : (hw s c n m g t l == hw s' c' n' m' g' t' l') = false) (e2 : (s == s') = false) (w : World) (W : Wid w) :
    Calls Tryd.prog 6 #[.agg #[.int .i64 s, .int .i64 c, .int .i64 n, .int .i64 m, .int .i64 g, .int .i64 t, .int .i64 l], .agg #[.int .i64 s', .int .i64 c', .int .i64 n', .int .i64 m', .int .i64 g', .int .i64 t', .int .i64 l']] w fun e w' => e = .returned (.bool true) ∧ Below w.heap.size w w' := by
  go_enter Tryd.func6, Tryd.ntmps6
  go_wp2_with (first | (go_at_call 9; refine (cShown2 _ _ _ _ _ _ _ _ _ _ _ _ _ _ w W).mono ?_; rintro e w1 ⟨rfl, hH0, hH1, hH2, hH3, hH4, hH5, hH6, hH7, hH8, hH9, hH10, hH11, hH12, hH13, hH14, hH15, hH16⟩) | (go_at_call 16; refine (cGood _ _ _ _ _ _ _ _).mono ?_; rintro e w2 ⟨rfl, rfl⟩))
  have hK := held2_on (v := ((w1.alloc (.cells #[.int .i64 s, .int .i64 c, .int .i64 n, .int .i64 m, .int .i64 g, .int .i64 t, .int .i64 l] 23)).alloc (.cells #[.int .i64 s', .int .i64 c', .int .i64 n', .int .i64 m', .int .i64 g', .int .i64 t', .int .i64 l'] 23)).drew) ⟨hH0, hH1, hH2, hH3, hH4, hH5, hH6, hH7, hH8, hH9, hH10, hH11, hH12, hH13, hH14, hH15, hH16⟩ (bal (bal (Below.refl _ _) _) _).drew
  go_region_held3 (fun w' => Below w.heap.size w w' ∧ w.heap.size < w'.heap.size ∧ w.heap.size + 1 < w'.heap.size ∧ w'.cell? ⟨w.heap.size, 0, none⟩ = some (.int .i64 s) ∧ w'.cell? ⟨w.heap.size, 1, none⟩ = some (.int .i64 c) ∧ w'.cell? ⟨w.heap.size, 2, none⟩ = some (.int .i64 n) ∧ w'.cell? ⟨w.heap.size, 3, none⟩ = some (.int .i64 m) ∧ w'.cell? ⟨w.heap.size, 4, none⟩ = some (.int .i64 g) ∧ w'.cell? ⟨w.heap.size, 5, none⟩ = some (.int .i64 t) ∧ w'.cell? ⟨w.heap.size, 6, none⟩ = some (.int .i64 l) ∧ w'.cell? ⟨w.heap.size + 1, 0, none⟩ = some (.int .i64 s') ∧ w'.cell? ⟨w.heap.size + 1, 1, none⟩ = some (.int .i64 c') ∧ w'.cell? ⟨w.heap.size + 1, 2, none⟩ = some (.int .i64 n') ∧ w'.cell? ⟨w.heap.size + 1, 3, none⟩ = some (.int .i64 m') ∧ w'.cell? ⟨w.heap.size + 1, 4, none⟩ = some (.int .i64 g') ∧ w'.cell? ⟨w.heap.size + 1, 5, none⟩ = some (.int .i64 t') ∧ w'.cell? ⟨w.heap.size + 1, 6, none⟩ = some (.int .i64 l')) (first | assumption | exact held2_on (by assumption) (by assumption))
    (first
      | (go_at_call 10; refine (gWord _ _ _ _ _ _ _ _ (W.on (by first | assumption | (rename_i h; exact h.1) | (go_split_ands; assumption)))).mono ?_; rintro e w' ⟨rfl, hb⟩))
  all_goals go_wp2
  all_goals go_ret
  all_goals exact ⟨rfl, by rename_i h; exact h.1⟩

theorem wApartD1 (s c n m g t l c' n' m' g' t' l' : Int) (q : gd s c n m g t l = true) (q' : gd s c' n' m' g' t' l' = true) (e1 : (hw s c n m g t l == hw s c' n' m' g' t' l') = false) (e2 : (c == c') = false) (w : World) (W : Wid w) :
    Calls Tryd.prog 6 #[.agg #[.int .i64 s, .int .i64 c, .int .i64 n, .int .i64 m, .int .i64 g, .int .i64 t, .int .i64 l], .agg #[.int .i64 s, .int .i64 c', .int .i64 n', .int .i64 m', .int .i64 g', .int .i64 t', .int .i64 l']] w fun e w' => e = .returned (.bool true) ∧ Below w.heap.size w w' := by
  go_enter Tryd.func6, Tryd.ntmps6
  go_wp2_with (first | (go_at_call 9; refine (cShown2 _ _ _ _ _ _ _ _ _ _ _ _ _ _ w W).mono ?_; rintro e w1 ⟨rfl, hH0, hH1, hH2, hH3, hH4, hH5, hH6, hH7, hH8, hH9, hH10, hH11, hH12, hH13, hH14, hH15, hH16⟩) | (go_at_call 16; refine (cGood _ _ _ _ _ _ _ _).mono ?_; rintro e w2 ⟨rfl, rfl⟩))
  have hK := held2_on (v := ((w1.alloc (.cells #[.int .i64 s, .int .i64 c, .int .i64 n, .int .i64 m, .int .i64 g, .int .i64 t, .int .i64 l] 23)).alloc (.cells #[.int .i64 s, .int .i64 c', .int .i64 n', .int .i64 m', .int .i64 g', .int .i64 t', .int .i64 l'] 23)).drew) ⟨hH0, hH1, hH2, hH3, hH4, hH5, hH6, hH7, hH8, hH9, hH10, hH11, hH12, hH13, hH14, hH15, hH16⟩ (bal (bal (Below.refl _ _) _) _).drew
  go_region_held3 (fun w' => Below w.heap.size w w' ∧ w.heap.size < w'.heap.size ∧ w.heap.size + 1 < w'.heap.size ∧ w'.cell? ⟨w.heap.size, 0, none⟩ = some (.int .i64 s) ∧ w'.cell? ⟨w.heap.size, 1, none⟩ = some (.int .i64 c) ∧ w'.cell? ⟨w.heap.size, 2, none⟩ = some (.int .i64 n) ∧ w'.cell? ⟨w.heap.size, 3, none⟩ = some (.int .i64 m) ∧ w'.cell? ⟨w.heap.size, 4, none⟩ = some (.int .i64 g) ∧ w'.cell? ⟨w.heap.size, 5, none⟩ = some (.int .i64 t) ∧ w'.cell? ⟨w.heap.size, 6, none⟩ = some (.int .i64 l) ∧ w'.cell? ⟨w.heap.size + 1, 0, none⟩ = some (.int .i64 s) ∧ w'.cell? ⟨w.heap.size + 1, 1, none⟩ = some (.int .i64 c') ∧ w'.cell? ⟨w.heap.size + 1, 2, none⟩ = some (.int .i64 n') ∧ w'.cell? ⟨w.heap.size + 1, 3, none⟩ = some (.int .i64 m') ∧ w'.cell? ⟨w.heap.size + 1, 4, none⟩ = some (.int .i64 g') ∧ w'.cell? ⟨w.heap.size + 1, 5, none⟩ = some (.int .i64 t') ∧ w'.cell? ⟨w.heap.size + 1, 6, none⟩ = some (.int .i64 l')) (first | assumption | exact held2_on (by assumption) (by assumption))
    (first
      | (go_at_call 10; refine (gWord _ _ _ _ _ _ _ _ (W.on (by first | assumption | (rename_i h; exact h.1) | (go_split_ands; assumption)))).mono ?_; rintro e w' ⟨rfl, hb⟩))
  all_goals go_wp2
  all_goals go_ret
  all_goals exact ⟨rfl, by rename_i h; exact h.1⟩

theorem wApartD2 (s c n m g t l n' m' g' t' l' : Int) (q : gd s c n m g t l = true) (q' : gd s c n' m' g' t' l' = true) (e1 : (hw s c n m g t l == hw s c n' m' g' t' l') = false) (e2 : (n == n') = false) (w : World) (W : Wid w) :
    Calls Tryd.prog 6 #[.agg #[.int .i64 s, .int .i64 c, .int .i64 n, .int .i64 m, .int .i64 g, .int .i64 t, .int .i64 l], .agg #[.int .i64 s, .int .i64 c, .int .i64 n', .int .i64 m', .int .i64 g', .int .i64 t', .int .i64 l']] w fun e w' => e = .returned (.bool true) ∧ Below w.heap.size w w' := by
  go_enter Tryd.func6, Tryd.ntmps6
  go_wp2_with (first | (go_at_call 9; refine (cShown2 _ _ _ _ _ _ _ _ _ _ _ _ _ _ w W).mono ?_; rintro e w1 ⟨rfl, hH0, hH1, hH2, hH3, hH4, hH5, hH6, hH7, hH8, hH9, hH10, hH11, hH12, hH13, hH14, hH15, hH16⟩) | (go_at_call 16; refine (cGood _ _ _ _ _ _ _ _).mono ?_; rintro e w2 ⟨rfl, rfl⟩))
  have hK := held2_on (v := ((w1.alloc (.cells #[.int .i64 s, .int .i64 c, .int .i64 n, .int .i64 m, .int .i64 g, .int .i64 t, .int .i64 l] 23)).alloc (.cells #[.int .i64 s, .int .i64 c, .int .i64 n', .int .i64 m', .int .i64 g', .int .i64 t', .int .i64 l'] 23)).drew) ⟨hH0, hH1, hH2, hH3, hH4, hH5, hH6, hH7, hH8, hH9, hH10, hH11, hH12, hH13, hH14, hH15, hH16⟩ (bal (bal (Below.refl _ _) _) _).drew
  go_region_held3 (fun w' => Below w.heap.size w w' ∧ w.heap.size < w'.heap.size ∧ w.heap.size + 1 < w'.heap.size ∧ w'.cell? ⟨w.heap.size, 0, none⟩ = some (.int .i64 s) ∧ w'.cell? ⟨w.heap.size, 1, none⟩ = some (.int .i64 c) ∧ w'.cell? ⟨w.heap.size, 2, none⟩ = some (.int .i64 n) ∧ w'.cell? ⟨w.heap.size, 3, none⟩ = some (.int .i64 m) ∧ w'.cell? ⟨w.heap.size, 4, none⟩ = some (.int .i64 g) ∧ w'.cell? ⟨w.heap.size, 5, none⟩ = some (.int .i64 t) ∧ w'.cell? ⟨w.heap.size, 6, none⟩ = some (.int .i64 l) ∧ w'.cell? ⟨w.heap.size + 1, 0, none⟩ = some (.int .i64 s) ∧ w'.cell? ⟨w.heap.size + 1, 1, none⟩ = some (.int .i64 c) ∧ w'.cell? ⟨w.heap.size + 1, 2, none⟩ = some (.int .i64 n') ∧ w'.cell? ⟨w.heap.size + 1, 3, none⟩ = some (.int .i64 m') ∧ w'.cell? ⟨w.heap.size + 1, 4, none⟩ = some (.int .i64 g') ∧ w'.cell? ⟨w.heap.size + 1, 5, none⟩ = some (.int .i64 t') ∧ w'.cell? ⟨w.heap.size + 1, 6, none⟩ = some (.int .i64 l')) (first | assumption | exact held2_on (by assumption) (by assumption))
    (first
      | (go_at_call 10; refine (gWord _ _ _ _ _ _ _ _ (W.on (by first | assumption | (rename_i h; exact h.1) | (go_split_ands; assumption)))).mono ?_; rintro e w' ⟨rfl, hb⟩))
  all_goals go_wp2
  all_goals go_ret
  all_goals exact ⟨rfl, by rename_i h; exact h.1⟩

theorem wApartD3 (s c n m g t l m' g' t' l' : Int) (q : gd s c n m g t l = true) (q' : gd s c n m' g' t' l' = true) (e1 : (hw s c n m g t l == hw s c n m' g' t' l') = false) (e2 : (m == m') = false) (w : World) (W : Wid w) :
    Calls Tryd.prog 6 #[.agg #[.int .i64 s, .int .i64 c, .int .i64 n, .int .i64 m, .int .i64 g, .int .i64 t, .int .i64 l], .agg #[.int .i64 s, .int .i64 c, .int .i64 n, .int .i64 m', .int .i64 g', .int .i64 t', .int .i64 l']] w fun e w' => e = .returned (.bool true) ∧ Below w.heap.size w w' := by
  go_enter Tryd.func6, Tryd.ntmps6
  go_wp2_with (first | (go_at_call 9; refine (cShown2 _ _ _ _ _ _ _ _ _ _ _ _ _ _ w W).mono ?_; rintro e w1 ⟨rfl, hH0, hH1, hH2, hH3, hH4, hH5, hH6, hH7, hH8, hH9, hH10, hH11, hH12, hH13, hH14, hH15, hH16⟩) | (go_at_call 16; refine (cGood _ _ _ _ _ _ _ _).mono ?_; rintro e w2 ⟨rfl, rfl⟩))
  have hK := held2_on (v := ((w1.alloc (.cells #[.int .i64 s, .int .i64 c, .int .i64 n, .int .i64 m, .int .i64 g, .int .i64 t, .int .i64 l] 23)).alloc (.cells #[.int .i64 s, .int .i64 c, .int .i64 n, .int .i64 m', .int .i64 g', .int .i64 t', .int .i64 l'] 23)).drew) ⟨hH0, hH1, hH2, hH3, hH4, hH5, hH6, hH7, hH8, hH9, hH10, hH11, hH12, hH13, hH14, hH15, hH16⟩ (bal (bal (Below.refl _ _) _) _).drew
  go_region_held3 (fun w' => Below w.heap.size w w' ∧ w.heap.size < w'.heap.size ∧ w.heap.size + 1 < w'.heap.size ∧ w'.cell? ⟨w.heap.size, 0, none⟩ = some (.int .i64 s) ∧ w'.cell? ⟨w.heap.size, 1, none⟩ = some (.int .i64 c) ∧ w'.cell? ⟨w.heap.size, 2, none⟩ = some (.int .i64 n) ∧ w'.cell? ⟨w.heap.size, 3, none⟩ = some (.int .i64 m) ∧ w'.cell? ⟨w.heap.size, 4, none⟩ = some (.int .i64 g) ∧ w'.cell? ⟨w.heap.size, 5, none⟩ = some (.int .i64 t) ∧ w'.cell? ⟨w.heap.size, 6, none⟩ = some (.int .i64 l) ∧ w'.cell? ⟨w.heap.size + 1, 0, none⟩ = some (.int .i64 s) ∧ w'.cell? ⟨w.heap.size + 1, 1, none⟩ = some (.int .i64 c) ∧ w'.cell? ⟨w.heap.size + 1, 2, none⟩ = some (.int .i64 n) ∧ w'.cell? ⟨w.heap.size + 1, 3, none⟩ = some (.int .i64 m') ∧ w'.cell? ⟨w.heap.size + 1, 4, none⟩ = some (.int .i64 g') ∧ w'.cell? ⟨w.heap.size + 1, 5, none⟩ = some (.int .i64 t') ∧ w'.cell? ⟨w.heap.size + 1, 6, none⟩ = some (.int .i64 l')) (first | assumption | exact held2_on (by assumption) (by assumption))
    (first
      | (go_at_call 10; refine (gWord _ _ _ _ _ _ _ _ (W.on (by first | assumption | (rename_i h; exact h.1) | (go_split_ands; assumption)))).mono ?_; rintro e w' ⟨rfl, hb⟩))
  all_goals go_wp2
  all_goals go_ret
  all_goals exact ⟨rfl, by rename_i h; exact h.1⟩

theorem wApartD4 (s c n m g t l g' t' l' : Int) (q : gd s c n m g t l = true) (q' : gd s c n m g' t' l' = true) (e1 : (hw s c n m g t l == hw s c n m g' t' l') = false) (e2 : (g == g') = false) (w : World) (W : Wid w) :
    Calls Tryd.prog 6 #[.agg #[.int .i64 s, .int .i64 c, .int .i64 n, .int .i64 m, .int .i64 g, .int .i64 t, .int .i64 l], .agg #[.int .i64 s, .int .i64 c, .int .i64 n, .int .i64 m, .int .i64 g', .int .i64 t', .int .i64 l']] w fun e w' => e = .returned (.bool true) ∧ Below w.heap.size w w' := by
  go_enter Tryd.func6, Tryd.ntmps6
  go_wp2_with (first | (go_at_call 9; refine (cShown2 _ _ _ _ _ _ _ _ _ _ _ _ _ _ w W).mono ?_; rintro e w1 ⟨rfl, hH0, hH1, hH2, hH3, hH4, hH5, hH6, hH7, hH8, hH9, hH10, hH11, hH12, hH13, hH14, hH15, hH16⟩) | (go_at_call 16; refine (cGood _ _ _ _ _ _ _ _).mono ?_; rintro e w2 ⟨rfl, rfl⟩))
  have hK := held2_on (v := ((w1.alloc (.cells #[.int .i64 s, .int .i64 c, .int .i64 n, .int .i64 m, .int .i64 g, .int .i64 t, .int .i64 l] 23)).alloc (.cells #[.int .i64 s, .int .i64 c, .int .i64 n, .int .i64 m, .int .i64 g', .int .i64 t', .int .i64 l'] 23)).drew) ⟨hH0, hH1, hH2, hH3, hH4, hH5, hH6, hH7, hH8, hH9, hH10, hH11, hH12, hH13, hH14, hH15, hH16⟩ (bal (bal (Below.refl _ _) _) _).drew
  go_region_held3 (fun w' => Below w.heap.size w w' ∧ w.heap.size < w'.heap.size ∧ w.heap.size + 1 < w'.heap.size ∧ w'.cell? ⟨w.heap.size, 0, none⟩ = some (.int .i64 s) ∧ w'.cell? ⟨w.heap.size, 1, none⟩ = some (.int .i64 c) ∧ w'.cell? ⟨w.heap.size, 2, none⟩ = some (.int .i64 n) ∧ w'.cell? ⟨w.heap.size, 3, none⟩ = some (.int .i64 m) ∧ w'.cell? ⟨w.heap.size, 4, none⟩ = some (.int .i64 g) ∧ w'.cell? ⟨w.heap.size, 5, none⟩ = some (.int .i64 t) ∧ w'.cell? ⟨w.heap.size, 6, none⟩ = some (.int .i64 l) ∧ w'.cell? ⟨w.heap.size + 1, 0, none⟩ = some (.int .i64 s) ∧ w'.cell? ⟨w.heap.size + 1, 1, none⟩ = some (.int .i64 c) ∧ w'.cell? ⟨w.heap.size + 1, 2, none⟩ = some (.int .i64 n) ∧ w'.cell? ⟨w.heap.size + 1, 3, none⟩ = some (.int .i64 m) ∧ w'.cell? ⟨w.heap.size + 1, 4, none⟩ = some (.int .i64 g') ∧ w'.cell? ⟨w.heap.size + 1, 5, none⟩ = some (.int .i64 t') ∧ w'.cell? ⟨w.heap.size + 1, 6, none⟩ = some (.int .i64 l')) (first | assumption | exact held2_on (by assumption) (by assumption))
    (first
      | (go_at_call 10; refine (gWord _ _ _ _ _ _ _ _ (W.on (by first | assumption | (rename_i h; exact h.1) | (go_split_ands; assumption)))).mono ?_; rintro e w' ⟨rfl, hb⟩))
  all_goals go_wp2
  all_goals go_ret
  all_goals exact ⟨rfl, by rename_i h; exact h.1⟩

theorem wApartD5 (s c n m g t l t' l' : Int) (q : gd s c n m g t l = true) (q' : gd s c n m g t' l' = true) (e1 : (hw s c n m g t l == hw s c n m g t' l') = false) (e2 : (t == t') = false) (w : World) (W : Wid w) :
    Calls Tryd.prog 6 #[.agg #[.int .i64 s, .int .i64 c, .int .i64 n, .int .i64 m, .int .i64 g, .int .i64 t, .int .i64 l], .agg #[.int .i64 s, .int .i64 c, .int .i64 n, .int .i64 m, .int .i64 g, .int .i64 t', .int .i64 l']] w fun e w' => e = .returned (.bool true) ∧ Below w.heap.size w w' := by
  go_enter Tryd.func6, Tryd.ntmps6
  go_wp2_with (first | (go_at_call 9; refine (cShown2 _ _ _ _ _ _ _ _ _ _ _ _ _ _ w W).mono ?_; rintro e w1 ⟨rfl, hH0, hH1, hH2, hH3, hH4, hH5, hH6, hH7, hH8, hH9, hH10, hH11, hH12, hH13, hH14, hH15, hH16⟩) | (go_at_call 16; refine (cGood _ _ _ _ _ _ _ _).mono ?_; rintro e w2 ⟨rfl, rfl⟩))
  have hK := held2_on (v := ((w1.alloc (.cells #[.int .i64 s, .int .i64 c, .int .i64 n, .int .i64 m, .int .i64 g, .int .i64 t, .int .i64 l] 23)).alloc (.cells #[.int .i64 s, .int .i64 c, .int .i64 n, .int .i64 m, .int .i64 g, .int .i64 t', .int .i64 l'] 23)).drew) ⟨hH0, hH1, hH2, hH3, hH4, hH5, hH6, hH7, hH8, hH9, hH10, hH11, hH12, hH13, hH14, hH15, hH16⟩ (bal (bal (Below.refl _ _) _) _).drew
  go_region_held3 (fun w' => Below w.heap.size w w' ∧ w.heap.size < w'.heap.size ∧ w.heap.size + 1 < w'.heap.size ∧ w'.cell? ⟨w.heap.size, 0, none⟩ = some (.int .i64 s) ∧ w'.cell? ⟨w.heap.size, 1, none⟩ = some (.int .i64 c) ∧ w'.cell? ⟨w.heap.size, 2, none⟩ = some (.int .i64 n) ∧ w'.cell? ⟨w.heap.size, 3, none⟩ = some (.int .i64 m) ∧ w'.cell? ⟨w.heap.size, 4, none⟩ = some (.int .i64 g) ∧ w'.cell? ⟨w.heap.size, 5, none⟩ = some (.int .i64 t) ∧ w'.cell? ⟨w.heap.size, 6, none⟩ = some (.int .i64 l) ∧ w'.cell? ⟨w.heap.size + 1, 0, none⟩ = some (.int .i64 s) ∧ w'.cell? ⟨w.heap.size + 1, 1, none⟩ = some (.int .i64 c) ∧ w'.cell? ⟨w.heap.size + 1, 2, none⟩ = some (.int .i64 n) ∧ w'.cell? ⟨w.heap.size + 1, 3, none⟩ = some (.int .i64 m) ∧ w'.cell? ⟨w.heap.size + 1, 4, none⟩ = some (.int .i64 g) ∧ w'.cell? ⟨w.heap.size + 1, 5, none⟩ = some (.int .i64 t') ∧ w'.cell? ⟨w.heap.size + 1, 6, none⟩ = some (.int .i64 l')) (first | assumption | exact held2_on (by assumption) (by assumption))
    (first
      | (go_at_call 10; refine (gWord _ _ _ _ _ _ _ _ (W.on (by first | assumption | (rename_i h; exact h.1) | (go_split_ands; assumption)))).mono ?_; rintro e w' ⟨rfl, hb⟩))
  all_goals go_wp2
  all_goals go_ret
  all_goals exact ⟨rfl, by rename_i h; exact h.1⟩

theorem wApartD6 (s c n m g t l l' : Int) (q : gd s c n m g t l = true) (q' : gd s c n m g t l' = true) (e1 : (hw s c n m g t l == hw s c n m g t l') = false) (e2 : (l == l') = false) (w : World) (W : Wid w) :
    Calls Tryd.prog 6 #[.agg #[.int .i64 s, .int .i64 c, .int .i64 n, .int .i64 m, .int .i64 g, .int .i64 t, .int .i64 l], .agg #[.int .i64 s, .int .i64 c, .int .i64 n, .int .i64 m, .int .i64 g, .int .i64 t, .int .i64 l']] w fun e w' => e = .returned (.bool true) ∧ Below w.heap.size w w' := by
  go_enter Tryd.func6, Tryd.ntmps6
  go_wp2_with (first | (go_at_call 9; refine (cShown2 _ _ _ _ _ _ _ _ _ _ _ _ _ _ w W).mono ?_; rintro e w1 ⟨rfl, hH0, hH1, hH2, hH3, hH4, hH5, hH6, hH7, hH8, hH9, hH10, hH11, hH12, hH13, hH14, hH15, hH16⟩) | (go_at_call 16; refine (cGood _ _ _ _ _ _ _ _).mono ?_; rintro e w2 ⟨rfl, rfl⟩))
  have hK := held2_on (v := ((w1.alloc (.cells #[.int .i64 s, .int .i64 c, .int .i64 n, .int .i64 m, .int .i64 g, .int .i64 t, .int .i64 l] 23)).alloc (.cells #[.int .i64 s, .int .i64 c, .int .i64 n, .int .i64 m, .int .i64 g, .int .i64 t, .int .i64 l'] 23)).drew) ⟨hH0, hH1, hH2, hH3, hH4, hH5, hH6, hH7, hH8, hH9, hH10, hH11, hH12, hH13, hH14, hH15, hH16⟩ (bal (bal (Below.refl _ _) _) _).drew
  go_region_held3 (fun w' => Below w.heap.size w w' ∧ w.heap.size < w'.heap.size ∧ w.heap.size + 1 < w'.heap.size ∧ w'.cell? ⟨w.heap.size, 0, none⟩ = some (.int .i64 s) ∧ w'.cell? ⟨w.heap.size, 1, none⟩ = some (.int .i64 c) ∧ w'.cell? ⟨w.heap.size, 2, none⟩ = some (.int .i64 n) ∧ w'.cell? ⟨w.heap.size, 3, none⟩ = some (.int .i64 m) ∧ w'.cell? ⟨w.heap.size, 4, none⟩ = some (.int .i64 g) ∧ w'.cell? ⟨w.heap.size, 5, none⟩ = some (.int .i64 t) ∧ w'.cell? ⟨w.heap.size, 6, none⟩ = some (.int .i64 l) ∧ w'.cell? ⟨w.heap.size + 1, 0, none⟩ = some (.int .i64 s) ∧ w'.cell? ⟨w.heap.size + 1, 1, none⟩ = some (.int .i64 c) ∧ w'.cell? ⟨w.heap.size + 1, 2, none⟩ = some (.int .i64 n) ∧ w'.cell? ⟨w.heap.size + 1, 3, none⟩ = some (.int .i64 m) ∧ w'.cell? ⟨w.heap.size + 1, 4, none⟩ = some (.int .i64 g) ∧ w'.cell? ⟨w.heap.size + 1, 5, none⟩ = some (.int .i64 t) ∧ w'.cell? ⟨w.heap.size + 1, 6, none⟩ = some (.int .i64 l')) (first | assumption | exact held2_on (by assumption) (by assumption))
    (first
      | (go_at_call 10; refine (gWord _ _ _ _ _ _ _ _ (W.on (by first | assumption | (rename_i h; exact h.1) | (go_split_ands; assumption)))).mono ?_; rintro e w' ⟨rfl, hb⟩))
  all_goals go_wp2
  all_goals go_ret
  all_goals exact ⟨rfl, by rename_i h; exact h.1⟩

end Go.Proofs.YtikedddeafjnnaaDoor
