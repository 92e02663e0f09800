/-
  The walks of the laws that a word's parts are packed as its lowest 24 bits, and where an object is.
-/
import Derived.Test.YtikedddeafjnnaaDoorWalks0
namespace Go.Proofs.YtikedddeafjnnaaDoor
open Go.ChangeShapes Go.WideShapes Go.ChangeAt Go.RowKit
open Plain

theorem wLow (a : Int) (h : 0 ≤ a) (h' : a ≤ 18446744073709551615) (w : World) (W : Wid w) :
    Calls Tryd.prog 7 #[.int .u64 a] w fun e w' => e = .returned (.bool true) ∧ Below w.heap.size w w' := by
  have e0 : hw (pS a) (pC a) (pN a) (pM a) (pG a) (pT a) (pL a) = a % 16777216 := by unfold hw pS pC pN pM pG pT pL; omega
  have e1 : a.tmod 16777216 = a % 16777216 := Int.tmod_eq_emod_of_nonneg h
  go_enter Tryd.func7, Tryd.ntmps7
  go_wp2_with (first
    | (go_at_call 9; refine (cShown _ W).mono ?_; rintro e w1 ⟨rfl, hb⟩; have hs := hb.size)
    | (go_at_call 12; refine (cOf a h h' _ (W.on (by go_grown))).mono ?_; rintro e w2 ⟨rfl, rfl⟩)
    | (go_at_call 10; refine (cWord _ _ _ _ _ _ _ _ (W.on (by go_grown))).mono ?_; rintro e w2 ⟨rfl, x2, rfl⟩))
  go_ret
  exact ⟨rfl, by go_grown⟩

theorem wMoves0 (s c n m g t l x : Int) (c1 : (pS (hw s c n m g t l) == 1) = true) (c2 : (pT (hw s c n m g t l) == 2) = true) (cm : mv (hw s c n m g t l) x = pL (hw s c n m g t l)) (w : World) (W : Wid w) :
    Calls Tryd.prog 8 #[.agg #[.int .i64 s, .int .i64 c, .int .i64 n, .int .i64 m, .int .i64 g, .int .i64 t, .int .i64 l], .int .i64 x] w fun e w' => e = .returned (.bool true) ∧ Below w.heap.size w w' := by
  have b0 : 0 ≤ hw s c n m g t l := by unfold hw; omega
  have b1 : hw s c n m g t l ≤ 18446744073709551615 := by unfold hw; omega
  go_enter Tryd.func8, Tryd.ntmps8
  go_wp2_with (first
    | (go_at_call 9; refine (cShown1 _ _ _ _ _ _ _ w W).mono ?_; rintro e w1 ⟨rfl, hH0, hH1, hH2, hH3, hH4, hH5, hH6, hH7, hH8⟩; have hs := hH0.size)
    | (go_at_call 12; refine (cOf _ b0 b1 _ (W.on (by go_grown))).mono ?_; rintro e w2 ⟨rfl, rfl⟩)
    | (go_at_call 14; refine (cMoved _ _ b0 b1 _ (W.on (by go_grown))).mono ?_; rintro e w2 ⟨rfl, rfl⟩)
    | (go_at_call 10; refine (cWord _ _ _ _ _ _ _ _ (W.on (by go_grown))).mono ?_; rintro e w2 ⟨rfl, x2, rfl⟩))
  go_ret
  exact ⟨rfl, by go_grown⟩

theorem wMoves1 (s c n m g t l x : Int) (c1 : (pS (hw s c n m g t l) == 1) = true) (c2 : (pT (hw s c n m g t l) == 2) = false) (cm : mv (hw s c n m g t l) x = x) (w : World) (W : Wid w) :
    Calls Tryd.prog 8 #[.agg #[.int .i64 s, .int .i64 c, .int .i64 n, .int .i64 m, .int .i64 g, .int .i64 t, .int .i64 l], .int .i64 x] w fun e w' => e = .returned (.bool true) ∧ Below w.heap.size w w' := by
  have b0 : 0 ≤ hw s c n m g t l := by unfold hw; omega
  have b1 : hw s c n m g t l ≤ 18446744073709551615 := by unfold hw; omega
  go_enter Tryd.func8, Tryd.ntmps8
  go_wp2_with (first
    | (go_at_call 9; refine (cShown1 _ _ _ _ _ _ _ w W).mono ?_; rintro e w1 ⟨rfl, hH0, hH1, hH2, hH3, hH4, hH5, hH6, hH7, hH8⟩; have hs := hH0.size)
    | (go_at_call 12; refine (cOf _ b0 b1 _ (W.on (by go_grown))).mono ?_; rintro e w2 ⟨rfl, rfl⟩)
    | (go_at_call 14; refine (cMoved _ _ b0 b1 _ (W.on (by go_grown))).mono ?_; rintro e w2 ⟨rfl, rfl⟩)
    | (go_at_call 10; refine (cWord _ _ _ _ _ _ _ _ (W.on (by go_grown))).mono ?_; rintro e w2 ⟨rfl, x2, rfl⟩))
  go_ret
  exact ⟨rfl, by go_grown⟩

theorem wMoves2 (s c n m g t l x : Int) (c1 : (pS (hw s c n m g t l) == 1) = false) (cm : mv (hw s c n m g t l) x = x) (w : World) (W : Wid w) :
    Calls Tryd.prog 8 #[.agg #[.int .i64 s, .int .i64 c, .int .i64 n, .int .i64 m, .int .i64 g, .int .i64 t, .int .i64 l], .int .i64 x] w fun e w' => e = .returned (.bool true) ∧ Below w.heap.size w w' := by
  have b0 : 0 ≤ hw s c n m g t l := by unfold hw; omega
  have b1 : hw s c n m g t l ≤ 18446744073709551615 := by unfold hw; omega
  go_enter Tryd.func8, Tryd.ntmps8
  go_wp2_with (first
    | (go_at_call 9; refine (cShown1 _ _ _ _ _ _ _ w W).mono ?_; rintro e w1 ⟨rfl, hH0, hH1, hH2, hH3, hH4, hH5, hH6, hH7, hH8⟩; have hs := hH0.size)
    | (go_at_call 12; refine (cOf _ b0 b1 _ (W.on (by go_grown))).mono ?_; rintro e w2 ⟨rfl, rfl⟩)
    | (go_at_call 14; refine (cMoved _ _ b0 b1 _ (W.on (by go_grown))).mono ?_; rintro e w2 ⟨rfl, rfl⟩)
    | (go_at_call 10; refine (cWord _ _ _ _ _ _ _ _ (W.on (by go_grown))).mono ?_; rintro e w2 ⟨rfl, x2, rfl⟩))
  go_ret
  exact ⟨rfl, by go_grown⟩

theorem wMoves (s c n m g t l x : Int) (w : World) (W : Wid w) :
    Calls Tryd.prog 8 #[.agg #[.int .i64 s, .int .i64 c, .int .i64 n, .int .i64 m, .int .i64 g, .int .i64 t, .int .i64 l], .int .i64 x] w fun e w' => e = .returned (.bool true) ∧ Below w.heap.size w w' := by
  by_cases c1 : pS (hw s c n m g t l) = 1
  · by_cases c2 : pT (hw s c n m g t l) = 2
    · exact wMoves0 s c n m g t l x (by simpa using c1) (by simpa using c2) (by simp [mv, c1, c2]) w W
    · exact wMoves1 s c n m g t l x (by simpa using c1) (by simpa using c2) (by simp [mv, c2]) w W
  · exact wMoves2 s c n m g t l x (by simpa using c1) (by simp [mv, c1]) w W
end Go.Proofs.YtikedddeafjnnaaDoor
