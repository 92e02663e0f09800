/-
  What Moved, the law's own test of a header, and the document's examples come to when they are called.
-/
import Derived.Test.YtikedddeafjnnabDoorCalls
namespace Go.Proofs.YtikedddeafjnnabDoor
open Go.ChangeShapes Go.WideShapes Go.ChangeAt Go.RowKit
open Plain

/-- nothing that was there has turned, over two steps -/
theorem on2 {w u v : World} (h : Below w.heap.size w u) (hb : Below u.heap.size u v) : Below w.heap.size w v := h.trans (hb.mono h.size)

theorem cMoved1 (a x : Int) (h : 0 ≤ a) (h' : a ≤ 18446744073709551615) (c1 : (pS a == 1) = true) (c2 : (pT a == 2) = true) (w : World) (W : Wid w) :
    Calls Tryd.prog 9 #[.int .u64 a, .int .i64 x] w fun e w' => e = .returned (.int .i64 (pL a)) ∧ w' = ((((w.alloc (.cells #[.int .i64 (pS a), .int .i64 (pC a), .int .i64 (pN a), .int .i64 (pM a), .int .i64 (pG a), .int .i64 (pT a), .int .i64 (pL a)] 23)).alloc (.cells #[.int .i64 (pS a), .int .i64 (pC a), .int .i64 (pN a), .int .i64 (pM a), .int .i64 (pG a), .int .i64 (pT a), .int .i64 (pL a)] 33)).alloc (.cells #[.int .i64 (pS a), .int .i64 (pC a), .int .i64 (pN a), .int .i64 (pM a), .int .i64 (pG a), .int .i64 (pT a), .int .i64 (pL a)] 33)).alloc (.cells #[.int .i64 (pS a), .int .i64 (pC a), .int .i64 (pN a), .int .i64 (pM a), .int .i64 (pG a), .int .i64 (pT a), .int .i64 (pL a)] 33)).alloc (.cells #[.int .i64 (pS a), .int .i64 (pC a), .int .i64 (pN a), .int .i64 (pM a), .int .i64 (pG a), .int .i64 (pT a), .int .i64 (pL a)] 23) := by
  go_enter Tryd.func9, Tryd.ntmps9
  go_wp2_with (go_at_call 7; refine (cOf a h h' _ W).mono ?_; rintro e w1 ⟨rfl, rfl⟩)
  go_ret
  exact ⟨rfl, rfl⟩

theorem cMoved2 (a x : Int) (h : 0 ≤ a) (h' : a ≤ 18446744073709551615) (c1 : (pS a == 1) = true) (c2 : (pT a == 2) = false) (w : World) (W : Wid w) :
    Calls Tryd.prog 9 #[.int .u64 a, .int .i64 x] w fun e w' => e = .returned (.int .i64 (x)) ∧ w' = ((((w.alloc (.cells #[.int .i64 (pS a), .int .i64 (pC a), .int .i64 (pN a), .int .i64 (pM a), .int .i64 (pG a), .int .i64 (pT a), .int .i64 (pL a)] 23)).alloc (.cells #[.int .i64 (pS a), .int .i64 (pC a), .int .i64 (pN a), .int .i64 (pM a), .int .i64 (pG a), .int .i64 (pT a), .int .i64 (pL a)] 33)).alloc (.cells #[.int .i64 (pS a), .int .i64 (pC a), .int .i64 (pN a), .int .i64 (pM a), .int .i64 (pG a), .int .i64 (pT a), .int .i64 (pL a)] 33)).alloc (.cells #[.int .i64 (pS a), .int .i64 (pC a), .int .i64 (pN a), .int .i64 (pM a), .int .i64 (pG a), .int .i64 (pT a), .int .i64 (pL a)] 33)).alloc (.cells #[.int .i64 (pS a), .int .i64 (pC a), .int .i64 (pN a), .int .i64 (pM a), .int .i64 (pG a), .int .i64 (pT a), .int .i64 (pL a)] 23) := by
  go_enter Tryd.func9, Tryd.ntmps9
  go_wp2_with (go_at_call 7; refine (cOf a h h' _ W).mono ?_; rintro e w1 ⟨rfl, rfl⟩)
  go_ret
  exact ⟨rfl, rfl⟩

theorem cMoved3 (a x : Int) (h : 0 ≤ a) (h' : a ≤ 18446744073709551615) (c1 : (pS a == 1) = false) (w : World) (W : Wid w) :
    Calls Tryd.prog 9 #[.int .u64 a, .int .i64 x] w fun e w' => e = .returned (.int .i64 (x)) ∧ w' = ((((w.alloc (.cells #[.int .i64 (pS a), .int .i64 (pC a), .int .i64 (pN a), .int .i64 (pM a), .int .i64 (pG a), .int .i64 (pT a), .int .i64 (pL a)] 23)).alloc (.cells #[.int .i64 (pS a), .int .i64 (pC a), .int .i64 (pN a), .int .i64 (pM a), .int .i64 (pG a), .int .i64 (pT a), .int .i64 (pL a)] 33)).alloc (.cells #[.int .i64 (pS a), .int .i64 (pC a), .int .i64 (pN a), .int .i64 (pM a), .int .i64 (pG a), .int .i64 (pT a), .int .i64 (pL a)] 33)).alloc (.cells #[.int .i64 (pS a), .int .i64 (pC a), .int .i64 (pN a), .int .i64 (pM a), .int .i64 (pG a), .int .i64 (pT a), .int .i64 (pL a)] 33)).alloc (.cells #[.int .i64 (pS a), .int .i64 (pC a), .int .i64 (pN a), .int .i64 (pM a), .int .i64 (pG a), .int .i64 (pT a), .int .i64 (pL a)] 23) := by
  go_enter Tryd.func9, Tryd.ntmps9
  go_wp2_with (go_at_call 7; refine (cOf a h h' _ W).mono ?_; rintro e w1 ⟨rfl, rfl⟩)
  go_ret
  exact ⟨rfl, rfl⟩

theorem cMoved (a x : Int) (h : 0 ≤ a) (h' : a ≤ 18446744073709551615) (w : World) (W : Wid w) :
    Calls Tryd.prog 9 #[.int .u64 a, .int .i64 x] w fun e w' => e = .returned (.int .i64 (mv a x)) ∧ w' = ((((w.alloc (.cells #[.int .i64 (pS a), .int .i64 (pC a), .int .i64 (pN a), .int .i64 (pM a), .int .i64 (pG a), .int .i64 (pT a), .int .i64 (pL a)] 23)).alloc (.cells #[.int .i64 (pS a), .int .i64 (pC a), .int .i64 (pN a), .int .i64 (pM a), .int .i64 (pG a), .int .i64 (pT a), .int .i64 (pL a)] 33)).alloc (.cells #[.int .i64 (pS a), .int .i64 (pC a), .int .i64 (pN a), .int .i64 (pM a), .int .i64 (pG a), .int .i64 (pT a), .int .i64 (pL a)] 33)).alloc (.cells #[.int .i64 (pS a), .int .i64 (pC a), .int .i64 (pN a), .int .i64 (pM a), .int .i64 (pG a), .int .i64 (pT a), .int .i64 (pL a)] 33)).alloc (.cells #[.int .i64 (pS a), .int .i64 (pC a), .int .i64 (pN a), .int .i64 (pM a), .int .i64 (pG a), .int .i64 (pT a), .int .i64 (pL a)] 23) := by
  by_cases c1 : pS a = 1
  · by_cases c2 : pT a = 2
    · have := cMoved1 a x h h' (by simpa using c1) (by simpa using c2) w W
      rwa [show mv a x = pL a by simp [mv, c1, c2]]
    · have := cMoved2 a x h h' (by simpa using c1) (by simpa using c2) w W
      rwa [show mv a x = x by simp [mv, c2]]
  · have := cMoved3 a x h h' (by simpa using c1) w W
    rwa [show mv a x = x by simp [mv, c1]]

theorem cShown (w : World) (W : Wid w) :
    Calls Tryd.prog 5 #[] w fun e w' => e = .returned (.bool true) ∧ Below w.heap.size w w' := by
  have e1 : hw 1 0 3 1 0 2 5 = 21681 := by decide
  have e2 : mv 21681 9 = 5 := by decide
  have e3 : mv 0 9 = 9 := by decide
  go_enter Tryd.func5, Tryd.ntmps5
  go_wp2_with (first
    | (go_at_call 6; refine (cWord _ _ _ _ _ _ _ _ W).mono ?_; rintro e w1 ⟨rfl, x1, rfl⟩)
    | (go_at_call 9; refine (cMoved _ _ (by omega) (by omega) _ (W.on (by go_grown))).mono ?_; rintro e w2 ⟨rfl, rfl⟩))
  go_ret
  exact ⟨rfl, by go_grown⟩
end Go.Proofs.YtikedddeafjnnabDoor
