/-
  What Moved, the law's own test of a header, and the document's examples come to when they are called.
-/
import Derived.Test.YtoablodmodnamaaDoorHCalls
namespace Go.Proofs.YtoablodmodnamaaDoor.H
open Go.ChangeShapes Go.WideShapes Go.ChangeAt Go.RowKit
open Plain

/-- nothing that was there has turned, over two steps -/
theorem on2 {w u v : World} (h : Below w.heap.size w u) (hb : Below u.heap.size u v) : Below w.heap.size w v := h.trans (hb.mono h.size)

theorem cMoved1 (a x : Int) (h : 0 ≤ a) (h' : a ≤ 18446744073709551615) (c1 : (pS a == 1) = true) (c2 : (pT a == 2) = true) (w : World) (W : Wid w) :
    Calls Tryd.prog 49 #[.int .u64 a, .int .i64 x] w fun e w' => e = .returned (.int .i64 (pL a)) ∧ w' = ((((w.alloc (.cells #[.int .i64 (pS a), .int .i64 (pC a), .int .i64 (pN a), .int .i64 (pM a), .int .i64 (pG a), .int .i64 (pT a), .int .i64 (pL a)] 74)).alloc (.cells #[.int .i64 (pS a), .int .i64 (pC a), .int .i64 (pN a), .int .i64 (pM a), .int .i64 (pG a), .int .i64 (pT a), .int .i64 (pL a)] 165)).alloc (.cells #[.int .i64 (pS a), .int .i64 (pC a), .int .i64 (pN a), .int .i64 (pM a), .int .i64 (pG a), .int .i64 (pT a), .int .i64 (pL a)] 165)).alloc (.cells #[.int .i64 (pS a), .int .i64 (pC a), .int .i64 (pN a), .int .i64 (pM a), .int .i64 (pG a), .int .i64 (pT a), .int .i64 (pL a)] 165)).alloc (.cells #[.int .i64 (pS a), .int .i64 (pC a), .int .i64 (pN a), .int .i64 (pM a), .int .i64 (pG a), .int .i64 (pT a), .int .i64 (pL a)] 74) := by
  go_enter Tryd.func49, Tryd.ntmps49
  go_wp2_with (go_at_call 61; refine (cOf a h h' _ W).mono ?_; rintro e w1 ⟨rfl, rfl⟩)
  go_ret
  exact ⟨rfl, rfl⟩

theorem cMoved2 (a x : Int) (h : 0 ≤ a) (h' : a ≤ 18446744073709551615) (c1 : (pS a == 1) = true) (c2 : (pT a == 2) = false) (w : World) (W : Wid w) :
    Calls Tryd.prog 49 #[.int .u64 a, .int .i64 x] w fun e w' => e = .returned (.int .i64 (x)) ∧ w' = ((((w.alloc (.cells #[.int .i64 (pS a), .int .i64 (pC a), .int .i64 (pN a), .int .i64 (pM a), .int .i64 (pG a), .int .i64 (pT a), .int .i64 (pL a)] 74)).alloc (.cells #[.int .i64 (pS a), .int .i64 (pC a), .int .i64 (pN a), .int .i64 (pM a), .int .i64 (pG a), .int .i64 (pT a), .int .i64 (pL a)] 165)).alloc (.cells #[.int .i64 (pS a), .int .i64 (pC a), .int .i64 (pN a), .int .i64 (pM a), .int .i64 (pG a), .int .i64 (pT a), .int .i64 (pL a)] 165)).alloc (.cells #[.int .i64 (pS a), .int .i64 (pC a), .int .i64 (pN a), .int .i64 (pM a), .int .i64 (pG a), .int .i64 (pT a), .int .i64 (pL a)] 165)).alloc (.cells #[.int .i64 (pS a), .int .i64 (pC a), .int .i64 (pN a), .int .i64 (pM a), .int .i64 (pG a), .int .i64 (pT a), .int .i64 (pL a)] 74) := by
  go_enter Tryd.func49, Tryd.ntmps49
  go_wp2_with (go_at_call 61; refine (cOf a h h' _ W).mono ?_; rintro e w1 ⟨rfl, rfl⟩)
  go_ret
  exact ⟨rfl, rfl⟩

theorem cMoved3 (a x : Int) (h : 0 ≤ a) (h' : a ≤ 18446744073709551615) (c1 : (pS a == 1) = false) (w : World) (W : Wid w) :
    Calls Tryd.prog 49 #[.int .u64 a, .int .i64 x] w fun e w' => e = .returned (.int .i64 (x)) ∧ w' = ((((w.alloc (.cells #[.int .i64 (pS a), .int .i64 (pC a), .int .i64 (pN a), .int .i64 (pM a), .int .i64 (pG a), .int .i64 (pT a), .int .i64 (pL a)] 74)).alloc (.cells #[.int .i64 (pS a), .int .i64 (pC a), .int .i64 (pN a), .int .i64 (pM a), .int .i64 (pG a), .int .i64 (pT a), .int .i64 (pL a)] 165)).alloc (.cells #[.int .i64 (pS a), .int .i64 (pC a), .int .i64 (pN a), .int .i64 (pM a), .int .i64 (pG a), .int .i64 (pT a), .int .i64 (pL a)] 165)).alloc (.cells #[.int .i64 (pS a), .int .i64 (pC a), .int .i64 (pN a), .int .i64 (pM a), .int .i64 (pG a), .int .i64 (pT a), .int .i64 (pL a)] 165)).alloc (.cells #[.int .i64 (pS a), .int .i64 (pC a), .int .i64 (pN a), .int .i64 (pM a), .int .i64 (pG a), .int .i64 (pT a), .int .i64 (pL a)] 74) := by
  go_enter Tryd.func49, Tryd.ntmps49
  go_wp2_with (go_at_call 61; refine (cOf a h h' _ W).mono ?_; rintro e w1 ⟨rfl, rfl⟩)
  go_ret
  exact ⟨rfl, rfl⟩

theorem cMoved (a x : Int) (h : 0 ≤ a) (h' : a ≤ 18446744073709551615) (w : World) (W : Wid w) :
    Calls Tryd.prog 49 #[.int .u64 a, .int .i64 x] w fun e w' => e = .returned (.int .i64 (mv a x)) ∧ w' = ((((w.alloc (.cells #[.int .i64 (pS a), .int .i64 (pC a), .int .i64 (pN a), .int .i64 (pM a), .int .i64 (pG a), .int .i64 (pT a), .int .i64 (pL a)] 74)).alloc (.cells #[.int .i64 (pS a), .int .i64 (pC a), .int .i64 (pN a), .int .i64 (pM a), .int .i64 (pG a), .int .i64 (pT a), .int .i64 (pL a)] 165)).alloc (.cells #[.int .i64 (pS a), .int .i64 (pC a), .int .i64 (pN a), .int .i64 (pM a), .int .i64 (pG a), .int .i64 (pT a), .int .i64 (pL a)] 165)).alloc (.cells #[.int .i64 (pS a), .int .i64 (pC a), .int .i64 (pN a), .int .i64 (pM a), .int .i64 (pG a), .int .i64 (pT a), .int .i64 (pL a)] 165)).alloc (.cells #[.int .i64 (pS a), .int .i64 (pC a), .int .i64 (pN a), .int .i64 (pM a), .int .i64 (pG a), .int .i64 (pT a), .int .i64 (pL a)] 74) := by
  by_cases c1 : pS a = 1
  · by_cases c2 : pT a = 2
    · have := cMoved1 a x h h' (by simpa using c1) (by simpa using c2) w W
      rwa [show mv a x = pL a by simp [mv, c1, c2]]
    · have := cMoved2 a x h h' (by simpa using c1) (by simpa using c2) w W
      rwa [show mv a x = x by simp [mv, c2]]
  · have := cMoved3 a x h h' (by simpa using c1) w W
    rwa [show mv a x = x by simp [mv, c1]]

end Go.Proofs.YtoablodmodnamaaDoor.H
