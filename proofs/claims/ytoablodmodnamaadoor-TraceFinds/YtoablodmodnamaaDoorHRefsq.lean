/-
  What each of the document's own answers of layer 2 comes to when it is called: one contract a function.
-/
import Derived.Test.YtoablodmodnamaaDoorHCallsq
namespace Go.Proofs.YtoablodmodnamaaDoor.H
open Go.ChangeShapes Go.WideShapes Go.ChangeAt Go.RowKit
open Plain

/-- nothing that was there has turned, over two steps -/
theorem on2 {w u v : World} (h : Below w.heap.size w u) (hb : Below u.heap.size u v) : Below w.heap.size w v := h.trans (hb.mono h.size)

theorem cMoved1 (a x : Int) (h : 0 ≤ a) (h' : a ≤ 18446744073709551615) (c1 : (pS a == 1) = true) (c2 : (pT a == 2) = true) (w : World) (W : Wid w) :
    Calls Tryd.prog 49 #[.int .u64 a, .int .i64 x] w fun e w' => e = .returned (.int .i64 (pL a)) ∧ w' = ((((w.alloc (.cells #[.int .i64 (pS a), .int .i64 (pC a), .int .i64 (pN a), .int .i64 (pM a), .int .i64 (pG a), .int .i64 (pT a), .int .i64 (pL a)] 74)).alloc (.cells #[.int .i64 (pS a), .int .i64 (pC a), .int .i64 (pN a), .int .i64 (pM a), .int .i64 (pG a), .int .i64 (pT a), .int .i64 (pL a)] 165)).alloc (.cells #[.int .i64 (pS a), .int .i64 (pC a), .int .i64 (pN a), .int .i64 (pM a), .int .i64 (pG a), .int .i64 (pT a), .int .i64 (pL a)] 165)).alloc (.cells #[.int .i64 (pS a), .int .i64 (pC a), .int .i64 (pN a), .int .i64 (pM a), .int .i64 (pG a), .int .i64 (pT a), .int .i64 (pL a)] 165)).alloc (.cells #[.int .i64 (pS a), .int .i64 (pC a), .int .i64 (pN a), .int .i64 (pM a), .int .i64 (pG a), .int .i64 (pT a), .int .i64 (pL a)] 74) := by
  go_enter Tryd.func49, Tryd.ntmps49
  go_wp2_with (go_at_call 61; refine (cOf a h h' _ W).mono ?_; rintro e w1 ⟨rfl, rfl⟩)
  go_ret
  exact ⟨rfl, rfl⟩

theorem cMoved2 (a x : Int) (h : 0 ≤ a) (h' : a ≤ 18446744073709551615) (c1 : (pS a == 1) = true) (c2 : (pT a == 2) = false) (w : World) (W : Wid w) :
    Calls Tryd.prog 49 #[.int .u64 a, .int .i64 x] w fun e w' => e = .returned (.int .i64 (x)) ∧ w' = ((((w.alloc (.cells #[.int .i64 (pS a), .int .i64 (pC a), .int .i64 (pN a), .int .i64 (pM a), .int .i64 (pG a), .int .i64 (pT a), .int .i64 (pL a)] 74)).alloc (.cells #[.int .i64 (pS a), .int .i64 (pC a), .int .i64 (pN a), .int .i64 (pM a), .int .i64 (pG a), .int .i64 (pT a), .int .i64 (pL a)] 165)).alloc (.cells #[.int .i64 (pS a), .int .i64 (pC a), .int .i64 (pN a), .int .i64 (pM a), .int .i64 (pG a), .int .i64 (pT a), .int .i64 (pL a)] 165)).alloc (.cells #[.int .i64 (pS a), .int .i64 (pC a), .int .i64 (pN a), .int .i64 (pM a), .int .i64 (pG a), .int .i64 (pT a), .int .i64 (pL a)] 165)).alloc (.cells #[.int .i64 (pS a), .int .i64 (pC a), .int .i64 (pN a), .int .i64 (pM a), .int .i64 (pG a), .int .i64 (pT a), .int .i64 (pL a)] 74) := by
  go_enter Tryd.func49, Tryd.ntmps49
  go_wp2_with (go_at_call 61; refine (cOf a h h' _ W).mono ?_; rintro e w1 ⟨rfl, rfl⟩)
  go_ret
  exact ⟨rfl, rfl⟩

theorem cMoved3 (a x : Int) (h : 0 ≤ a) (h' : a ≤ 18446744073709551615) (c1 : (pS a == 1) = false) (w : World) (W : Wid w) :
    Calls Tryd.prog 49 #[.int .u64 a, .int .i64 x] w fun e w' => e = .returned (.int .i64 (x)) ∧ w' = ((((w.alloc (.cells #[.int .i64 (pS a), .int .i64 (pC a), .int .i64 (pN a), .int .i64 (pM a), .int .i64 (pG a), .int .i64 (pT a), .int .i64 (pL a)] 74)).alloc (.cells #[.int .i64 (pS a), .int .i64 (pC a), .int .i64 (pN a), .int .i64 (pM a), .int .i64 (pG a), .int .i64 (pT a), .int .i64 (pL a)] 165)).alloc (.cells #[.int .i64 (pS a), .int .i64 (pC a), .int .i64 (pN a), .int .i64 (pM a), .int .i64 (pG a), .int .i64 (pT a), .int .i64 (pL a)] 165)).alloc (.cells #[.int .i64 (pS a), .int .i64 (pC a), .int .i64 (pN a), .int .i64 (pM a), .int .i64 (pG a), .int .i64 (pT a), .int .i64 (pL a)] 165)).alloc (.cells #[.int .i64 (pS a), .int .i64 (pC a), .int .i64 (pN a), .int .i64 (pM a), .int .i64 (pG a), .int .i64 (pT a), .int .i64 (pL a)] 74) := by
  go_enter Tryd.func49, Tryd.ntmps49
  go_wp2_with (go_at_call 61; refine (cOf a h h' _ W).mono ?_; rintro e w1 ⟨rfl, rfl⟩)
  go_ret
  exact ⟨rfl, rfl⟩

theorem cMoved (a x : Int) (h : 0 ≤ a) (h' : a ≤ 18446744073709551615) (w : World) (W : Wid w) :
    Calls Tryd.prog 49 #[.int .u64 a, .int .i64 x] w fun e w' => e = .returned (.int .i64 (mv a x)) ∧ w' = ((((w.alloc (.cells #[.int .i64 (pS a), .int .i64 (pC a), .int .i64 (pN a), .int .i64 (pM a), .int .i64 (pG a), .int .i64 (pT a), .int .i64 (pL a)] 74)).alloc (.cells #[.int .i64 (pS a), .int .i64 (pC a), .int .i64 (pN a), .int .i64 (pM a), .int .i64 (pG a), .int .i64 (pT a), .int .i64 (pL a)] 165)).alloc (.cells #[.int .i64 (pS a), .int .i64 (pC a), .int .i64 (pN a), .int .i64 (pM a), .int .i64 (pG a), .int .i64 (pT a), .int .i64 (pL a)] 165)).alloc (.cells #[.int .i64 (pS a), .int .i64 (pC a), .int .i64 (pN a), .int .i64 (pM a), .int .i64 (pG a), .int .i64 (pT a), .int .i64 (pL a)] 165)).alloc (.cells #[.int .i64 (pS a), .int .i64 (pC a), .int .i64 (pN a), .int .i64 (pM a), .int .i64 (pG a), .int .i64 (pT a), .int .i64 (pL a)] 74) := by
  by_cases c1 : pS a = 1
  · by_cases c2 : pT a = 2
    · have := cMoved1 a x h h' (by simpa using c1) (by simpa using c2) w W
      rwa [show mv a x = pL a by simp [mv, c1, c2]]
    · have := cMoved2 a x h h' (by simpa using c1) (by simpa using c2) w W
      rwa [show mv a x = x by simp [mv, c2]]
  · have := cMoved3 a x h h' (by simpa using c1) w W
    rwa [show mv a x = x by simp [mv, c1]]

end Go.Proofs.YtoablodmodnamaaDoor.H

namespace Go.Proofs.YtoablodmodnamaaDoor.H
open Go.ChangeShapes Go.WideShapes Go.ChangeAt Go.RowKit
open Plain

theorem rBits (a n p : Int) (h : 0 ≤ a) (hp : n = 1 ∧ p = 2 ∨ n = 2 ∧ p = 4 ∨ n = 3 ∧ p = 8 ∨ n = 12 ∧ p = 4096) (w : World) :
    Calls Tryd.prog 67 #[.int .u64 a, .int .i64 n] w fun e w' => e = .returned (.int .u64 (a % p)) ∧ w' = w := by
  have e1 : a.tmod 2 = a % 2 := Int.tmod_eq_emod_of_nonneg h
  have e3 : a.tmod 4 = a % 4 := Int.tmod_eq_emod_of_nonneg h
  have e7 : a.tmod 8 = a % 8 := Int.tmod_eq_emod_of_nonneg h
  have e4 : a.tmod 4096 = a % 4096 := Int.tmod_eq_emod_of_nonneg h
  rcases hp with ⟨rfl, rfl⟩ | ⟨rfl, rfl⟩ | ⟨rfl, rfl⟩ | ⟨rfl, rfl⟩ <;>
  · go_enter Tryd.func67, Tryd.ntmps67
    go_wp2
    go_ret
    exact ⟨rfl, rfl⟩

theorem rPart (a k n q p : Int) (h : 0 ≤ a) (h' : a ≤ 18446744073709551615) (hp : k = 0 ∧ q = 1 ∧ n = 2 ∧ p = 4 ∨ k = 2 ∧ q = 4 ∧ n = 2 ∧ p = 4 ∨ k = 4 ∧ q = 16 ∧ n = 3 ∧ p = 8 ∨ k = 7 ∧ q = 128 ∧ n = 1 ∧ p = 2 ∨ k = 8 ∧ q = 256 ∧ n = 1 ∧ p = 2 ∨ k = 9 ∧ q = 512 ∧ n = 3 ∧ p = 8 ∨ k = 12 ∧ q = 4096 ∧ n = 12 ∧ p = 4096) (w : World) :
    Calls Tryd.prog 66 #[.int .u64 a, .int .i64 k, .int .i64 n] w fun e w' => e = .returned (.int .i64 (a / q % p)) ∧ w' = w := by
  rcases hp with ⟨rfl, rfl, rfl, rfl⟩ | ⟨rfl, rfl, rfl, rfl⟩ | ⟨rfl, rfl, rfl, rfl⟩ | ⟨rfl, rfl, rfl, rfl⟩ | ⟨rfl, rfl, rfl, rfl⟩ | ⟨rfl, rfl, rfl, rfl⟩ | ⟨rfl, rfl, rfl, rfl⟩ <;>
  · go_enter Tryd.func66, Tryd.ntmps66
    go_wp2_with (go_at_call 67; refine (rBits _ _ _ (by omega) (by first | exact Or.inl ⟨rfl, rfl⟩ | exact Or.inr (Or.inl ⟨rfl, rfl⟩) | exact Or.inr (Or.inr (Or.inl ⟨rfl, rfl⟩)) | exact Or.inr (Or.inr (Or.inr ⟨rfl, rfl⟩))) _).mono ?_; rintro e w' ⟨rfl, rfl⟩)
    go_ret
    exact ⟨by first | rfl | simp, rfl⟩

theorem rOf (a : Int) (h : 0 ≤ a) (h' : a ≤ 18446744073709551615) (w : World) :
    Calls Tryd.prog 27 #[.int .u64 a] w fun e w' => e = .returned (.agg #[.int .i64 (pS a), .int .i64 (pC a), .int .i64 (pN a), .int .i64 (pM a), .int .i64 (pG a), .int .i64 (pT a), .int .i64 (pL a)]) ∧ w' = w.alloc (.cells #[.int .i64 (pS a), .int .i64 (pC a), .int .i64 (pN a), .int .i64 (pM a), .int .i64 (pG a), .int .i64 (pT a), .int .i64 (pL a)] 74) := by
  go_enter Tryd.func27, Tryd.ntmps27
  go_wp2_with (go_at_call 66; refine (rPart _ _ _ _ _ h h' (by first | exact Or.inl ⟨rfl, rfl, rfl, rfl⟩ | exact Or.inr (Or.inl ⟨rfl, rfl, rfl, rfl⟩) | exact Or.inr (Or.inr (Or.inl ⟨rfl, rfl, rfl, rfl⟩)) | exact Or.inr (Or.inr (Or.inr (Or.inl ⟨rfl, rfl, rfl, rfl⟩))) | exact Or.inr (Or.inr (Or.inr (Or.inr (Or.inl ⟨rfl, rfl, rfl, rfl⟩)))) | exact Or.inr (Or.inr (Or.inr (Or.inr (Or.inr (Or.inl ⟨rfl, rfl, rfl, rfl⟩))))) | exact Or.inr (Or.inr (Or.inr (Or.inr (Or.inr (Or.inr ⟨rfl, rfl, rfl, rfl⟩)))))) _).mono ?_; rintro e w' ⟨rfl, rfl⟩)
  exact bodyPost_ret (v := .agg #[.int .i64 (pS a), .int .i64 (pC a), .int .i64 (pN a), .int .i64 (pM a), .int .i64 (pG a), .int .i64 (pT a), .int .i64 (pL a)]) (by simp [results, Tryd.results27, go_sem, pS, pC, pN, pM, pG, pT, pL]) rfl ⟨rfl, by simp [pS, pC, pN, pM, pG, pT, pL]⟩

theorem rMoved1 (a x : Int) (h : 0 ≤ a) (h' : a ≤ 18446744073709551615) (c1 : (pS a == 1) = true) (c2 : (pT a == 2) = true) (w : World) :
    Calls Tryd.prog 54 #[.int .u64 a, .int .i64 x] w fun e w' => e = .returned (.int .i64 (pL a)) ∧ w' = (w.alloc (.cells #[.int .i64 (pS a), .int .i64 (pC a), .int .i64 (pN a), .int .i64 (pM a), .int .i64 (pG a), .int .i64 (pT a), .int .i64 (pL a)] 74)).alloc (.cells #[.int .i64 (pS a), .int .i64 (pC a), .int .i64 (pN a), .int .i64 (pM a), .int .i64 (pG a), .int .i64 (pT a), .int .i64 (pL a)] 74) := by
  go_enter Tryd.func54, Tryd.ntmps54
  go_wp2_with (go_at_call 27; refine (rOf a h h' _).mono ?_; rintro e w1 ⟨rfl, rfl⟩)
  go_ret
  exact ⟨rfl, rfl⟩

theorem rMoved2 (a x : Int) (h : 0 ≤ a) (h' : a ≤ 18446744073709551615) (c1 : (pS a == 1) = true) (c2 : (pT a == 2) = false) (w : World) :
    Calls Tryd.prog 54 #[.int .u64 a, .int .i64 x] w fun e w' => e = .returned (.int .i64 x) ∧ w' = (w.alloc (.cells #[.int .i64 (pS a), .int .i64 (pC a), .int .i64 (pN a), .int .i64 (pM a), .int .i64 (pG a), .int .i64 (pT a), .int .i64 (pL a)] 74)).alloc (.cells #[.int .i64 (pS a), .int .i64 (pC a), .int .i64 (pN a), .int .i64 (pM a), .int .i64 (pG a), .int .i64 (pT a), .int .i64 (pL a)] 74) := by
  go_enter Tryd.func54, Tryd.ntmps54
  go_wp2_with (go_at_call 27; refine (rOf a h h' _).mono ?_; rintro e w1 ⟨rfl, rfl⟩)
  go_ret
  exact ⟨rfl, rfl⟩

theorem rMoved3 (a x : Int) (h : 0 ≤ a) (h' : a ≤ 18446744073709551615) (c1 : (pS a == 1) = false) (w : World) :
    Calls Tryd.prog 54 #[.int .u64 a, .int .i64 x] w fun e w' => e = .returned (.int .i64 x) ∧ w' = (w.alloc (.cells #[.int .i64 (pS a), .int .i64 (pC a), .int .i64 (pN a), .int .i64 (pM a), .int .i64 (pG a), .int .i64 (pT a), .int .i64 (pL a)] 74)).alloc (.cells #[.int .i64 (pS a), .int .i64 (pC a), .int .i64 (pN a), .int .i64 (pM a), .int .i64 (pG a), .int .i64 (pT a), .int .i64 (pL a)] 74) := by
  go_enter Tryd.func54, Tryd.ntmps54
  go_wp2_with (go_at_call 27; refine (rOf a h h' _).mono ?_; rintro e w1 ⟨rfl, rfl⟩)
  go_ret
  exact ⟨rfl, rfl⟩

theorem rMoved (a x : Int) (h : 0 ≤ a) (h' : a ≤ 18446744073709551615) (w : World) :
    Calls Tryd.prog 54 #[.int .u64 a, .int .i64 x] w fun e w' => e = .returned (.int .i64 (mv a x)) ∧ w' = (w.alloc (.cells #[.int .i64 (pS a), .int .i64 (pC a), .int .i64 (pN a), .int .i64 (pM a), .int .i64 (pG a), .int .i64 (pT a), .int .i64 (pL a)] 74)).alloc (.cells #[.int .i64 (pS a), .int .i64 (pC a), .int .i64 (pN a), .int .i64 (pM a), .int .i64 (pG a), .int .i64 (pT a), .int .i64 (pL a)] 74) := by
  by_cases c1 : pS a = 1
  · by_cases c2 : pT a = 2
    · have := rMoved1 a x h h' (by simpa using c1) (by simpa using c2) w
      rwa [show mv a x = pL a by simp [mv, c1, c2]]
    · have := rMoved2 a x h h' (by simpa using c1) (by simpa using c2) w
      rwa [show mv a x = x by simp [mv, c2]]
  · have := rMoved3 a x h h' (by simpa using c1) w
    rwa [show mv a x = x by simp [mv, c1]]

/-- the parts, added up -/
theorem rWord (s c n m g t l : Int) (w : World) :
    Calls Tryd.prog 38 #[.agg #[.int .i64 s, .int .i64 c, .int .i64 n, .int .i64 m, .int .i64 g, .int .i64 t, .int .i64 l]] w fun e w' => e = .returned (.int .u64 (hw s c n m g t l)) ∧
      w' = w.alloc (.cells #[.int .i64 s, .int .i64 c, .int .i64 n, .int .i64 m, .int .i64 g, .int .i64 t, .int .i64 l] 74) := by
  have E : Hid (IntKind.u64.wrap s % 4 + IntKind.u64.wrap c % 4 * 4 + IntKind.u64.wrap n % 8 * 16 + IntKind.u64.wrap m % 2 * 128 + IntKind.u64.wrap g % 2 * 256 + IntKind.u64.wrap t % 8 * 512 + IntKind.u64.wrap l % 4096 * 4096 = hw s c n m g t l) := by
    show _ = _
    simp only [wrap_u64]
    unfold hw
    omega
  go_enter Tryd.func38, Tryd.ntmps38
  go_wp2_with (go_at_call 67; refine (rBits _ _ _ (wrap_nonneg _) (by first | exact Or.inl ⟨rfl, rfl⟩ | exact Or.inr (Or.inl ⟨rfl, rfl⟩) | exact Or.inr (Or.inr (Or.inl ⟨rfl, rfl⟩)) | exact Or.inr (Or.inr (Or.inr ⟨rfl, rfl⟩))) _).mono ?_; rintro e w' ⟨rfl, rfl⟩)
  go_ret
  refine ⟨?_, rfl⟩
  rw [← E.out]
  rfl
end Go.Proofs.YtoablodmodnamaaDoor.H
