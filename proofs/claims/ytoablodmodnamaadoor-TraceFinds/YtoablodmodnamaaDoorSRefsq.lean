/-
  What each of the document's own answers of layer 3 comes to when it is called: one contract a function.
-/
import Derived.Test.YtoablodmodnamaaDoorSCallsAq
namespace Go.Proofs.YtoablodmodnamaaDoor.S
open Go.ChangeShapes Go.WideShapes Go.ChangeAt Go.RowKit
open Plain

theorem rBits (a n p : Int) (h : 0 ≤ a) (hp : (n = 12 ∧ p = 4096) ∨ (n = 40 ∧ p = 1099511627776) ∨ (n = 4 ∧ p = 16) ∨ (n = 1 ∧ p = 2) ∨ (n = 2 ∧ p = 4) ∨ (n = 7 ∧ p = 128)) (w : World) :
    Calls Tryd.prog 67 #[.int .u64 a, .int .i64 n] w fun e w' => e = .returned (.int .u64 (a % p)) ∧ w' = w := by
  have e12 : a.tmod 4096 = a % 4096 := Int.tmod_eq_emod_of_nonneg h
  have e40 : a.tmod 1099511627776 = a % 1099511627776 := Int.tmod_eq_emod_of_nonneg h
  have e4 : a.tmod 16 = a % 16 := Int.tmod_eq_emod_of_nonneg h
  have e1 : a.tmod 2 = a % 2 := Int.tmod_eq_emod_of_nonneg h
  have e2 : a.tmod 4 = a % 4 := Int.tmod_eq_emod_of_nonneg h
  have e7 : a.tmod 128 = a % 128 := Int.tmod_eq_emod_of_nonneg h
  rcases hp with ⟨rfl, rfl⟩ | ⟨rfl, rfl⟩ | ⟨rfl, rfl⟩ | ⟨rfl, rfl⟩ | ⟨rfl, rfl⟩ | ⟨rfl, rfl⟩ <;>
  · go_enter Tryd.func67, Tryd.ntmps67
    go_wp2
    go_ret
    exact ⟨rfl, rfl⟩

theorem rPart (a k q n p : Int) (h : 0 ≤ a) (h' : a ≤ 18446744073709551615) (hp : (k = 0 ∧ q = 1 ∧ n = 12 ∧ p = 4096) ∨ (k = 12 ∧ q = 4096 ∧ n = 40 ∧ p = 1099511627776) ∨ (k = 0 ∧ q = 1 ∧ n = 40 ∧ p = 1099511627776) ∨ (k = 40 ∧ q = 1099511627776 ∧ n = 4 ∧ p = 16) ∨ (k = 44 ∧ q = 17592186044416 ∧ n = 1 ∧ p = 2) ∨ (k = 45 ∧ q = 35184372088832 ∧ n = 1 ∧ p = 2) ∨ (k = 0 ∧ q = 1 ∧ n = 2 ∧ p = 4) ∨ (k = 2 ∧ q = 4 ∧ n = 2 ∧ p = 4) ∨ (k = 4 ∧ q = 16 ∧ n = 1 ∧ p = 2) ∨ (k = 5 ∧ q = 32 ∧ n = 7 ∧ p = 128)) (w : World) :
    Calls Tryd.prog 66 #[.int .u64 a, .int .i64 k, .int .i64 n] w fun e w' => e = .returned (.int .i64 (a / q % p)) ∧ w' = w := by
  rcases hp with ⟨rfl, rfl, rfl, rfl⟩ | ⟨rfl, rfl, rfl, rfl⟩ | ⟨rfl, rfl, rfl, rfl⟩ | ⟨rfl, rfl, rfl, rfl⟩ | ⟨rfl, rfl, rfl, rfl⟩ | ⟨rfl, rfl, rfl, rfl⟩ | ⟨rfl, rfl, rfl, rfl⟩ | ⟨rfl, rfl, rfl, rfl⟩ | ⟨rfl, rfl, rfl, rfl⟩ | ⟨rfl, rfl, rfl, rfl⟩ <;>
  · go_enter Tryd.func66, Tryd.ntmps66
    go_wp2_with (go_at_call 67; refine (rBits _ _ _ (by omega) (by first | exact Or.inl ⟨rfl, rfl⟩ | exact Or.inr (Or.inl ⟨rfl, rfl⟩) | exact Or.inr (Or.inr (Or.inl ⟨rfl, rfl⟩)) | exact Or.inr (Or.inr (Or.inr (Or.inl ⟨rfl, rfl⟩))) | exact Or.inr (Or.inr (Or.inr (Or.inr (Or.inl ⟨rfl, rfl⟩)))) | exact Or.inr (Or.inr (Or.inr (Or.inr (Or.inr (⟨rfl, rfl⟩)))))) _).mono ?_; rintro e w' ⟨rfl, rfl⟩)
    go_ret
    exact ⟨by first | rfl | simp, rfl⟩

theorem rPut (a x k q n p : Int) (hp : (k = 0 ∧ q = 1 ∧ n = 12 ∧ p = 4096) ∨ (k = 12 ∧ q = 4096 ∧ n = 40 ∧ p = 1099511627776) ∨ (k = 0 ∧ q = 1 ∧ n = 40 ∧ p = 1099511627776) ∨ (k = 40 ∧ q = 1099511627776 ∧ n = 4 ∧ p = 16) ∨ (k = 44 ∧ q = 17592186044416 ∧ n = 1 ∧ p = 2) ∨ (k = 45 ∧ q = 35184372088832 ∧ n = 1 ∧ p = 2) ∨ (k = 0 ∧ q = 1 ∧ n = 2 ∧ p = 4) ∨ (k = 2 ∧ q = 4 ∧ n = 2 ∧ p = 4) ∨ (k = 4 ∧ q = 16 ∧ n = 1 ∧ p = 2) ∨ (k = 5 ∧ q = 32 ∧ n = 7 ∧ p = 128)) (h : 0 ≤ a) (h' : a < q) (w : World) :
    Calls Tryd.prog 82 #[.int .u64 a, .int .i64 x, .int .i64 k, .int .i64 n] w fun e w' => e = .returned (.int .u64 (a + x % p * q)) ∧ w' = w := by
  have e12 : IntKind.u64.wrap x % 4096 = x % 4096 := by rw [wrap_u64]; omega
  have e40 : IntKind.u64.wrap x % 1099511627776 = x % 1099511627776 := by rw [wrap_u64]; omega
  have e4 : IntKind.u64.wrap x % 16 = x % 16 := by rw [wrap_u64]; omega
  have e1 : IntKind.u64.wrap x % 2 = x % 2 := by rw [wrap_u64]; omega
  have e2 : IntKind.u64.wrap x % 4 = x % 4 := by rw [wrap_u64]; omega
  have e7 : IntKind.u64.wrap x % 128 = x % 128 := by rw [wrap_u64]; omega
  rcases hp with ⟨rfl, rfl, rfl, rfl⟩ | ⟨rfl, rfl, rfl, rfl⟩ | ⟨rfl, rfl, rfl, rfl⟩ | ⟨rfl, rfl, rfl, rfl⟩ | ⟨rfl, rfl, rfl, rfl⟩ | ⟨rfl, rfl, rfl, rfl⟩ | ⟨rfl, rfl, rfl, rfl⟩ | ⟨rfl, rfl, rfl, rfl⟩ | ⟨rfl, rfl, rfl, rfl⟩ | ⟨rfl, rfl, rfl, rfl⟩ <;>
  · go_enter Tryd.func82, Tryd.ntmps82
    go_wp2_with (go_at_call 67; refine (rBits _ _ _ (wrap_nonneg _) (by first | exact Or.inl ⟨rfl, rfl⟩ | exact Or.inr (Or.inl ⟨rfl, rfl⟩) | exact Or.inr (Or.inr (Or.inl ⟨rfl, rfl⟩)) | exact Or.inr (Or.inr (Or.inr (Or.inl ⟨rfl, rfl⟩))) | exact Or.inr (Or.inr (Or.inr (Or.inr (Or.inl ⟨rfl, rfl⟩)))) | exact Or.inr (Or.inr (Or.inr (Or.inr (Or.inr (⟨rfl, rfl⟩)))))) _).mono ?_; rintro e w' ⟨rfl, rfl⟩)
    go_ret
    exact ⟨by first | rfl | simp, rfl⟩

theorem rTop (x y : Int) (w : World) :
    Calls Tryd.prog 92 #[.agg #[.int .i64 x, .int .i64 y]] w fun e w' => e = .returned (.int .u64 (tw x y)) ∧ ∃ m, w' = (w.alloc (.cells #[.int .i64 x, .int .i64 y] 91)).drewN m := by
  have E : Hid (x % 4096 + y % 1099511627776 * 4096 = tw x y) := by
    show _ = _
    unfold tw
    omega
  go_enter Tryd.func92, Tryd.ntmps92
  go_wp2
  go_quiet ((go_at_call 82; exact Calls.quiet_of_same (rPut _ _ _ _ _ _ (by first | exact Or.inl ⟨rfl, rfl, rfl, rfl⟩ | exact Or.inr (Or.inl ⟨rfl, rfl, rfl, rfl⟩) | exact Or.inr (Or.inr (Or.inl ⟨rfl, rfl, rfl, rfl⟩)) | exact Or.inr (Or.inr (Or.inr (Or.inl ⟨rfl, rfl, rfl, rfl⟩))) | exact Or.inr (Or.inr (Or.inr (Or.inr (Or.inl ⟨rfl, rfl, rfl, rfl⟩)))) | exact Or.inr (Or.inr (Or.inr (Or.inr (Or.inr (Or.inl ⟨rfl, rfl, rfl, rfl⟩))))) | exact Or.inr (Or.inr (Or.inr (Or.inr (Or.inr (Or.inr (Or.inl ⟨rfl, rfl, rfl, rfl⟩)))))) | exact Or.inr (Or.inr (Or.inr (Or.inr (Or.inr (Or.inr (Or.inr (Or.inl ⟨rfl, rfl, rfl, rfl⟩))))))) | exact Or.inr (Or.inr (Or.inr (Or.inr (Or.inr (Or.inr (Or.inr (Or.inr (Or.inl ⟨rfl, rfl, rfl, rfl⟩)))))))) | exact Or.inr (Or.inr (Or.inr (Or.inr (Or.inr (Or.inr (Or.inr (Or.inr (Or.inr (⟨rfl, rfl, rfl, rfl⟩)))))))))) (by omega) (by omega) _)))
  go_wp2
  go_ret
  refine ⟨?_, _, rfl⟩
  rw [← E.out]
  rfl

theorem rPhase (x y z u : Int) (w : World) :
    Calls Tryd.prog 43 #[.agg #[.int .i64 x, .int .i64 y, .int .i64 z, .int .i64 u]] w fun e w' => e = .returned (.int .u64 (pw x y z u)) ∧ ∃ m, w' = (w.alloc (.cells #[.int .i64 x, .int .i64 y, .int .i64 z, .int .i64 u] 37)).drewN m := by
  have E : Hid (x % 1099511627776 + y % 16 * 1099511627776 + z % 2 * 17592186044416 + u % 2 * 35184372088832 = pw x y z u) := by
    show _ = _
    unfold pw
    omega
  go_enter Tryd.func43, Tryd.ntmps43
  go_wp2
  go_quiet ((go_at_call 82; exact Calls.quiet_of_same (rPut _ _ _ _ _ _ (by first | exact Or.inl ⟨rfl, rfl, rfl, rfl⟩ | exact Or.inr (Or.inl ⟨rfl, rfl, rfl, rfl⟩) | exact Or.inr (Or.inr (Or.inl ⟨rfl, rfl, rfl, rfl⟩)) | exact Or.inr (Or.inr (Or.inr (Or.inl ⟨rfl, rfl, rfl, rfl⟩))) | exact Or.inr (Or.inr (Or.inr (Or.inr (Or.inl ⟨rfl, rfl, rfl, rfl⟩)))) | exact Or.inr (Or.inr (Or.inr (Or.inr (Or.inr (Or.inl ⟨rfl, rfl, rfl, rfl⟩))))) | exact Or.inr (Or.inr (Or.inr (Or.inr (Or.inr (Or.inr (Or.inl ⟨rfl, rfl, rfl, rfl⟩)))))) | exact Or.inr (Or.inr (Or.inr (Or.inr (Or.inr (Or.inr (Or.inr (Or.inl ⟨rfl, rfl, rfl, rfl⟩))))))) | exact Or.inr (Or.inr (Or.inr (Or.inr (Or.inr (Or.inr (Or.inr (Or.inr (Or.inl ⟨rfl, rfl, rfl, rfl⟩)))))))) | exact Or.inr (Or.inr (Or.inr (Or.inr (Or.inr (Or.inr (Or.inr (Or.inr (Or.inr (⟨rfl, rfl, rfl, rfl⟩)))))))))) (by omega) (by omega) _)))
  go_wp2
  go_ret
  refine ⟨?_, _, rfl⟩
  rw [← E.out]
  rfl

theorem rBlock (x y z u : Int) (w : World) :
    Calls Tryd.prog 90 #[.agg #[.int .i64 x, .int .i64 y, .int .i64 z, .int .i64 u]] w fun e w' => e = .returned (.int .u64 (bw x y z u)) ∧ ∃ m, w' = (w.alloc (.cells #[.int .i64 x, .int .i64 y, .int .i64 z, .int .i64 u] 157)).drewN m := by
  have E : Hid (x % 4 + y % 4 * 4 + z % 2 * 16 + u % 128 * 32 = bw x y z u) := by
    show _ = _
    unfold bw
    omega
  go_enter Tryd.func90, Tryd.ntmps90
  go_wp2
  go_quiet ((go_at_call 82; exact Calls.quiet_of_same (rPut _ _ _ _ _ _ (by first | exact Or.inl ⟨rfl, rfl, rfl, rfl⟩ | exact Or.inr (Or.inl ⟨rfl, rfl, rfl, rfl⟩) | exact Or.inr (Or.inr (Or.inl ⟨rfl, rfl, rfl, rfl⟩)) | exact Or.inr (Or.inr (Or.inr (Or.inl ⟨rfl, rfl, rfl, rfl⟩))) | exact Or.inr (Or.inr (Or.inr (Or.inr (Or.inl ⟨rfl, rfl, rfl, rfl⟩)))) | exact Or.inr (Or.inr (Or.inr (Or.inr (Or.inr (Or.inl ⟨rfl, rfl, rfl, rfl⟩))))) | exact Or.inr (Or.inr (Or.inr (Or.inr (Or.inr (Or.inr (Or.inl ⟨rfl, rfl, rfl, rfl⟩)))))) | exact Or.inr (Or.inr (Or.inr (Or.inr (Or.inr (Or.inr (Or.inr (Or.inl ⟨rfl, rfl, rfl, rfl⟩))))))) | exact Or.inr (Or.inr (Or.inr (Or.inr (Or.inr (Or.inr (Or.inr (Or.inr (Or.inl ⟨rfl, rfl, rfl, rfl⟩)))))))) | exact Or.inr (Or.inr (Or.inr (Or.inr (Or.inr (Or.inr (Or.inr (Or.inr (Or.inr (⟨rfl, rfl, rfl, rfl⟩)))))))))) (by omega) (by omega) _)))
  go_wp2
  go_ret
  refine ⟨?_, _, rfl⟩
  rw [← E.out]
  rfl

theorem rOfTop (a : Int) (h : 0 ≤ a) (h' : a ≤ 18446744073709551615) (w : World) :
    Calls Tryd.prog 33 #[.int .u64 a] w fun e w' => e = .returned (.agg #[.int .i64 (t0 a), .int .i64 (t1 a)]) ∧ w' = w.alloc (.cells #[.int .i64 (t0 a), .int .i64 (t1 a)] 91) := by
  go_enter Tryd.func33, Tryd.ntmps33
  go_wp2_with (go_at_call 66; refine (rPart _ _ _ _ _ h h' (by first | exact Or.inl ⟨rfl, rfl, rfl, rfl⟩ | exact Or.inr (Or.inl ⟨rfl, rfl, rfl, rfl⟩) | exact Or.inr (Or.inr (Or.inl ⟨rfl, rfl, rfl, rfl⟩)) | exact Or.inr (Or.inr (Or.inr (Or.inl ⟨rfl, rfl, rfl, rfl⟩))) | exact Or.inr (Or.inr (Or.inr (Or.inr (Or.inl ⟨rfl, rfl, rfl, rfl⟩)))) | exact Or.inr (Or.inr (Or.inr (Or.inr (Or.inr (Or.inl ⟨rfl, rfl, rfl, rfl⟩))))) | exact Or.inr (Or.inr (Or.inr (Or.inr (Or.inr (Or.inr (Or.inl ⟨rfl, rfl, rfl, rfl⟩)))))) | exact Or.inr (Or.inr (Or.inr (Or.inr (Or.inr (Or.inr (Or.inr (Or.inl ⟨rfl, rfl, rfl, rfl⟩))))))) | exact Or.inr (Or.inr (Or.inr (Or.inr (Or.inr (Or.inr (Or.inr (Or.inr (Or.inl ⟨rfl, rfl, rfl, rfl⟩)))))))) | exact Or.inr (Or.inr (Or.inr (Or.inr (Or.inr (Or.inr (Or.inr (Or.inr (Or.inr (⟨rfl, rfl, rfl, rfl⟩)))))))))) _).mono ?_; rintro e w' ⟨rfl, rfl⟩)
  exact bodyPost_ret (v := .agg #[.int .i64 (t0 a), .int .i64 (t1 a)]) (by simp [results, Tryd.results33, go_sem, t0, t1]) rfl ⟨rfl, by simp [t0, t1]⟩

theorem rOfPhase (a : Int) (h : 0 ≤ a) (h' : a ≤ 18446744073709551615) (w : World) :
    Calls Tryd.prog 51 #[.int .u64 a] w fun e w' => e = .returned (.agg #[.int .i64 (p0 a), .int .i64 (p1 a), .int .i64 (p2 a), .int .i64 (p3 a)]) ∧ w' = w.alloc (.cells #[.int .i64 (p0 a), .int .i64 (p1 a), .int .i64 (p2 a), .int .i64 (p3 a)] 37) := by
  go_enter Tryd.func51, Tryd.ntmps51
  go_wp2_with (go_at_call 66; refine (rPart _ _ _ _ _ h h' (by first | exact Or.inl ⟨rfl, rfl, rfl, rfl⟩ | exact Or.inr (Or.inl ⟨rfl, rfl, rfl, rfl⟩) | exact Or.inr (Or.inr (Or.inl ⟨rfl, rfl, rfl, rfl⟩)) | exact Or.inr (Or.inr (Or.inr (Or.inl ⟨rfl, rfl, rfl, rfl⟩))) | exact Or.inr (Or.inr (Or.inr (Or.inr (Or.inl ⟨rfl, rfl, rfl, rfl⟩)))) | exact Or.inr (Or.inr (Or.inr (Or.inr (Or.inr (Or.inl ⟨rfl, rfl, rfl, rfl⟩))))) | exact Or.inr (Or.inr (Or.inr (Or.inr (Or.inr (Or.inr (Or.inl ⟨rfl, rfl, rfl, rfl⟩)))))) | exact Or.inr (Or.inr (Or.inr (Or.inr (Or.inr (Or.inr (Or.inr (Or.inl ⟨rfl, rfl, rfl, rfl⟩))))))) | exact Or.inr (Or.inr (Or.inr (Or.inr (Or.inr (Or.inr (Or.inr (Or.inr (Or.inl ⟨rfl, rfl, rfl, rfl⟩)))))))) | exact Or.inr (Or.inr (Or.inr (Or.inr (Or.inr (Or.inr (Or.inr (Or.inr (Or.inr (⟨rfl, rfl, rfl, rfl⟩)))))))))) _).mono ?_; rintro e w' ⟨rfl, rfl⟩)
  exact bodyPost_ret (v := .agg #[.int .i64 (p0 a), .int .i64 (p1 a), .int .i64 (p2 a), .int .i64 (p3 a)]) (by simp [results, Tryd.results51, go_sem, p0, p1, p2, p3]) rfl ⟨rfl, by simp [p0, p1, p2, p3]⟩

theorem rOfBlock (a : Int) (h : 0 ≤ a) (h' : a ≤ 18446744073709551615) (w : World) :
    Calls Tryd.prog 114 #[.int .u64 a] w fun e w' => e = .returned (.agg #[.int .i64 (b0 a), .int .i64 (b1 a), .int .i64 (b2 a), .int .i64 (b3 a)]) ∧ w' = w.alloc (.cells #[.int .i64 (b0 a), .int .i64 (b1 a), .int .i64 (b2 a), .int .i64 (b3 a)] 157) := by
  go_enter Tryd.func114, Tryd.ntmps114
  go_wp2_with (go_at_call 66; refine (rPart _ _ _ _ _ h h' (by first | exact Or.inl ⟨rfl, rfl, rfl, rfl⟩ | exact Or.inr (Or.inl ⟨rfl, rfl, rfl, rfl⟩) | exact Or.inr (Or.inr (Or.inl ⟨rfl, rfl, rfl, rfl⟩)) | exact Or.inr (Or.inr (Or.inr (Or.inl ⟨rfl, rfl, rfl, rfl⟩))) | exact Or.inr (Or.inr (Or.inr (Or.inr (Or.inl ⟨rfl, rfl, rfl, rfl⟩)))) | exact Or.inr (Or.inr (Or.inr (Or.inr (Or.inr (Or.inl ⟨rfl, rfl, rfl, rfl⟩))))) | exact Or.inr (Or.inr (Or.inr (Or.inr (Or.inr (Or.inr (Or.inl ⟨rfl, rfl, rfl, rfl⟩)))))) | exact Or.inr (Or.inr (Or.inr (Or.inr (Or.inr (Or.inr (Or.inr (Or.inl ⟨rfl, rfl, rfl, rfl⟩))))))) | exact Or.inr (Or.inr (Or.inr (Or.inr (Or.inr (Or.inr (Or.inr (Or.inr (Or.inl ⟨rfl, rfl, rfl, rfl⟩)))))))) | exact Or.inr (Or.inr (Or.inr (Or.inr (Or.inr (Or.inr (Or.inr (Or.inr (Or.inr (⟨rfl, rfl, rfl, rfl⟩)))))))))) _).mono ?_; rintro e w' ⟨rfl, rfl⟩)
  exact bodyPost_ret (v := .agg #[.int .i64 (b0 a), .int .i64 (b1 a), .int .i64 (b2 a), .int .i64 (b3 a)]) (by simp [results, Tryd.results114, go_sem, b0, b1, b2, b3]) rfl ⟨rfl, by simp [b0, b1, b2, b3]⟩

theorem hTop (x y : Int) (w : World) :
    Calls Tryd.prog 92 #[.agg #[.int .i64 x, .int .i64 y]] w fun e w' => e = .returned (.int .u64 (tw x y)) ∧ Below w.heap.size w w' :=
  (rTop x y w).mono fun _ _ ⟨he, _, hw⟩ => ⟨he, hw ▸ bdr (bal (Below.refl _ _) _) _⟩

theorem hPhase (x y z u : Int) (w : World) :
    Calls Tryd.prog 43 #[.agg #[.int .i64 x, .int .i64 y, .int .i64 z, .int .i64 u]] w fun e w' => e = .returned (.int .u64 (pw x y z u)) ∧ Below w.heap.size w w' :=
  (rPhase x y z u w).mono fun _ _ ⟨he, _, hw⟩ => ⟨he, hw ▸ bdr (bal (Below.refl _ _) _) _⟩

theorem hBlock (x y z u : Int) (w : World) :
    Calls Tryd.prog 90 #[.agg #[.int .i64 x, .int .i64 y, .int .i64 z, .int .i64 u]] w fun e w' => e = .returned (.int .u64 (bw x y z u)) ∧ Below w.heap.size w w' :=
  (rBlock x y z u w).mono fun _ _ ⟨he, _, hw⟩ => ⟨he, hw ▸ bdr (bal (Below.refl _ _) _) _⟩

theorem hNext (a x : Int) (h : 0 ≤ a) (h' : a ≤ 18446744073709551615) (w : World) :
    Calls Tryd.prog 87 #[.int .u64 a, .int .i64 x] w fun e w' => e = .returned (.int .u64 (nx a x)) ∧ Below w.heap.size w w' := by
  obtain ⟨v0, v1⟩ := t1_bounds a
  go_enter Tryd.func87, Tryd.ntmps87
  go_wp2_with (first
    | (go_at_call 33; refine (rOfTop a h h' _).mono ?_; rintro e w1 ⟨rfl, rfl⟩)
    | (go_at_call 92; refine (hTop _ _ _).mono ?_; rintro e w2 ⟨rfl, hb⟩))
  go_ret
  exact ⟨rfl, bt (bal (bal (Below.refl _ _) _) _) hb⟩
end Go.Proofs.YtoablodmodnamaaDoor.S
