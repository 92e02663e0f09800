/-
  What each of the document's own answers of layer 2 comes to when it is called: one contract a function.
-/
import Derived.Test.YtilknjihceemhaaDoorHCalls2
namespace Go.Proofs.YtilknjihceemhaaDoor.H
open Go.ChangeShapes Go.WideShapes Go.ChangeAt Go.RowKit
open Plain

theorem rBits (a n p : Int) (h : 0 ≤ a) (hp : n = 1 ∧ p = 2 ∨ n = 2 ∧ p = 4 ∨ n = 3 ∧ p = 8 ∨ n = 12 ∧ p = 4096) (w : World) :
    Calls Tryd.prog 66 #[.int .u64 a, .int .i64 n] w fun e w' => e = .returned (.int .u64 (a % p)) ∧ w' = w := by
  have e1 : a.tmod 2 = a % 2 := Int.tmod_eq_emod_of_nonneg h
  have e3 : a.tmod 4 = a % 4 := Int.tmod_eq_emod_of_nonneg h
  have e7 : a.tmod 8 = a % 8 := Int.tmod_eq_emod_of_nonneg h
  have e4 : a.tmod 4096 = a % 4096 := Int.tmod_eq_emod_of_nonneg h
  rcases hp with ⟨rfl, rfl⟩ | ⟨rfl, rfl⟩ | ⟨rfl, rfl⟩ | ⟨rfl, rfl⟩ <;>
  · go_enter Tryd.func66, Tryd.ntmps66
    go_wp2
    go_ret
    exact ⟨rfl, rfl⟩

theorem rPart (a k n q p : Int) (h : 0 ≤ a) (h' : a ≤ 18446744073709551615) (hp : k = 0 ∧ q = 1 ∧ n = 2 ∧ p = 4 ∨ k = 2 ∧ q = 4 ∧ n = 2 ∧ p = 4 ∨ k = 4 ∧ q = 16 ∧ n = 3 ∧ p = 8 ∨ k = 7 ∧ q = 128 ∧ n = 1 ∧ p = 2 ∨ k = 8 ∧ q = 256 ∧ n = 1 ∧ p = 2 ∨ k = 9 ∧ q = 512 ∧ n = 3 ∧ p = 8 ∨ k = 12 ∧ q = 4096 ∧ n = 12 ∧ p = 4096) (w : World) :
    Calls Tryd.prog 43 #[.int .u64 a, .int .i64 k, .int .i64 n] w fun e w' => e = .returned (.int .i64 (a / q % p)) ∧ w' = w := by
  rcases hp with ⟨rfl, rfl, rfl, rfl⟩ | ⟨rfl, rfl, rfl, rfl⟩ | ⟨rfl, rfl, rfl, rfl⟩ | ⟨rfl, rfl, rfl, rfl⟩ | ⟨rfl, rfl, rfl, rfl⟩ | ⟨rfl, rfl, rfl, rfl⟩ | ⟨rfl, rfl, rfl, rfl⟩ <;>
  · go_enter Tryd.func43, Tryd.ntmps43
    go_wp2_with (go_at_call 66; refine (rBits _ _ _ (by omega) (by first | exact Or.inl ⟨rfl, rfl⟩ | exact Or.inr (Or.inl ⟨rfl, rfl⟩) | exact Or.inr (Or.inr (Or.inl ⟨rfl, rfl⟩)) | exact Or.inr (Or.inr (Or.inr ⟨rfl, rfl⟩))) _).mono ?_; rintro e w' ⟨rfl, rfl⟩)
    go_ret
    exact ⟨by first | rfl | simp, rfl⟩

end Go.Proofs.YtilknjihceemhaaDoor.H
