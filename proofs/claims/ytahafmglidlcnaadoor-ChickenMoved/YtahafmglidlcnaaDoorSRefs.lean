/-
  What each of the document's own answers of layer 3 comes to when it is called: one contract a function.
-/
import Derived.Test.YtahafmglidlcnaaDoorSCalls
namespace Go.Proofs.YtahafmglidlcnaaDoor.S
open Go.ChangeShapes Go.WideShapes Go.ChangeAt Go.RowKit
open Plain

theorem rBits (a n p : Int) (h : 0 ≤ a) (hp : (n = 12 ∧ p = 4096) ∨ (n = 40 ∧ p = 1099511627776) ∨ (n = 4 ∧ p = 16) ∨ (n = 1 ∧ p = 2) ∨ (n = 2 ∧ p = 4) ∨ (n = 7 ∧ p = 128)) (w : World) :
    Calls Tryd.prog 37 #[.int .u64 a, .int .i64 n] w fun e w' => e = .returned (.int .u64 (a % p)) ∧ w' = w := by
  have e12 : a.tmod 4096 = a % 4096 := Int.tmod_eq_emod_of_nonneg h
  have e40 : a.tmod 1099511627776 = a % 1099511627776 := Int.tmod_eq_emod_of_nonneg h
  have e4 : a.tmod 16 = a % 16 := Int.tmod_eq_emod_of_nonneg h
  have e1 : a.tmod 2 = a % 2 := Int.tmod_eq_emod_of_nonneg h
  have e2 : a.tmod 4 = a % 4 := Int.tmod_eq_emod_of_nonneg h
  have e7 : a.tmod 128 = a % 128 := Int.tmod_eq_emod_of_nonneg h
  rcases hp with ⟨rfl, rfl⟩ | ⟨rfl, rfl⟩ | ⟨rfl, rfl⟩ | ⟨rfl, rfl⟩ | ⟨rfl, rfl⟩ | ⟨rfl, rfl⟩ <;>
  · go_enter Tryd.func37, Tryd.ntmps37
    go_wp2
    go_ret
    exact ⟨rfl, rfl⟩

theorem rPart (a k q n p : Int) (h : 0 ≤ a) (h' : a ≤ 18446744073709551615) (hp : (k = 0 ∧ q = 1 ∧ n = 12 ∧ p = 4096) ∨ (k = 12 ∧ q = 4096 ∧ n = 40 ∧ p = 1099511627776) ∨ (k = 0 ∧ q = 1 ∧ n = 40 ∧ p = 1099511627776) ∨ (k = 40 ∧ q = 1099511627776 ∧ n = 4 ∧ p = 16) ∨ (k = 44 ∧ q = 17592186044416 ∧ n = 1 ∧ p = 2) ∨ (k = 45 ∧ q = 35184372088832 ∧ n = 1 ∧ p = 2) ∨ (k = 0 ∧ q = 1 ∧ n = 2 ∧ p = 4) ∨ (k = 2 ∧ q = 4 ∧ n = 2 ∧ p = 4) ∨ (k = 4 ∧ q = 16 ∧ n = 1 ∧ p = 2) ∨ (k = 5 ∧ q = 32 ∧ n = 7 ∧ p = 128)) (w : World) :
    Calls Tryd.prog 38 #[.int .u64 a, .int .i64 k, .int .i64 n] w fun e w' => e = .returned (.int .i64 (a / q % p)) ∧ w' = w := by
  rcases hp with ⟨rfl, rfl, rfl, rfl⟩ | ⟨rfl, rfl, rfl, rfl⟩ | ⟨rfl, rfl, rfl, rfl⟩ | ⟨rfl, rfl, rfl, rfl⟩ | ⟨rfl, rfl, rfl, rfl⟩ | ⟨rfl, rfl, rfl, rfl⟩ | ⟨rfl, rfl, rfl, rfl⟩ | ⟨rfl, rfl, rfl, rfl⟩ | ⟨rfl, rfl, rfl, rfl⟩ | ⟨rfl, rfl, rfl, rfl⟩ <;>
  · go_enter Tryd.func38, Tryd.ntmps38
    go_wp2_with (go_at_call 37; refine (rBits _ _ _ (by omega) (by first | exact Or.inl ⟨rfl, rfl⟩ | exact Or.inr (Or.inl ⟨rfl, rfl⟩) | exact Or.inr (Or.inr (Or.inl ⟨rfl, rfl⟩)) | exact Or.inr (Or.inr (Or.inr (Or.inl ⟨rfl, rfl⟩))) | exact Or.inr (Or.inr (Or.inr (Or.inr (Or.inl ⟨rfl, rfl⟩)))) | exact Or.inr (Or.inr (Or.inr (Or.inr (Or.inr (⟨rfl, rfl⟩)))))) _).mono ?_; rintro e w' ⟨rfl, rfl⟩)
    go_ret
    exact ⟨by first | rfl | simp, rfl⟩

end Go.Proofs.YtahafmglidlcnaaDoor.S
