/-
  What each of the document's own answers of layer 2 comes to when it is called: one contract a function.
-/
import Derived.Test.YtmlgohknbjfciaaDoorHCalls2
namespace Go.Proofs.YtmlgohknbjfciaaDoor.H
open Go.ChangeShapes Go.WideShapes Go.ChangeAt Go.RowKit
open Plain

theorem rBits (a n p : Int) (h : 0 ≤ a) (hp : n = 1 ∧ p = 2 ∨ n = 2 ∧ p = 4 ∨ n = 3 ∧ p = 8 ∨ n = 12 ∧ p = 4096) (w : World) :
    Calls Tryd.prog 31 #[.int .u64 a, .int .i64 n] w fun e w' => e = .returned (.int .u64 (a % p)) ∧ w' = w := by
  have e1 : a.tmod 2 = a % 2 := Int.tmod_eq_emod_of_nonneg h
  have e3 : a.tmod 4 = a % 4 := Int.tmod_eq_emod_of_nonneg h
  have e7 : a.tmod 8 = a % 8 := Int.tmod_eq_emod_of_nonneg h
  have e4 : a.tmod 4096 = a % 4096 := Int.tmod_eq_emod_of_nonneg h
  rcases hp with ⟨rfl, rfl⟩ | ⟨rfl, rfl⟩ | ⟨rfl, rfl⟩ | ⟨rfl, rfl⟩ <;>
  · go_enter Tryd.func31, Tryd.ntmps31
    go_wp2
    go_ret
    exact ⟨rfl, rfl⟩

/-- the parts, added up -/
theorem rWord (s c n m g t l : Int) (w : World) :
    Calls Tryd.prog 23 #[.agg #[.int .i64 s, .int .i64 c, .int .i64 n, .int .i64 m, .int .i64 g, .int .i64 t, .int .i64 l]] w fun e w' => e = .returned (.int .u64 (hw s c n m g t l)) ∧
      w' = w.alloc (.cells #[.int .i64 s, .int .i64 c, .int .i64 n, .int .i64 m, .int .i64 g, .int .i64 t, .int .i64 l] 26) := by
  have E : Hid (IntKind.u64.wrap s % 4 + IntKind.u64.wrap c % 4 * 4 + IntKind.u64.wrap n % 8 * 16 + IntKind.u64.wrap m % 2 * 128 + IntKind.u64.wrap g % 2 * 256 + IntKind.u64.wrap t % 8 * 512 + IntKind.u64.wrap l % 4096 * 4096 = hw s c n m g t l) := by
    show _ = _
    simp only [wrap_u64]
    unfold hw
    omega
  go_enter Tryd.func23, Tryd.ntmps23
  go_wp2_with (go_at_call 31; refine (rBits _ _ _ (wrap_nonneg _) (by first | exact Or.inl ⟨rfl, rfl⟩ | exact Or.inr (Or.inl ⟨rfl, rfl⟩) | exact Or.inr (Or.inr (Or.inl ⟨rfl, rfl⟩)) | exact Or.inr (Or.inr (Or.inr ⟨rfl, rfl⟩))) _).mono ?_; rintro e w' ⟨rfl, rfl⟩)
  go_ret
  refine ⟨?_, rfl⟩
  rw [← E.out]
  rfl
end Go.Proofs.YtmlgohknbjfciaaDoor.H
