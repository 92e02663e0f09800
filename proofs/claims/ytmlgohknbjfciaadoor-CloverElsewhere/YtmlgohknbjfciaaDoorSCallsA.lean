/-
  What reading a block's word comes to: the one function that the seat of the last law does not have.
-/
import Derived.Test.YtmlgohknbjfciaaDoorSCalls
namespace Go.Proofs.YtmlgohknbjfciaaDoor.S
open Go.ChangeShapes Go.WideShapes Go.ChangeAt Go.RowKit
open Plain

theorem cOfBlock (a : Int) (h : 0 ≤ a) (h' : a ≤ 18446744073709551615) (w : World) :
    Calls Tryd.prog 62 #[.int .u64 a] w fun e w' => e = .returned (.agg #[.int .i64 (b0 a), .int .i64 (b1 a), .int .i64 (b2 a), .int .i64 (b3 a)]) ∧ w' = w.alloc (.cells #[.int .i64 (b0 a), .int .i64 (b1 a), .int .i64 (b2 a), .int .i64 (b3 a)] 74) := by
  go_enter Tryd.func62, Tryd.ntmps62
  go_wp2_with (go_at_call 72; refine (cCutI _ _ _ (by omega) (by omega) (by first | exact Or.inl ⟨rfl, rfl⟩ | exact Or.inr (Or.inl ⟨rfl, rfl⟩) | exact Or.inr (Or.inr (Or.inl ⟨rfl, rfl⟩)) | exact Or.inr (Or.inr (Or.inr (Or.inl ⟨rfl, rfl⟩))) | exact Or.inr (Or.inr (Or.inr (Or.inr (Or.inl ⟨rfl, rfl⟩)))) | exact Or.inr (Or.inr (Or.inr (Or.inr (Or.inr (⟨rfl, rfl⟩)))))) _).mono ?_; rintro e w' ⟨rfl, rfl⟩)
  exact bodyPost_ret (v := .agg #[.int .i64 (b0 a), .int .i64 (b1 a), .int .i64 (b2 a), .int .i64 (b3 a)]) (by simp [results, Tryd.results62, go_sem, b0, b1, b2, b3]) rfl ⟨rfl, by simp [b0, b1, b2, b3]⟩

end Go.Proofs.YtmlgohknbjfciaaDoor.S
