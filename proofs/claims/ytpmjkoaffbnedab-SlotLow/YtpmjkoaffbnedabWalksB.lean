/-
  The walks of the further laws of layer 1: each returns true, and writes nothing that was there.
-/
import Derived.Test.YtpmjkoaffbnedabCallsB
namespace Go.Proofs.Ytpmjkoaffbnedab
open Go.ChangeShapes Go.WideShapes Go.ChangeAt Go.RowKit
open Plain

theorem wLow (a : Int) (h : 0 ≤ a) (h' : a ≤ 18446744073709551615) (w : World) :
    Calls Try.prog 3 #[.int .u64 a] w fun e w' => e = .returned (.bool true) ∧ Below w.heap.size w w' := by
  have e1 : word (kind a) (num a) = th a := by unfold word kind num th; omega
  go_enter Try.func3, Try.ntmps3
  go_wp2_with (first
    | (go_at_call 6; refine (cShown _).mono ?_; rintro e w' ⟨rfl, hb⟩)
    | (go_at_call 8; refine (cOf _ h h' _).mono ?_; rintro e w' ⟨rfl, rfl⟩)
    | (go_at_call 7; refine (cWord _ _ _).mono ?_; rintro e w' ⟨rfl, rfl⟩)
    | (go_at_call 9; refine (cThaw _ h h' _).mono ?_; rintro e w' ⟨rfl, rfl⟩))
  go_ret
  exact ⟨rfl, by repeat (first | exact hb | refine bal ?_ _)⟩

theorem wBits (a b : Int) (h : 0 ≤ a) (h' : a ≤ 18446744073709551615) (g : 0 ≤ b) (g' : b ≤ 18446744073709551615) (w : World) :
    Calls Try.prog 4 #[.int .u64 a, .int .u64 b] w fun e w' => e = .returned (.bool true) ∧ Below w.heap.size w w' := by
  have e1 : kind a = a % 4 := rfl
  have e2 : kind b = b % 4 := rfl
  have e3 : num a = a / 8 := rfl
  have e4 : num b = b / 8 := rfl
  have e5 : (bits BinOp.and IntKind.u64 a 4 == 4) = froz a := by
    rw [and4 h (by omega)]
    unfold froz
    by_cases c : a / 4 % 2 = 1
    · simp [c]
    · have : a / 4 % 2 = 0 := by omega
      simp [this]
  go_enter Try.func4, Try.ntmps4
  go_wp2_with (first
    | (go_at_call 6; refine (cShown _).mono ?_; rintro e w' ⟨rfl, hb⟩)
    | (go_at_call 8; refine (cOf _ (by assumption) (by assumption) _).mono ?_; rintro e w' ⟨rfl, rfl⟩)
    | (go_at_call 10; refine (cFrozen _ h h' _).mono ?_; rintro e w' ⟨rfl, rfl⟩))
  go_ret
  exact ⟨rfl, by repeat (first | exact hb | refine bal ?_ _)⟩

theorem wThawsSame (a b : Int) (h : 0 ≤ a) (h' : a ≤ 18446744073709551615) (g : 0 ≤ b) (g' : b ≤ 18446744073709551615) (e1 : kind b = kind a) (e2 : num b = num a) (e3 : th b = th a) (e4 : fz b = fz a) (w : World) :
    Calls Try.prog 5 #[.int .u64 a, .int .u64 b] w fun e w' => e = .returned (.bool true) ∧ Below w.heap.size w w' := by
  go_enter Try.func5, Try.ntmps5
  go_wp2_with (first
    | (go_at_call 6; refine (cShown _).mono ?_; rintro e w' ⟨rfl, hb⟩)
    | (go_at_call 8; refine (cOf _ (by assumption) (by assumption) _).mono ?_; rintro e w' ⟨rfl, rfl⟩)
    | (go_at_call 11; refine (cFreeze _ (by assumption) (by assumption) _).mono ?_; rintro e w' ⟨rfl, rfl⟩)
    | (go_at_call 9; refine (cThaw _ (by assumption) (by assumption) _).mono ?_; rintro e w' ⟨rfl, rfl⟩))
  go_ret
  exact ⟨rfl, by repeat (first | exact hb | refine bal ?_ _)⟩
theorem wThawsKinds (a b : Int) (h : 0 ≤ a) (h' : a ≤ 18446744073709551615) (g : 0 ≤ b) (g' : b ≤ 18446744073709551615) (e1 : (kind a == kind b) = false) (e3 : (th a == th b) = false) (e4 : (fz a == fz b) = false) (w : World) :
    Calls Try.prog 5 #[.int .u64 a, .int .u64 b] w fun e w' => e = .returned (.bool true) ∧ Below w.heap.size w w' := by
  go_enter Try.func5, Try.ntmps5
  go_wp2_with (first
    | (go_at_call 6; refine (cShown _).mono ?_; rintro e w' ⟨rfl, hb⟩)
    | (go_at_call 8; refine (cOf _ (by assumption) (by assumption) _).mono ?_; rintro e w' ⟨rfl, rfl⟩)
    | (go_at_call 11; refine (cFreeze _ (by assumption) (by assumption) _).mono ?_; rintro e w' ⟨rfl, rfl⟩)
    | (go_at_call 9; refine (cThaw _ (by assumption) (by assumption) _).mono ?_; rintro e w' ⟨rfl, rfl⟩))
  go_ret
  exact ⟨rfl, by repeat (first | exact hb | refine bal ?_ _)⟩
theorem wThawsNums (a b : Int) (h : 0 ≤ a) (h' : a ≤ 18446744073709551615) (g : 0 ≤ b) (g' : b ≤ 18446744073709551615) (e0 : kind b = kind a) (e1 : (num a == num b) = false) (e3 : (th a == th b) = false) (e4 : (fz a == fz b) = false) (w : World) :
    Calls Try.prog 5 #[.int .u64 a, .int .u64 b] w fun e w' => e = .returned (.bool true) ∧ Below w.heap.size w w' := by
  go_enter Try.func5, Try.ntmps5
  go_wp2_with (first
    | (go_at_call 6; refine (cShown _).mono ?_; rintro e w' ⟨rfl, hb⟩)
    | (go_at_call 8; refine (cOf _ (by assumption) (by assumption) _).mono ?_; rintro e w' ⟨rfl, rfl⟩)
    | (go_at_call 11; refine (cFreeze _ (by assumption) (by assumption) _).mono ?_; rintro e w' ⟨rfl, rfl⟩)
    | (go_at_call 9; refine (cThaw _ (by assumption) (by assumption) _).mono ?_; rintro e w' ⟨rfl, rfl⟩))
  go_ret
  exact ⟨rfl, by repeat (first | exact hb | refine bal ?_ _)⟩
theorem wThaws (a b : Int) (h : 0 ≤ a) (h' : a ≤ 18446744073709551615) (g : 0 ≤ b) (g' : b ≤ 18446744073709551615) (w : World) :
    Calls Try.prog 5 #[.int .u64 a, .int .u64 b] w fun e w' => e = .returned (.bool true) ∧ Below w.heap.size w w' := by
  by_cases k : kind b = kind a
  · by_cases n : num b = num a
    · exact wThawsSame a b h h' g g' k n (by unfold kind num at *; unfold th; omega) (by unfold kind num at *; unfold fz; omega) w
    · exact wThawsNums a b h h' g g' k (by simp only [beq_eq_false_iff_ne, ne_eq]; omega) (by unfold kind num at *; unfold th; simp only [beq_eq_false_iff_ne, ne_eq]; omega) (by unfold kind num at *; unfold fz; simp only [beq_eq_false_iff_ne, ne_eq]; omega) w
  · exact wThawsKinds a b h h' g g' (by simp only [beq_eq_false_iff_ne, ne_eq]; omega) (by unfold kind at *; unfold th; simp only [beq_eq_false_iff_ne, ne_eq]; omega) (by unfold kind at *; unfold fz; simp only [beq_eq_false_iff_ne, ne_eq]; omega) w
end Go.Proofs.Ytpmjkoaffbnedab
