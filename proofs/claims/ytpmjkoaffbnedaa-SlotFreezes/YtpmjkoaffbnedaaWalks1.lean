/-
  The walks of the laws of layer 1 that take words alone: each returns true, and writes nothing that was there.
-/
import Derived.Test.YtpmjkoaffbnedaaCalls
import Derived.Deep.RegionHeld3
namespace Go.Proofs.Ytpmjkoaffbnedaa
open Go.ChangeShapes Go.WideShapes Go.ChangeAt Go.RowKit
open Plain

theorem wReads (a : Int) (h : 0 ≤ a) (h' : a ≤ 18446744073709551615) (w : World) :
    Calls Try.prog 4 #[.int .u64 a] w fun e w' => e = .returned (.bool true) ∧ Below w.heap.size w w' := by
  go_enter Try.func4, Try.ntmps4
  go_wp2_with (first
    | (go_at_call 9; refine (cShown _).mono ?_; rintro e w' ⟨rfl, hb⟩)
    | (go_at_call 12; refine (cOf _ h h' _).mono ?_; rintro e w' ⟨rfl, rfl⟩)
    | (go_at_call 13; refine (rOf _ h h' _).mono ?_; rintro e w' ⟨rfl, rfl⟩))
  go_ret
  exact ⟨rfl, by repeat (first | exact hb | refine bal ?_ _)⟩

theorem wFreezes (a : Int) (h : 0 ≤ a) (h' : a ≤ 18446744073709551615) (w : World) :
    Calls Try.prog 5 #[.int .u64 a] w fun e w' => e = .returned (.bool true) ∧ Below w.heap.size w w' := by
  go_enter Try.func5, Try.ntmps5
  go_wp2_with (first
    | (go_at_call 9; refine (cShown _).mono ?_; rintro e w' ⟨rfl, hb⟩)
    | (go_at_call 14; refine (cFrozen _ h h' _).mono ?_; rintro e w' ⟨rfl, rfl⟩)
    | (go_at_call 16; refine (cFreeze _ h h' _).mono ?_; rintro e w' ⟨rfl, rfl⟩)
    | (go_at_call 18; refine (cThaw _ h h' _).mono ?_; rintro e w' ⟨rfl, rfl⟩)
    | (go_at_call 15; refine (rFrozen _ h h' _).mono ?_; rintro e w' ⟨rfl, rfl⟩)
    | (go_at_call 17; refine (rFreeze _ h h' _).mono ?_; rintro e w' ⟨rfl, rfl⟩)
    | (go_at_call 19; refine (rThaw _ h h' _).mono ?_; rintro e w' ⟨rfl, rfl⟩))
  go_ret
  exact ⟨rfl, hb⟩

theorem wSame (a : Int) (h : 0 ≤ a) (h' : a ≤ 18446744073709551615) (w : World) :
    Calls Try.prog 7 #[.int .u64 a] w fun e w' => e = .returned (.bool true) ∧ Below w.heap.size w w' := by
  have f0 : 0 ≤ fz a := by unfold fz; omega
  have f1 : fz a ≤ 18446744073709551615 := by unfold fz; omega
  have t0 : 0 ≤ th a := by unfold th; omega
  have t1 : th a ≤ 18446744073709551615 := by unfold th; omega
  have e1 : kind (fz a) = kind a := by unfold kind fz; omega
  have e2 : num (fz a) = num a := by unfold num fz; omega
  have e3 : kind (th a) = kind a := by unfold kind th; omega
  have e4 : num (th a) = num a := by unfold num th; omega
  have e5 : froz (fz a) = true := by unfold froz fz; simp; omega
  have e6 : froz (th a) = false := by unfold froz th; simp; omega
  have e7 : th (fz a) = th a := by unfold fz th; omega
  have e8 : fz (th a) = fz a := by unfold fz th; omega
  by_cases e9 : a = fz a
  · have e9' : (a == fz a) = true := by simpa using e9
    clear e9
    go_enter Try.func7, Try.ntmps7
    go_wp2_with (first
      | (go_at_call 9; refine (cShown _).mono ?_; rintro e w' ⟨rfl, hb⟩)
      | (go_at_call 12; refine (cOf _ (by assumption) (by assumption) _).mono ?_; rintro e w' ⟨rfl, rfl⟩)
      | (go_at_call 14; refine (cFrozen _ (by assumption) (by assumption) _).mono ?_; rintro e w' ⟨rfl, rfl⟩)
      | (go_at_call 16; refine (cFreeze _ (by assumption) (by assumption) _).mono ?_; rintro e w' ⟨rfl, rfl⟩)
      | (go_at_call 18; refine (cThaw _ (by assumption) (by assumption) _).mono ?_; rintro e w' ⟨rfl, rfl⟩))
    go_ret
    exact ⟨rfl, by repeat (first | exact hb | refine bal ?_ _)⟩
  · have e10 : (a == th a) = true := by unfold fz at e9; unfold th; simp; omega
    have e9' : (a == fz a) = false := by simpa using e9
    clear e9
    go_enter Try.func7, Try.ntmps7
    go_wp2_with (first
      | (go_at_call 9; refine (cShown _).mono ?_; rintro e w' ⟨rfl, hb⟩)
      | (go_at_call 12; refine (cOf _ (by assumption) (by assumption) _).mono ?_; rintro e w' ⟨rfl, rfl⟩)
      | (go_at_call 14; refine (cFrozen _ (by assumption) (by assumption) _).mono ?_; rintro e w' ⟨rfl, rfl⟩)
      | (go_at_call 16; refine (cFreeze _ (by assumption) (by assumption) _).mono ?_; rintro e w' ⟨rfl, rfl⟩)
      | (go_at_call 18; refine (cThaw _ (by assumption) (by assumption) _).mono ?_; rintro e w' ⟨rfl, rfl⟩))
    go_ret
    exact ⟨rfl, by repeat (first | exact hb | refine bal ?_ _)⟩
end Go.Proofs.Ytpmjkoaffbnedaa
