/-
  Contracts of the small functions.
-/
import Derived.Test.YtoablodmodnamaaDoorMem0
namespace Go.Proofs.YtoablodmodnamaaDoor
set_option linter.unusedVariables false
open Go.ChangeShapes Go.WideShapes Go.RowKit

abbrev Mm := MemAt 142
abbrev Rm := MemAt 80

theorem cHas1 {w : World} {L : Loc} {s : St} (h : Mm w L s) (f : s.Fit) (a : Int) :
    Calls Tryd.prog 103 #[.pointer (some ⟨L.b, 0, none⟩), .int .i64 a, .int .i64 1] w fun e w' => e = .returned (.bool (s.is1 a)) ∧ w' = w := by
  have c0 := h.cell0
  have n1 := f.n1
  have n4 := f.n4
  by_cases h0 : 0 ≤ a
  · have h1 : a.tmod 1 = 0 := by simp
    have r : s.is1 a = decide (a ≤ (s.ws.length : Int) - 1) := by simp only [St.is1, h0, decide_true, Bool.true_and, decide_eq_decide]; omega
    rw [r]
    go_enter Tryd.func103, Tryd.ntmps103
    go_wp2
    go_ret
    exact ⟨rfl, rfl⟩
  · have r : s.is1 a = false := by simp [St.is1]; omega
    rw [r]
    go_enter Tryd.func103, Tryd.ntmps103
    go_wp2
    go_ret
    exact ⟨rfl, rfl⟩

theorem cHas2 {w : World} {L : Loc} {s : St} (h : Mm w L s) (f : s.Fit) (a : Int) :
    Calls Tryd.prog 103 #[.pointer (some ⟨L.b, 0, none⟩), .int .i64 a, .int .i64 2] w fun e w' => e = .returned (.bool (s.is2 a)) ∧ w' = w := by
  have c0 := h.cell0
  have n1 := f.n1
  have n4 := f.n4
  by_cases h0 : 0 ≤ a
  · by_cases h1 : a % 2 = 0
    · have h1' : a.tmod 2 = 0 := by rw [Int.tmod_eq_emod_of_nonneg h0]; exact h1
      have r : s.is2 a = decide (a ≤ (s.ws.length : Int) - 2) := by simp only [St.is2, h0, h1, decide_true, Bool.true_and, decide_eq_decide]; omega
      rw [r]
      go_enter Tryd.func103, Tryd.ntmps103
      go_wp2
      go_ret
      exact ⟨rfl, rfl⟩
    · have h1' : (a.tmod 2 == 0) = false := by rw [Int.tmod_eq_emod_of_nonneg h0]; simpa using h1
      have r : s.is2 a = false := by simp [St.is2, h1]
      rw [r]
      go_enter Tryd.func103, Tryd.ntmps103
      go_wp2
      go_ret
      exact ⟨rfl, rfl⟩
  · have r : s.is2 a = false := by simp [St.is2]; omega
    rw [r]
    go_enter Tryd.func103, Tryd.ntmps103
    go_wp2
    go_ret
    exact ⟨rfl, rfl⟩

theorem cTraps {w : World} {L : Loc} {s : St} (h : Mm w L s) :
    Calls Tryd.prog 32 #[.pointer (some ⟨L.b, 0, none⟩)] w fun e w' => e = .returned (.int .i64 s.t) ∧ w' = w := by
  have c2 := h.cell2
  go_enter Tryd.func32, Tryd.ntmps32
  go_wp2
  go_ret
  exact ⟨rfl, rfl⟩
theorem cLen {w : World} {L : Loc} {s : St} (h : Mm w L s) :
    Calls Tryd.prog 56 #[.pointer (some ⟨L.b, 0, none⟩)] w fun e w' => e = .returned (.int .i64 s.ws.length) ∧ w' = w := by
  have c0 := h.cell0
  go_enter Tryd.func56, Tryd.ntmps56
  go_wp2
  go_ret
  exact ⟨rfl, rfl⟩

/-- behind a Take -/
theorem took_at {T : TypeId} {w : World} {L : Loc} {s : St} (h : MemAt T w L s) :
    MemAt T (w.setCell ⟨L.b, 3, none⟩ (.slice none 0 0)) ⟨L.b, L.g, L.cp, .slice none 0 0⟩ s.took where
  blk := by rw [heap_setCell_same w _ 3 _ _ _ h.blk]; rfl
  row := ownsRow_setCell_other h.row (by simp [Value.ownBlock]; exact fun e => h.bg e.symm) _
  unt := World.ownsRow_nil _ _ _ _
  non := fun _ => rfl
  ht := h.ht
theorem took_step {T : TypeId} {w : World} {L : Loc} {s : St} (h : MemAt T w L s) : Step w L (w.setCell ⟨L.b, 3, none⟩ (.slice none 0 0)) ⟨L.b, L.g, L.cp, .slice none 0 0⟩ :=
  ⟨Kept.setCell _ _ _ _ (by simp [Loc.fp]), fun k hk => by simp [Loc.fp, Value.ownBlock] at hk; left; rcases hk with rfl | rfl <;> simp [Loc.fp], rfl⟩
end Go.Proofs.YtoablodmodnamaaDoor
