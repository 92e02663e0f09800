/-
  Contracts of the small functions.
-/
import Derived.Test.YtmidhhigopjkhaaMem0
namespace Go.Proofs.Ytmidhhigopjkhaa
set_option linter.unusedVariables false
open Go.ChangeShapes Go.WideShapes Go.RowKit

abbrev Mm := MemAt 56
abbrev Rm := MemAt 48

theorem cHas1 {w : World} {L : Loc} {s : St} (h : Mm w L s) (f : s.Fit) (a : Int) :
    Calls Try.prog 36 #[.pointer (some ⟨L.b, 0, none⟩), .int .i64 a, .int .i64 1] w fun e w' => e = .returned (.bool (s.is1 a)) ∧ w' = w := by
  have c0 := h.cell0
  have n1 := f.n1
  have n4 := f.n4
  by_cases h0 : 0 ≤ a
  · have h1 : a.tmod 1 = 0 := by simp
    have r : s.is1 a = decide (a ≤ (s.ws.length : Int) - 1) := by simp only [St.is1, h0, decide_true, Bool.true_and, decide_eq_decide]; omega
    rw [r]
    go_enter Try.func36, Try.ntmps36
    go_wp2
    go_ret
    exact ⟨rfl, rfl⟩
  · have r : s.is1 a = false := by simp [St.is1]; omega
    rw [r]
    go_enter Try.func36, Try.ntmps36
    go_wp2
    go_ret
    exact ⟨rfl, rfl⟩

theorem cHas2 {w : World} {L : Loc} {s : St} (h : Mm w L s) (f : s.Fit) (a : Int) :
    Calls Try.prog 36 #[.pointer (some ⟨L.b, 0, none⟩), .int .i64 a, .int .i64 2] w fun e w' => e = .returned (.bool (s.is2 a)) ∧ w' = w := by
  have c0 := h.cell0
  have n1 := f.n1
  have n4 := f.n4
  by_cases h0 : 0 ≤ a
  · by_cases h1 : a % 2 = 0
    · have h1' : a.tmod 2 = 0 := by rw [Int.tmod_eq_emod_of_nonneg h0]; exact h1
      have r : s.is2 a = decide (a ≤ (s.ws.length : Int) - 2) := by simp only [St.is2, h0, h1, decide_true, Bool.true_and, decide_eq_decide]; omega
      rw [r]
      go_enter Try.func36, Try.ntmps36
      go_wp2
      go_ret
      exact ⟨rfl, rfl⟩
    · have h1' : (a.tmod 2 == 0) = false := by rw [Int.tmod_eq_emod_of_nonneg h0]; simpa using h1
      have r : s.is2 a = false := by simp [St.is2, h1]
      rw [r]
      go_enter Try.func36, Try.ntmps36
      go_wp2
      go_ret
      exact ⟨rfl, rfl⟩
  · have r : s.is2 a = false := by simp [St.is2]; omega
    rw [r]
    go_enter Try.func36, Try.ntmps36
    go_wp2
    go_ret
    exact ⟨rfl, rfl⟩

theorem cCount {w : World} {L : Loc} {s : St} (h : Mm w L s) :
    Calls Try.prog 24 #[.pointer (some ⟨L.b, 0, none⟩)] w fun e w' => e = .returned (.int .i64 s.c) ∧ w' = w := by
  have c1 := h.cell1
  go_enter Try.func24, Try.ntmps24
  go_wp2
  go_ret
  exact ⟨rfl, rfl⟩
theorem cTraps {w : World} {L : Loc} {s : St} (h : Mm w L s) :
    Calls Try.prog 25 #[.pointer (some ⟨L.b, 0, none⟩)] w fun e w' => e = .returned (.int .i64 s.t) ∧ w' = w := by
  have c2 := h.cell2
  go_enter Try.func25, Try.ntmps25
  go_wp2
  go_ret
  exact ⟨rfl, rfl⟩
theorem cLen {w : World} {L : Loc} {s : St} (h : Mm w L s) :
    Calls Try.prog 26 #[.pointer (some ⟨L.b, 0, none⟩)] w fun e w' => e = .returned (.int .i64 s.ws.length) ∧ w' = w := by
  have c0 := h.cell0
  go_enter Try.func26, Try.ntmps26
  go_wp2
  go_ret
  exact ⟨rfl, rfl⟩

/-- behind a Take -/
theorem took_at {T : TypeId} {w : World} {L : Loc} {s : St} (h : MemAt T w L s) :
    MemAt T (w.setCell ⟨L.b, 3, none⟩ (.slice none 0 0)) ⟨L.b, L.g, L.cp, .slice none 0 0⟩ s.took where
  blk := by rw [heap_setCell_same w _ 3 _ _ _ h.blk]; rfl
  row := ownsRow_setCell_other h.row (by simp [Value.ownBlock]; exact fun e => h.bg e.symm) _
  unt := World.ownsRow_nil _ _ _ _
  non := fun _ => rfl
  ht := h.ht
theorem took_step {T : TypeId} {w : World} {L : Loc} {s : St} (h : MemAt T w L s) : Step w L (w.setCell ⟨L.b, 3, none⟩ (.slice none 0 0)) ⟨L.b, L.g, L.cp, .slice none 0 0⟩ :=
  ⟨Kept.setCell _ _ _ _ (by simp [Loc.fp]), fun k hk => by simp [Loc.fp, Value.ownBlock] at hk; left; rcases hk with rfl | rfl <;> simp [Loc.fp], rfl⟩
/-- Take: what is taken is the caller's own; the memory has its words and counts -/
theorem cTake {w : World} {L : Loc} {s : St} (h : Mm w L s) :
    Calls Try.prog 21 #[.pointer (some ⟨L.b, 0, none⟩)] w fun e w' => e = .returned L.vu ∧ Mm w' ⟨L.b, L.g, L.cp, .slice none 0 0⟩ s.took ∧ Step w L w' ⟨L.b, L.g, L.cp, .slice none 0 0⟩ ∧
      w'.ownsRow 0 44 3 L.vu s.l.length (accs s.l) ∧ ∀ k, L.vu.ownBlock = some k → k ≠ L.b ∧ k ≠ L.g := by
  have c3 := h.cell3
  have f3 := h.free 3
  have R := took_at h
  have R2 := took_step h
  have R3 : (w.setCell ⟨L.b, 3, none⟩ (.slice none 0 0)).ownsRow 0 44 3 L.vu s.l.length (accs s.l) := ownsRow_setCell_other h.unt h.bu _
  have R4 : ∀ k, L.vu.ownBlock = some k → k ≠ L.b ∧ k ≠ L.g := fun k hk => ⟨fun e => h.bu (e ▸ hk), fun e => h.gu (e ▸ hk)⟩
  obtain ⟨ao, n, cp, hv⟩ : ∃ ao n cp, L.vu = .slice ao n cp := by
    rcases h.unt.2 with ⟨h', _⟩ | ⟨g, cp, _, h', _⟩
    · exact ⟨_, _, _, h'⟩
    · exact ⟨_, _, _, h'⟩
  rw [hv] at c3 R3 R4 ⊢
  go_enter Try.func21, Try.ntmps21
  go_wp2
  go_ret
  exact ⟨rfl, R, R2, R3, R4⟩
end Go.Proofs.Ytmidhhigopjkhaa
