/-
  Contracts of New, and of Clone.
-/
import Derived.Test.YtmlgohknbjfciaaDoorAcc
import Derived.Deep.RegionHeld3
import Derived.WalkSpells
namespace Go.Proofs.YtmlgohknbjfciaaDoor
set_option linter.unusedVariables false
set_option maxRecDepth 100000
open Go.ChangeShapes Go.WideShapes Go.RowKit

theorem info31 : (Tryd.prog.info? 51).map (fun i => (i.zero, i.size, i.bytes)) = some (some (.int .u64 0), 1, 8) := by kernel_rfl

theorem made_wds (n : Nat) : (madeCells #[Value.int .u64 0] n).toList = wds (List.replicate n 0) := by
  rw [toList_madeCells_one]
  simp [wds]
/-- a memory that has just been made -/
theorem new_at {T : TypeId} (ht : T ≠ 51 ∧ T ≠ 111) {w w1 : World} {n : Nat} (hown : w1.ownsRow 0 51 1 (.slice (some ⟨w.heap.size, 0, none⟩) n n) n (madeCells #[Value.int .u64 0] n).toList) (hg : w.grownBy w1 none) :
    MemAt T (w1.alloc (.cells #[.slice (some ⟨w.heap.size, 0, none⟩) n n, .int .i64 0, .int .i64 0, .slice none 0 0] T)) ⟨w1.heap.size, w.heap.size, n, .slice none 0 0⟩ (St.new n) ∧
    Below w.heap.size w (w1.alloc (.cells #[.slice (some ⟨w.heap.size, 0, none⟩) n n, .int .i64 0, .int .i64 0, .slice none 0 0] T)) ∧ ∀ k ∈ (⟨w1.heap.size, w.heap.size, n, .slice none 0 0⟩ : Loc).fp, w.heap.size ≤ k := by
  rw [made_wds] at hown
  have hl : (List.replicate n (0 : Int)).length = n := by simp
  refine ⟨⟨?_, ?_, World.ownsRow_nil _ _ _ _, fun _ => rfl, ht⟩, ?_, ?_⟩
  · rw [heap_alloc_new]; simp [St.new]
  · simp only [St.new, hl]; exact hown.alloc _
  · exact ((Below.refl _ _).grown hg (Nat.le_refl _) fun k hk => by cases hk).alloc hg.size _
  · intro k hk
    simp [Loc.fp, Value.ownBlock] at hk
    have := hg.size
    rcases hk with rfl | rfl <;> omega

theorem cNew (w : World) (n : Nat) (h1 : 1 ≤ n) (h4 : n ≤ 4096) :
    Calls Tryd.prog 21 #[.int .i64 n] w fun e w' => ∃ b g cp, e = .returned (.tuple #[.pointer (some ⟨b, 0, none⟩), .int .i64 0]) ∧ Mm w' ⟨b, g, cp, .slice none 0 0⟩ (St.new n) ∧ Below w.heap.size w w' ∧ ∀ k ∈ (⟨b, g, cp, .slice none 0 0⟩ : Loc).fp, w.heap.size ≤ k := by
  obtain ⟨i0, hi, hz0, hz1, hz2⟩ := info_parts info31
  go_enter Tryd.func21, Tryd.ntmps21
  go_wp2_with (at_make; refine wpList_make_full _ rfl _ _ 57 rfl 0 51 i0 (.int .u64 0) 1 Tryd.underlying57 hi hz0 hz1 .i64 .i64 n n n rfl rfl rfl rfl ?b2 ?b3 ?b4 ?_)
  case b2 => rw [hz2]; omega
  case b3 => unfold maxLen; omega
  case b4 => omega
  intro w1 hown hg
  have R := new_at (T := 98) (by decide) hown hg
  clear hown hg
  go_wp2
  go_ret2
  exact ⟨_, _, _, rfl, R⟩
theorem cNewBad (w : World) (n : Int) (h : n < 1 ∨ 4096 < n) :
    Calls Tryd.prog 21 #[.int .i64 n] w fun e w' => e = .returned (.tuple #[.pointer none, .int .i64 1]) ∧ w' = w := by
  rcases h with h | h
  all_goals
    go_enter Tryd.func21, Tryd.ntmps21
    go_wp2
    go_ret2
    exact ⟨rfl, rfl⟩

theorem cRNew (w : World) (n : Nat) (h1 : 1 ≤ n) (h4 : n ≤ 4096) :
    Calls Tryd.prog 22 #[.int .i64 n] w fun e w' => ∃ b g cp, e = .returned (.tuple #[.pointer (some ⟨b, 0, none⟩), .int .i64 0]) ∧ Rm w' ⟨b, g, cp, .slice none 0 0⟩ (St.new n) ∧ Below w.heap.size w w' ∧ ∀ k ∈ (⟨b, g, cp, .slice none 0 0⟩ : Loc).fp, w.heap.size ≤ k := by
  obtain ⟨i0, hi, hz0, hz1, hz2⟩ := info_parts info31
  go_enter Tryd.func22, Tryd.ntmps22
  go_wp2_with (at_make; refine wpList_make_full _ rfl _ _ 57 rfl 0 51 i0 (.int .u64 0) 1 Tryd.underlying57 hi hz0 hz1 .i64 .i64 n n n rfl rfl rfl rfl ?b2 ?b3 ?b4 ?_)
  case b2 => rw [hz2]; omega
  case b3 => unfold maxLen; omega
  case b4 => omega
  intro w1 hown hg
  have R := new_at (T := 60) (by decide) hown hg
  clear hown hg
  go_wp2
  go_ret2
  exact ⟨_, _, _, rfl, R⟩
theorem cRNewBad (w : World) (n : Int) (h : n < 1 ∨ 4096 < n) :
    Calls Tryd.prog 22 #[.int .i64 n] w fun e w' => e = .returned (.tuple #[.pointer none, .int .i64 1]) ∧ w' = w := by
  rcases h with h | h
  all_goals
    go_enter Tryd.func22, Tryd.ntmps22
    go_wp2
    go_ret2
    exact ⟨rfl, rfl⟩

theorem accs_one (l : List (Int × Int × Bool)) : ∀ u ∈ accs l, u.oneCell' = true := by
  induction l with
  | nil => intro u hu; simp [accs] at hu
  | cons x r ih =>
    intro u hu
    simp only [accs, List.mem_cons] at hu
    rcases hu with rfl | rfl | rfl | hu
    · rfl
    · rfl
    · rfl
    · exact ih u hu
end Go.Proofs.YtmlgohknbjfciaaDoor
