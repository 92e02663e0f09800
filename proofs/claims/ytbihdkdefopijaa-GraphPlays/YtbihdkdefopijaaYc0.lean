/-
  Contracts of the reference's layer 6, of roots as a row.
-/
import Derived.Test.YtbihdkdefopijaaGc0
import Derived.Test.YtbihdkdefopijaaRf6
namespace Go.Proofs.Ytbihdkdefopijaa
set_option linter.unusedVariables false
set_option linter.unusedSimpArgs false
open Go.ChangeShapes Go.WideShapes Go.ChangeAt Go.RowKit

theorem rPushR (r : List Int) (a : Int) (h : r.length ≤ 8) (w : World) :
    Calls Try.prog 39 #[rvl r, .int .i64 a] w fun e w' => e = .returned (.tuple #[rvl (Rw.push r a), .int .i64 (Rw.pushE r)]) ∧ Below w.heap.size w w' := by
  refine (rPush r.length (rl r) a w).mono ?_
  rintro e w' ⟨rfl, hb⟩
  refine ⟨?_, hb⟩
  have hm := may_row r h
  by_cases h8 : r.length = 8
  · have : ¬ r.length < 8 := by omega
    have h8' : (r.length : Int) = 8 := by omega
    have d8 : decide ((r.length : Int) ≠ 8) = false := decide_eq_false (by omega)
    simp only [Plain.pushN, Plain.pushL, Plain.pushE, hm, Rw.push, Rw.pushE, this, d8, if_pos h8', Bool.and_false, if_true, if_false]
    rfl
  · have h' : r.length < 8 := by omega
    have h8' : ¬ (r.length : Int) = 8 := by omega
    have e1 : rv (Plain.pushN r.length (rl r)) (Plain.pushL r.length (rl r) a) = rvl (Rw.push r a) := by
      refine rvl_of ?_ fun j _ => ?_
      · simp [Plain.pushN, hm, h8', Rw.push, h']
      · simp [Plain.pushL, hm, h8', Rw.push, h']
        exact rl_push r a j
    rw [e1]
    simp [Plain.pushE, hm, h8', Rw.pushE, h']
theorem rDropR (r : List Int) (h : r.length ≤ 8) (w : World) :
    Calls Try.prog 49 #[rvl r] w fun e w' => e = .returned (.tuple #[rvl (Rw.drop r), .int .i64 (Rw.dropE r)]) ∧ Below w.heap.size w w' := by
  refine (rDrop r.length (rl r) w).mono ?_
  rintro e w' ⟨rfl, hb⟩
  refine ⟨?_, hb⟩
  have hm := may_row r h
  by_cases h0 : r.length = 0
  · obtain rfl : r = [] := List.eq_nil_of_length_eq_zero h0
    rfl
  · have h0' : ¬ (r.length : Int) = 0 := by omega
    have e1 : rv (Plain.dropN r.length (rl r)) (Plain.dropL r.length (rl r)) = rvl (Rw.drop r) := by
      refine rvl_of ?_ fun j _ => ?_
      · simp only [Plain.dropN, hm, Rw.drop, List.length_dropLast, h0', Bool.true_and, ne_eq, not_false_eq_true, decide_true, if_true]; omega
      · simp only [Plain.dropL, hm, h0', Bool.true_and, ne_eq, not_false_eq_true, decide_true, if_true, Rw.drop]
        exact rl_drop r j (by omega)
    rw [e1]
    simp [Plain.dropE, hm, h0', Rw.dropE, h0]
theorem rGetR (r : List Int) (i : Int) (h : r.length ≤ 8) (w : World) :
    Calls Try.prog 41 #[rvl r, .int .i64 i] w fun e w' => e = .returned (.tuple #[.int .i64 (Rw.get r i), .int .i64 (Rw.getE r i)]) ∧ Below w.heap.size w w' := by
  refine (rGet r.length (rl r) i w).mono ?_
  rintro e w' ⟨rfl, hb⟩
  refine ⟨?_, hb⟩
  simp only [Plain.getV, Plain.getE, may_row r h, isAt_row, Bool.true_and, Rw.get, Rw.getE, if_true, rl]
  rfl
theorem rDupR (r : List Int) (i : Int) (h : r.length ≤ 8) (w : World) :
    Calls Try.prog 47 #[rvl r, .int .i64 i] w fun e w' => e = .returned (.tuple #[rvl (Rw.dup r i), .int .i64 (Rw.dupE r i)]) ∧ Below w.heap.size w w' := by
  refine (rDup r.length (rl r) i w).mono ?_
  rintro e w' ⟨rfl, hb⟩
  refine ⟨?_, hb⟩
  have hm := may_row r h
  rcases ha : Rw.isAt r i with _ | _
  · simp only [Plain.dupN, Plain.dupL, Plain.dupE, Plain.getE, hm, isAt_row, ha, Rw.dup, Rw.dupE]
    rfl
  · by_cases h8 : r.length = 8
    · have : ¬ r.length < 8 := by omega
      have h8' : (r.length : Int) = 8 := by omega
      have d8 : decide ((r.length : Int) ≠ 8) = false := decide_eq_false (by omega)
      simp only [Plain.dupN, Plain.dupL, Plain.dupE, Plain.pushN, Plain.pushL, Plain.pushE, hm, isAt_row, ha, Rw.push, Rw.pushE, Rw.dup, Rw.dupE, this, d8, if_pos h8', Bool.true_and, Bool.and_false, if_true, if_false]
      rfl
    · have h' : r.length < 8 := by omega
      have h8' : ¬ (r.length : Int) = 8 := by omega
      have e1 : rv (Plain.dupN r.length (rl r) i) (Plain.dupL r.length (rl r) i) = rvl (Rw.dup r i) := by
        refine rvl_of ?_ fun j _ => ?_
        · simp [Plain.dupN, Plain.pushN, hm, isAt_row, ha, h8', Rw.dup, Rw.push, h']
        · simp [Plain.dupL, Plain.pushL, hm, isAt_row, ha, h8', Rw.dup, Rw.push, h']
          exact rl_push r _ j
      rw [e1]
      simp [Plain.dupE, Plain.pushE, hm, isAt_row, ha, h8', Rw.dupE, Rw.pushE, h']

end Go.Proofs.Ytbihdkdefopijaa
