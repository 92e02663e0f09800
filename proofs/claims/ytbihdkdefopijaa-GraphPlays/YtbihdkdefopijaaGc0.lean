/-
  Contracts of layer 6's functions, of roots as a row; hasThread.
-/
import Derived.Test.YtbihdkdefopijaaGm
namespace Go.Proofs.Ytbihdkdefopijaa
set_option linter.unusedVariables false
set_option linter.unusedSimpArgs false
open Go.ChangeShapes Go.WideShapes Go.ChangeAt Go.RowKit

theorem may_row (r : List Int) (h : r.length ≤ 8) : Plain.may r.length (rl r) = true := by
  rw [Plain.may_iff]
  refine ⟨by omega, by omega, fun j _ hj => ?_⟩
  unfold rl
  rw [List.getD_eq_getElem?_getD, List.getElem?_eq_none (by omega)]
  rfl
theorem rvl_of {r : List Int} {n : Int} {l : Nat → Int} (hn : n = r.length) (h : ∀ j, j < 8 → l j = rl r j) : rv n l = rvl r := by
  subst hn
  exact rv_same _ h
theorem isAt_row (r : List Int) (i : Int) : Plain.isAt r.length i = Rw.isAt r i := rfl
theorem rl_push (r : List Int) (a : Int) (j : Nat) : Plain.put (rl r) r.length a j = rl (r ++ [a]) j := by
  unfold Plain.put rl
  by_cases e : j = r.length
  · subst e; simp [List.getD_eq_getElem?_getD]
  · simp only [e, if_false, List.getD_eq_getElem?_getD]
    by_cases h : j < r.length
    · rw [List.getElem?_append_left h]
    · rw [List.getElem?_eq_none (by omega), List.getElem?_eq_none (by simp; omega)]
theorem rl_drop (r : List Int) (j : Nat) (h : 0 < r.length) : Plain.cut (rl r) ((r.length : Int) - 1) j = rl r.dropLast j := by
  unfold Plain.cut rl
  simp only [List.getD_eq_getElem?_getD]
  by_cases e : (j : Int) < (r.length : Int) - 1
  · rw [if_pos e, List.getElem?_dropLast, if_pos (by omega)]
  · rw [if_neg e, List.getElem?_eq_none (by simp; omega)]
    rfl
theorem rvl_nil : rv 0 Plain.nil = rvl [] := rfl

theorem cPushR (r : List Int) (a : Int) (h : r.length ≤ 8) (w : World) :
    Calls Try.prog 37 #[rvl r, .int .i64 a] w fun e w' => e = .returned (.tuple #[rvl (Rw.push r a), .int .i64 (Rw.pushE r)]) ∧ Below w.heap.size w w' := by
  refine (cPush r.length (rl r) a w).mono ?_
  rintro e w' ⟨rfl, hb⟩
  refine ⟨?_, hb⟩
  have hm := may_row r h
  by_cases h8 : r.length = 8
  · have : ¬ r.length < 8 := by omega
    have h8' : (r.length : Int) = 8 := by omega
    have d8 : decide ((r.length : Int) ≠ 8) = false := decide_eq_false (by omega)
    simp only [Plain.pushN, Plain.pushL, Plain.pushE, hm, Rw.push, Rw.pushE, this, d8, if_pos h8', Bool.and_false, if_true, if_false]
    rfl
  · have h' : r.length < 8 := by omega
    have h8' : ¬ (r.length : Int) = 8 := by omega
    have e1 : rv (Plain.pushN r.length (rl r)) (Plain.pushL r.length (rl r) a) = rvl (Rw.push r a) := by
      refine rvl_of ?_ fun j _ => ?_
      · simp [Plain.pushN, hm, h8', Rw.push, h']
      · simp [Plain.pushL, hm, h8', Rw.push, h']
        exact rl_push r a j
    rw [e1]
    simp [Plain.pushE, hm, h8', Rw.pushE, h']
theorem cDropR (r : List Int) (h : r.length ≤ 8) (w : World) :
    Calls Try.prog 48 #[rvl r] w fun e w' => e = .returned (.tuple #[rvl (Rw.drop r), .int .i64 (Rw.dropE r)]) ∧ Below w.heap.size w w' := by
  refine (cDrop r.length (rl r) w).mono ?_
  rintro e w' ⟨rfl, hb⟩
  refine ⟨?_, hb⟩
  have hm := may_row r h
  by_cases h0 : r.length = 0
  · obtain rfl : r = [] := List.eq_nil_of_length_eq_zero h0
    rfl
  · have h0' : ¬ (r.length : Int) = 0 := by omega
    have e1 : rv (Plain.dropN r.length (rl r)) (Plain.dropL r.length (rl r)) = rvl (Rw.drop r) := by
      refine rvl_of ?_ fun j _ => ?_
      · simp only [Plain.dropN, hm, Rw.drop, List.length_dropLast, h0', Bool.true_and, ne_eq, not_false_eq_true, decide_true, if_true]; omega
      · simp only [Plain.dropL, hm, h0', Bool.true_and, ne_eq, not_false_eq_true, decide_true, if_true, Rw.drop]
        exact rl_drop r j (by omega)
    rw [e1]
    simp [Plain.dropE, hm, h0', Rw.dropE, h0]
theorem cGetR (r : List Int) (i : Int) (h : r.length ≤ 8) (w : World) :
    Calls Try.prog 44 #[rvl r, .int .i64 i] w fun e w' => e = .returned (.tuple #[.int .i64 (Rw.get r i), .int .i64 (Rw.getE r i)]) ∧ Below w.heap.size w w' := by
  refine (cGet r.length (rl r) i w).mono ?_
  rintro e w' ⟨rfl, hb⟩
  refine ⟨?_, hb⟩
  simp only [Plain.getV, Plain.getE, may_row r h, isAt_row, Bool.true_and, Rw.get, Rw.getE, if_true, rl]
  rfl
theorem cDupR (r : List Int) (i : Int) (h : r.length ≤ 8) (w : World) :
    Calls Try.prog 46 #[rvl r, .int .i64 i] w fun e w' => e = .returned (.tuple #[rvl (Rw.dup r i), .int .i64 (Rw.dupE r i)]) ∧ Below w.heap.size w w' := by
  refine (cDup r.length (rl r) i w).mono ?_
  rintro e w' ⟨rfl, hb⟩
  refine ⟨?_, hb⟩
  have hm := may_row r h
  rcases ha : Rw.isAt r i with _ | _
  · simp only [Plain.dupN, Plain.dupL, Plain.dupE, Plain.getE, hm, isAt_row, ha, Rw.dup, Rw.dupE]
    rfl
  · by_cases h8 : r.length = 8
    · have : ¬ r.length < 8 := by omega
      have h8' : (r.length : Int) = 8 := by omega
      have d8 : decide ((r.length : Int) ≠ 8) = false := decide_eq_false (by omega)
      simp only [Plain.dupN, Plain.dupL, Plain.dupE, Plain.pushN, Plain.pushL, Plain.pushE, hm, isAt_row, ha, Rw.push, Rw.pushE, Rw.dup, Rw.dupE, this, d8, if_pos h8', Bool.true_and, Bool.and_false, if_true, if_false]
      rfl
    · have h' : r.length < 8 := by omega
      have h8' : ¬ (r.length : Int) = 8 := by omega
      have e1 : rv (Plain.dupN r.length (rl r) i) (Plain.dupL r.length (rl r) i) = rvl (Rw.dup r i) := by
        refine rvl_of ?_ fun j _ => ?_
        · simp [Plain.dupN, Plain.pushN, hm, isAt_row, ha, h8', Rw.dup, Rw.push, h']
        · simp [Plain.dupL, Plain.pushL, hm, isAt_row, ha, h8', Rw.dup, Rw.push, h']
          exact rl_push r _ j
      rw [e1]
      simp [Plain.dupE, Plain.pushE, hm, isAt_row, ha, h8', Rw.dupE, Rw.pushE, h']

theorem cHas {w : World} {L : Loc} {g : Gr} (hg : GAt w L g) (f : g.Fit) (t : Int) :
    Calls Try.prog 34 #[.pointer (some ⟨L.b, 0, none⟩), .int .i64 t] w fun e w' => e = .returned (.bool (g.isT t)) ∧ w' = w := by
  have c0 := hg.cell0
  have t64 := f.t64
  unfold Gr.isT
  by_cases h : 0 ≤ t
  · have hd : decide (0 ≤ t) = true := decide_eq_true h
    rw [hd]
    go_enter Try.func34, Try.ntmps34
    go_wp2
    go_ret
    exact ⟨by simp, rfl⟩
  · have hd : decide (0 ≤ t) = false := decide_eq_false h
    rw [hd]
    go_enter Try.func34, Try.ntmps34
    go_wp2
    go_ret
    exact ⟨rfl, rfl⟩
end Go.Proofs.Ytbihdkdefopijaa
