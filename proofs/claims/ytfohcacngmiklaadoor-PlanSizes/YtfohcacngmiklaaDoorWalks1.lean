/-
  The walks of four laws of layer 5: each returns true, and writes nothing that was there.
-/
import Derived.Test.YtfohcacngmiklaaDoorCalls2
namespace Go.Proofs.YtfohcacngmiklaaDoor
set_option linter.unusedVariables false
open Go.ChangeShapes Go.WideShapes Go.ChangeAt Go.RowKit
open Plain

theorem wMakes1 (t b : Int) (t0 : 1 ≤ t) (t1 : t ≤ 64) (b0 : 1 ≤ b) (b1 : b ≤ 64) (w : World) (W : Wid w) :
    Calls Tryd.prog 3 #[.int .i64 t, .int .i64 b] w fun e w' => e = .returned (.bool true) ∧ Below w.heap.size w w' := by
  have Q := eqPlan t b (10 + t) (hp t b) (hp t b + 32 * b)
  go_enter Tryd.func3, Tryd.ntmps3
  go_wp2_with (first
    | (go_at_call 9; refine (cShown _ W).mono ?_; rintro e w1 ⟨rfl, hb1⟩; have W1 := W.on hb1)
    | (go_at_call 10; refine (cNew t b t0 t1 b0 b1 _).mono ?_; rintro e w2 ⟨rfl, rfl⟩)
    | (go_at_call 11; refine (rNew t b t0 t1 b0 b1 _).mono ?_; rintro e w3 ⟨rfl, hb3⟩; obtain ⟨hz, c0, c1, c2, c3, c4⟩ : PAt w3 (w1.heap.size + 1) t b (10 + t) (hp t b) (hp t b + 32 * b) := PAt.on ⟨by simp, by go_cell, by go_cell, by go_cell, by go_cell, by go_cell⟩ hb3; have hB := bt (bal (bal hb1 _) _) hb3; clear hb3))
  go_ret
  exact ⟨rfl, bal hB _⟩

theorem wMakes2 (t b : Int) (t0 : t < 1) (w : World) (W : Wid w) :
    Calls Tryd.prog 3 #[.int .i64 t, .int .i64 b] w fun e w' => e = .returned (.bool true) ∧ Below w.heap.size w w' := by
  have Q := eqPlan 0 0 0 0 0
  go_enter Tryd.func3, Tryd.ntmps3
  go_wp2_with (first
    | (go_at_call 9; refine (cShown _ W).mono ?_; rintro e w1 ⟨rfl, hb1⟩; have W1 := W.on hb1)
    | (go_at_call 10; refine (cNewA t b t0 _).mono ?_; rintro e w2 ⟨rfl, rfl⟩)
    | (go_at_call 11; refine (rNewA t b t0 _).mono ?_; rintro e w3 ⟨rfl, rfl⟩))
  go_ret
  exact ⟨rfl, bal (bal (bal (bal hb1 _) _) _) _⟩

theorem wMakes3 (t b : Int) (t0 : 1 ≤ t) (t1 : 64 < t) (w : World) (W : Wid w) :
    Calls Tryd.prog 3 #[.int .i64 t, .int .i64 b] w fun e w' => e = .returned (.bool true) ∧ Below w.heap.size w w' := by
  have Q := eqPlan 0 0 0 0 0
  go_enter Tryd.func3, Tryd.ntmps3
  go_wp2_with (first
    | (go_at_call 9; refine (cShown _ W).mono ?_; rintro e w1 ⟨rfl, hb1⟩; have W1 := W.on hb1)
    | (go_at_call 10; refine (cNewB t b t0 t1 _).mono ?_; rintro e w2 ⟨rfl, rfl⟩)
    | (go_at_call 11; refine (rNewB t b t0 t1 _).mono ?_; rintro e w3 ⟨rfl, rfl⟩))
  go_ret
  exact ⟨rfl, bal (bal (bal (bal hb1 _) _) _) _⟩

theorem wMakes4 (t b : Int) (t0 : 1 ≤ t) (t1 : t ≤ 64) (b0 : b < 1) (w : World) (W : Wid w) :
    Calls Tryd.prog 3 #[.int .i64 t, .int .i64 b] w fun e w' => e = .returned (.bool true) ∧ Below w.heap.size w w' := by
  have Q := eqPlan 0 0 0 0 0
  go_enter Tryd.func3, Tryd.ntmps3
  go_wp2_with (first
    | (go_at_call 9; refine (cShown _ W).mono ?_; rintro e w1 ⟨rfl, hb1⟩; have W1 := W.on hb1)
    | (go_at_call 10; refine (cNewC t b t0 t1 b0 _).mono ?_; rintro e w2 ⟨rfl, rfl⟩)
    | (go_at_call 11; refine (rNewC t b t0 t1 b0 _).mono ?_; rintro e w3 ⟨rfl, rfl⟩))
  go_ret
  exact ⟨rfl, bal (bal (bal (bal hb1 _) _) _) _⟩

theorem wMakes5 (t b : Int) (t0 : 1 ≤ t) (t1 : t ≤ 64) (b0 : 1 ≤ b) (b1 : 64 < b) (w : World) (W : Wid w) :
    Calls Tryd.prog 3 #[.int .i64 t, .int .i64 b] w fun e w' => e = .returned (.bool true) ∧ Below w.heap.size w w' := by
  have Q := eqPlan 0 0 0 0 0
  go_enter Tryd.func3, Tryd.ntmps3
  go_wp2_with (first
    | (go_at_call 9; refine (cShown _ W).mono ?_; rintro e w1 ⟨rfl, hb1⟩; have W1 := W.on hb1)
    | (go_at_call 10; refine (cNewD t b t0 t1 b0 b1 _).mono ?_; rintro e w2 ⟨rfl, rfl⟩)
    | (go_at_call 11; refine (rNewD t b t0 t1 b0 b1 _).mono ?_; rintro e w3 ⟨rfl, rfl⟩))
  go_ret
  exact ⟨rfl, bal (bal (bal (bal hb1 _) _) _) _⟩

theorem wMakes (t b : Int) (w : World) (W : Wid w) :
    Calls Tryd.prog 3 #[.int .i64 t, .int .i64 b] w fun e w' => e = .returned (.bool true) ∧ Below w.heap.size w w' := by
  by_cases t0 : t < 1
  · exact wMakes2 t b t0 w W
  by_cases t1 : t ≤ 64
  case neg => exact wMakes3 t b (by omega) (by omega) w W
  by_cases b0 : b < 1
  · exact wMakes4 t b (by omega) t1 b0 w W
  by_cases b1 : b ≤ 64
  case neg => exact wMakes5 t b (by omega) t1 (by omega) (by omega) w W
  exact wMakes1 t b (by omega) t1 (by omega) b1 w W

theorem wClasses (n : Int) (w : World) (W : Wid w) :
    Calls Tryd.prog 4 #[.int .i64 n] w fun e w' => e = .returned (.bool true) ∧ Below w.heap.size w w' := by
  go_enter Tryd.func4, Tryd.ntmps4
  go_wp2_with (first
    | (go_at_call 9; refine (cShown _ W).mono ?_; rintro e w1 ⟨rfl, hb1⟩; have W1 := W.on hb1)
    | (go_at_call 12; refine (cWords n _ W1).mono ?_; rintro e w2 ⟨rfl, hw⟩; rw [hw]; clear hw)
    | (go_at_call 13; refine (rWords n _).mono ?_; rintro e w2 ⟨rfl, hw⟩; rw [hw]; clear hw)
    | (go_at_call 14; refine (cCells n _ W1).mono ?_; rintro e w2 ⟨rfl, hw⟩; rw [hw]; clear hw)
    | (go_at_call 15; refine (rCells n _).mono ?_; rintro e w2 ⟨rfl, hw⟩; rw [hw]; clear hw)
    | (go_at_call 16; refine (cClass n _ W1).mono ?_; rintro e w2 ⟨rfl, hw⟩; rw [hw]; clear hw)
    | (go_at_call 17; refine (rClass n _).mono ?_; rintro e w2 ⟨rfl, hw⟩; rw [hw]; clear hw))
  go_ret
  exact ⟨rfl, hb1⟩

theorem wSizes1 (n : Int) (h : n < 0) (w : World) (W : Wid w) :
    Calls Tryd.prog 7 #[.int .i64 n] w fun e w' => e = .returned (.bool true) ∧ Below w.heap.size w w' := by
  have d0 : wd 0 = 4 := rfl
  have d1 : wd 1 = 8 := rfl
  have d2 : wd 2 = 16 := rfl
  have s0 : cs 0 = 8 := rfl
  have s1 : cs 1 = 4 := rfl
  have s2 : cs 2 = 2 := rfl
  have E := cl_lo h
  go_enter Tryd.func7, Tryd.ntmps7
  go_wp2_with (go_at_call 9; refine (cShown _ W).mono ?_; rintro e w1 ⟨rfl, hb1⟩; have W1 := W.on hb1)
  refine wp_loop_rounds 4 ?_
  iterate 4
    rw [rounds_succ]
    go_wp2_with (first
      | (go_at_call 12; refine (cWords _ _ W1).mono ?_; rintro e w2 ⟨rfl, hw⟩; rw [hw]; clear hw)
      | (go_at_call 14; refine (cCells _ _ W1).mono ?_; rintro e w2 ⟨rfl, hw⟩; rw [hw]; clear hw)
      | (go_at_call 16; refine (cClass _ _ W1).mono ?_; rintro e w2 ⟨rfl, hw⟩; rw [hw]; clear hw))
  go_ret
  exact ⟨rfl, hb1⟩

theorem wSizes2 (n : Int) (h : 0 ≤ n) (h' : n ≤ 3) (w : World) (W : Wid w) :
    Calls Tryd.prog 7 #[.int .i64 n] w fun e w' => e = .returned (.bool true) ∧ Below w.heap.size w w' := by
  have d0 : wd 0 = 4 := rfl
  have d1 : wd 1 = 8 := rfl
  have d2 : wd 2 = 16 := rfl
  have s0 : cs 0 = 8 := rfl
  have s1 : cs 1 = 4 := rfl
  have s2 : cs 2 = 2 := rfl
  have E := cl_0 h h'
  have hd : decide (2 + 2 * n ≤ 8) = true := decide_eq_true (by omega)
  go_enter Tryd.func7, Tryd.ntmps7
  go_wp2_with (go_at_call 9; refine (cShown _ W).mono ?_; rintro e w1 ⟨rfl, hb1⟩; have W1 := W.on hb1)
  refine wp_loop_rounds 4 ?_
  iterate 4
    rw [rounds_succ]
    go_wp2_with (first
      | (go_at_call 12; refine (cWords _ _ W1).mono ?_; rintro e w2 ⟨rfl, hw⟩; rw [hw]; clear hw)
      | (go_at_call 14; refine (cCells _ _ W1).mono ?_; rintro e w2 ⟨rfl, hw⟩; rw [hw]; clear hw)
      | (go_at_call 16; refine (cClass _ _ W1).mono ?_; rintro e w2 ⟨rfl, hw⟩; rw [hw]; clear hw))
  go_ret
  exact ⟨rfl, hb1⟩

theorem wSizes3 (n : Int) (h : 4 ≤ n) (h' : n ≤ 7) (w : World) (W : Wid w) :
    Calls Tryd.prog 7 #[.int .i64 n] w fun e w' => e = .returned (.bool true) ∧ Below w.heap.size w w' := by
  have d0 : wd 0 = 4 := rfl
  have d1 : wd 1 = 8 := rfl
  have d2 : wd 2 = 16 := rfl
  have s0 : cs 0 = 8 := rfl
  have s1 : cs 1 = 4 := rfl
  have s2 : cs 2 = 2 := rfl
  have E := cl_1 h h'
  have hd : decide (2 + 2 * n ≤ 16) = true := decide_eq_true (by omega)
  have h4 : 0 ≤ n := by omega
  go_enter Tryd.func7, Tryd.ntmps7
  go_wp2_with (go_at_call 9; refine (cShown _ W).mono ?_; rintro e w1 ⟨rfl, hb1⟩; have W1 := W.on hb1)
  refine wp_loop_rounds 4 ?_
  iterate 4
    rw [rounds_succ]
    go_wp2_with (first
      | (go_at_call 12; refine (cWords _ _ W1).mono ?_; rintro e w2 ⟨rfl, hw⟩; rw [hw]; clear hw)
      | (go_at_call 14; refine (cCells _ _ W1).mono ?_; rintro e w2 ⟨rfl, hw⟩; rw [hw]; clear hw)
      | (go_at_call 16; refine (cClass _ _ W1).mono ?_; rintro e w2 ⟨rfl, hw⟩; rw [hw]; clear hw))
  go_ret
  exact ⟨rfl, hb1⟩

theorem wSizes4 (n : Int) (h : 8 ≤ n) (w : World) (W : Wid w) :
    Calls Tryd.prog 7 #[.int .i64 n] w fun e w' => e = .returned (.bool true) ∧ Below w.heap.size w w' := by
  have d0 : wd 0 = 4 := rfl
  have d1 : wd 1 = 8 := rfl
  have d2 : wd 2 = 16 := rfl
  have s0 : cs 0 = 8 := rfl
  have s1 : cs 1 = 4 := rfl
  have s2 : cs 2 = 2 := rfl
  have E := cl_hi h
  have h4 : 0 ≤ n := by omega
  have h5 : decide (7 < n) = true := decide_eq_true (by omega)
  go_enter Tryd.func7, Tryd.ntmps7
  go_wp2_with (go_at_call 9; refine (cShown _ W).mono ?_; rintro e w1 ⟨rfl, hb1⟩; have W1 := W.on hb1)
  refine wp_loop_rounds 4 ?_
  iterate 4
    rw [rounds_succ]
    go_wp2_with (first
      | (go_at_call 12; refine (cWords _ _ W1).mono ?_; rintro e w2 ⟨rfl, hw⟩; rw [hw]; clear hw)
      | (go_at_call 14; refine (cCells _ _ W1).mono ?_; rintro e w2 ⟨rfl, hw⟩; rw [hw]; clear hw)
      | (go_at_call 16; refine (cClass _ _ W1).mono ?_; rintro e w2 ⟨rfl, hw⟩; rw [hw]; clear hw))
  go_ret
  exact ⟨rfl, hb1⟩

theorem wSizes (n : Int) (w : World) (W : Wid w) :
    Calls Tryd.prog 7 #[.int .i64 n] w fun e w' => e = .returned (.bool true) ∧ Below w.heap.size w w' := by
  rcases cl_ways n with h | ⟨h, h'⟩ | ⟨h, h'⟩ | h
  · exact wSizes1 n h w W
  · exact wSizes2 n h h' w W
  · exact wSizes3 n h h' w W
  · exact wSizes4 n h w W

end Go.Proofs.YtfohcacngmiklaaDoor
