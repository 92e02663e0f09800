/-
  The walk of the law on the next head: it returns true, and writes nothing that was there.
-/
import Derived.Test.YtodelndbbpgblaaCallsA
namespace Go.Proofs.Ytodelndbbpgblaa
open Go.ChangeShapes Go.WideShapes Go.ChangeAt Go.RowKit
open Plain

theorem nx_ne (a x : Int) : ¬ nx a x = a := by
  unfold nx tw t1
  omega

theorem nx_bne (a x : Int) : (nx a x != a) = true := by simp [nx_ne]

theorem wNextOut0 (a x : Int) (c : x < 0) (w : World) :
    Calls Try.prog 6 #[.int .u64 a, .int .i64 x] w fun e w' => e = .returned (.bool true) ∧ Below w.heap.size w w' := by
  go_enter Try.func6, Try.ntmps6
  go_wp2_with (go_at_call 9; refine (cShown _).mono ?_; rintro e w1 ⟨rfl, hb1⟩)
  go_ret
  exact ⟨rfl, hb1⟩

theorem wNextOut1 (a x : Int) (c0 : 0 ≤ x) (c : 4095 < x) (w : World) :
    Calls Try.prog 6 #[.int .u64 a, .int .i64 x] w fun e w' => e = .returned (.bool true) ∧ Below w.heap.size w w' := by
  go_enter Try.func6, Try.ntmps6
  go_wp2_with (go_at_call 9; refine (cShown _).mono ?_; rintro e w1 ⟨rfl, hb1⟩)
  go_ret
  exact ⟨rfl, hb1⟩

/-- the next head, called where the old one's parts lie in the newest block -/
theorem kNext (a x : Int) (h : 0 ≤ a) (h' : a ≤ 18446744073709551615) (w : World) :
    Calls Try.prog 22 #[.int .u64 a, .int .i64 x] ((w.alloc (.cells #[.int .i64 (t0 a), .int .i64 (t1 a)] 23)).alloc (.cells #[.int .i64 (t0 a), .int .i64 (t1 a)] 23)) fun e w' => e = .returned (.int .u64 (nx a x)) ∧ Below w.heap.size w w' ∧ w.heap.size + 1 < w'.heap.size ∧ w'.cell? ⟨w.heap.size + 1, 1, none⟩ = some (.int .i64 (t1 a)) := by
  refine (gNext a x h h' _).mono ?_
  rintro e w' ⟨rfl, hb⟩
  have hs := hb.size
  simp at hs
  refine ⟨rfl, bt (bal (bal (Below.refl _ _) _) _) hb, by omega, ?_⟩
  exact (hb.cell (by simp)).trans (by simp [go_sem])

theorem wNextIn0 (a x : Int) (h : 0 ≤ a) (h' : a ≤ 18446744073709551615) (c0 : 0 ≤ x) (c1 : x ≤ 4095) (c : t1 a = 1099511627775) (w : World) :
    Calls Try.prog 6 #[.int .u64 a, .int .i64 x] w fun e w' => e = .returned (.bool true) ∧ Below w.heap.size w w' := by
  have n0 := nx_pos a x
  have n1 := nx_le a x
  have nb := nx_bne a x
  have q0 : t0 (nx a x) = x := by unfold nx; rw [t0_tw]; omega
  have q1 : t1 (nx a x) = 0 := by unfold nx; rw [t1_tw, c]; decide
  have z0 : (0 == t1 a + 1) = false := by rw [c]; decide
  have z1 : (t1 a == 1099511627775) = true := by rw [c]; decide
  have v1 : t1 a < 1099511627776 := by omega
  have v0 : 0 ≤ t1 a := by omega
  clear c
  go_enter Try.func6, Try.ntmps6
  go_wp2_with (first
    | (go_at_call 9; refine (cShown _).mono ?_; rintro e w1 ⟨rfl, hb1⟩)
    | (go_at_call 16; refine (cOfTop _ (by assumption) (by assumption) _).mono ?_; rintro e w2 ⟨rfl, rfl⟩)
    | (go_at_call 22; refine (kNext a x h h' _).mono ?_; rintro e w3 ⟨rfl, hb3, hl, hc⟩; have hl1 : w1.heap.size + 1 < w3.heap.size + 1 := by omega))
  go_ret
  exact ⟨rfl, bal (bal (bt hb1 hb3) _) _⟩
theorem wNextIn1 (a x : Int) (h : 0 ≤ a) (h' : a ≤ 18446744073709551615) (c0 : 0 ≤ x) (c1 : x ≤ 4095) (c : t1 a < 1099511627775) (w : World) :
    Calls Try.prog 6 #[.int .u64 a, .int .i64 x] w fun e w' => e = .returned (.bool true) ∧ Below w.heap.size w w' := by
  have n0 := nx_pos a x
  have n1 := nx_le a x
  have nb := nx_bne a x
  have v0 := (t1_bounds a).1
  have q0 : t0 (nx a x) = x := by unfold nx; rw [t0_tw]; omega
  have q1 : t1 (nx a x) = t1 a + 1 := by unfold nx; rw [t1_tw]; omega
  go_enter Try.func6, Try.ntmps6
  go_wp2_with (first
    | (go_at_call 9; refine (cShown _).mono ?_; rintro e w1 ⟨rfl, hb1⟩)
    | (go_at_call 16; refine (cOfTop _ (by assumption) (by assumption) _).mono ?_; rintro e w2 ⟨rfl, rfl⟩)
    | (go_at_call 22; refine (kNext a x h h' _).mono ?_; rintro e w3 ⟨rfl, hb3, hl, hc⟩; have hl1 : w1.heap.size + 1 < w3.heap.size + 1 := by omega))
  go_ret
  exact ⟨rfl, bal (bal (bt hb1 hb3) _) _⟩

theorem wNext (a x : Int) (h : 0 ≤ a) (h' : a ≤ 18446744073709551615) (w : World) :
    Calls Try.prog 6 #[.int .u64 a, .int .i64 x] w fun e w' => e = .returned (.bool true) ∧ Below w.heap.size w w' := by
  by_cases c0 : x < 0
  · exact wNextOut0 a x c0 w
  by_cases c1 : 4095 < x
  · exact wNextOut1 a x (by omega) c1 w
  have := t1_bounds a
  by_cases c : t1 a = 1099511627775
  · exact wNextIn0 a x h h' (by omega) (by omega) c w
  · exact wNextIn1 a x h h' (by omega) (by omega) (by omega) w
end Go.Proofs.Ytodelndbbpgblaa
