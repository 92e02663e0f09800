/-
  What Cell, the reference's New, and the document's examples come to when they are called; what '==' says of two plans that are the same.
-/
import Derived.Test.YtoablodmodnamaaDoorPCalls
namespace Go.Proofs.YtoablodmodnamaaDoor.P
set_option linter.unusedVariables false
open Go.ChangeShapes Go.WideShapes Go.ChangeAt Go.RowKit
open Plain

theorem mul_bounds {k x : Int} (h0 : 0 ≤ k) (h1 : k ≤ 100) (x0 : 0 ≤ x) (x1 : x ≤ 16) : 0 ≤ k * x ∧ k * x ≤ 1600 := by
  refine ⟨Int.mul_nonneg h0 x0, ?_⟩
  have := Int.mul_le_mul h1 x1 x0 (by omega : (0 : Int) ≤ 100)
  omega

theorem rCell (p0 p1 p2 p3 p4 : Int) (i c k : Int) (q0 : 0 ≤ p3) (q1 : p3 ≤ 1000) (i0 : 0 ≤ i) (i1 : i ≤ 100) (k0 : 0 ≤ k) (k1 : k ≤ 100) (w : World) :
    Calls Tryd.prog 119 #[.agg #[.int .i64 p0, .int .i64 p1, .int .i64 p2, .int .i64 p3, .int .i64 p4], .int .i64 i, .int .i64 c, .int .i64 k] w fun e w' => e = .returned (.int .i64 (p3 + 32 * i + k * wd c)) ∧ Below w.heap.size w w' := by
  have b1 := (wd_bounds c).1
  have b2 := (wd_bounds c).2
  have m1 := (mul_bounds k0 k1 b1 b2).1
  have m2 := (mul_bounds k0 k1 b1 b2).2
  go_enter Tryd.func119, Tryd.ntmps119
  go_wp2
  go_quiet ((go_at_call 118; exact Calls.quiet_of_same (rWords _ _)))
  go_wp2
  go_ret
  exact ⟨rfl, bdr (bal (Below.refl _ _) _) _⟩

theorem eqPlan (x0 x1 x2 x3 x4 : Int) (w : World) : (binOp .eql 32 (.agg #[.int .i64 x0, .int .i64 x1, .int .i64 x2, .int .i64 x3, .int .i64 x4]) (.agg #[.int .i64 x0, .int .i64 x1, .int .i64 x2, .int .i64 x3, .int .i64 x4])).run Tryd.prog w = .ok (.bool true) w := by
  have u3 := Tryd.underlying3
  have a3 := Tryd.isAgg3
  have z3 := Tryd.sizeOf3
  have hS : Tryd.prog.underlying 32 = some (.struct (Tryd.prog.fieldsOf 32)) := by kernel_rfl
  have hp : Tryd.prog.stoodInHeld 32 = false := by kernel_rfl
  rw [run_eql_struct, show (10000 : Nat) = 9999 + 1 from rfl, run_equalIn_agg w 9999 32 _ _ hS hp]
  simp only [Program.fieldsOf, Tryd.underlying32]
  go_simp

set_option maxHeartbeats 800000 in
theorem rNew (t b : Int) (t0 : 1 ≤ t) (t1 : t ≤ 64) (b0 : 1 ≤ b) (b1 : b ≤ 64) (w : World) :
    Calls Tryd.prog 8 #[.int .i64 t, .int .i64 b] w fun e w' => e = .returned (.tuple #[.agg #[.int .i64 t, .int .i64 b, .int .i64 (10 + t), .int .i64 (hp t b), .int .i64 (hp t b + 32 * b)], .int .i64 0]) ∧ Below w.heap.size w w' := by
  obtain ⟨g1, g2, g3, g4, g5⟩ := hp_bounds t0 t1 b0 b1
  go_enter Tryd.func8, Tryd.ntmps8
  go_wp2
  go_loopw [] (fun wr => ∃ k : Nat, 32 * (k : Int) ≤ hp t b ∧ wr = (w.alloc (.cells #[.int .i64 0, .int .i64 0, .int .i64 0, .int .i64 0, .int .i64 0] 32)).alloc (.cells #[.int .i64 t, .int .i64 b, .int .i64 (10 + t), .int .i64 (32 * (k : Int)), .int .i64 0] 32)) (fun wr => match wr.cell? ⟨w.heap.size + 1, 3, none⟩ with | some v => (1000 - intOf v).toNat | none => 0)
  case atStart => exact ⟨0, by omega, rfl⟩
  case round =>
    obtain ⟨k, hk, rfl⟩ := hrel
    by_cases hlt : 32 * (k : Int) < 10 + t + b
    case pos =>
      go_wp2
      go_roundw
      case rel => exact ⟨k + 1, by omega, by rw [show 32 * ((k + 1 : Nat) : Int) = 32 * (k : Int) + 32 by omega]⟩
      case measure => simp [intOf, go_sem]; omega
    case neg =>
      have E : 32 * (k : Int) = hp t b := by omega
      rw [E]
      go_wp2
      exact bodyPost_ret (v := .tuple #[.agg #[.int .i64 t, .int .i64 b, .int .i64 (10 + t), .int .i64 (hp t b), .int .i64 (hp t b + 32 * b)], .int .i64 0]) (by simp [results, Tryd.results8, go_sem]) rfl ⟨rfl, bal (bal (Below.refl _ _) _) _⟩

/-- a plan lies in the block q -/
def PAt (w : World) (q : Nat) (p0 p1 p2 p3 p4 : Int) : Prop := q < w.heap.size ∧ w.cell? ⟨q, 0, none⟩ = some (.int .i64 p0) ∧ w.cell? ⟨q, 1, none⟩ = some (.int .i64 p1) ∧ w.cell? ⟨q, 2, none⟩ = some (.int .i64 p2) ∧ w.cell? ⟨q, 3, none⟩ = some (.int .i64 p3) ∧ w.cell? ⟨q, 4, none⟩ = some (.int .i64 p4)
theorem PAt.on {u v : World} {q : Nat} {p0 p1 p2 p3 p4 : Int} (h : PAt u q p0 p1 p2 p3 p4) (hb : Below u.heap.size u v) : PAt v q p0 p1 p2 p3 p4 := by
  obtain ⟨h0, a0, a1, a2, a3, a4⟩ := h
  exact ⟨Nat.lt_of_lt_of_le h0 hb.size, (hb.cell h0).trans a0, (hb.cell h0).trans a1, (hb.cell h0).trans a2, (hb.cell h0).trans a3, (hb.cell h0).trans a4⟩

end Go.Proofs.YtoablodmodnamaaDoor.P
