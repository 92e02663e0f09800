import Derived.Test.YtpcoldpphihfmaaGreatDoorDm
import Derived.Laws.StructEq
namespace Go.Proofs.YtpcoldpphihfmaaGreatDoor
set_option linter.unusedVariables false
set_option maxRecDepth 100000
open Go.ChangeShapes Go.WideShapes Go.ChangeAt Go.RowKit
theorem eqVal (a b : Vl) (w : World) : (binOp .eql 38 (.agg #[.int .i64 a.k, .int .i64 a.n]) (.agg #[.int .i64 b.k, .int .i64 b.n])).run Tryz.prog w = .ok (.bool (decide (a = b))) w := by
 obtain ⟨x0, x1⟩ := a
 obtain ⟨y0, y1⟩ := b
 have u3 := Tryz.underlying3
 have a3 := Tryz.isAgg3
 have z3 := Tryz.sizeOf3
 have hS : Tryz.prog.underlying 38 = some (.struct (Tryz.prog.fieldsOf 38)) := by kernel_rfl
 have hp : Tryz.prog.stoodInHeld 38 = false := by kernel_rfl
 rw [run_eql_struct, show (10000 : Nat) = 9999 + 1 from rfl, run_equalIn_agg w 9999 38 _ _ hS hp]
 simp only [Program.fieldsOf, Tryz.underlying38]
 go_simp
 by_cases h1 : x0 = y0 <;> by_cases h2 : x1 = y1 <;> simp [h1, h2]
theorem eqVal_t {a b : Vl} (h : a = b) (w : World) : (binOp .eql 38 (.agg #[.int .i64 a.k, .int .i64 a.n]) (.agg #[.int .i64 b.k, .int .i64 b.n])).run Tryz.prog w = .ok (.bool true) w := by rw [eqVal, decide_eq_true h]
theorem eqVal_f {a b : Vl} (h : a ≠ b) (w : World) : (binOp .eql 38 (.agg #[.int .i64 a.k, .int .i64 a.n]) (.agg #[.int .i64 b.k, .int .i64 b.n])).run Tryz.prog w = .ok (.bool false) w := by rw [eqVal, decide_eq_false h]
theorem fhead2 (a b c d e f g : Int) (w : World) : (Instr.field 40 (.agg #[.int .i64 a, .int .i64 b, .int .i64 c, .int .i64 d, .int .i64 e, .int .i64 f, .int .i64 g]) 2).run Tryz.prog w = .ok (.int .i64 c) w := by kernel_rfl
end Go.Proofs.YtpcoldpphihfmaaGreatDoor
