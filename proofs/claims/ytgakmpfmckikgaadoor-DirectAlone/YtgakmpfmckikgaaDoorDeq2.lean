/-
  What '==' says of two answers; fields of values.
-/
import Derived.Test.YtgakmpfmckikgaaDoorDeq
import Derived.Laws.StructEq
namespace Go.Proofs.YtgakmpfmckikgaaDoor
set_option linter.unusedVariables false
set_option maxRecDepth 100000
open Go.ChangeShapes Go.WideShapes Go.ChangeAt Go.RowKit

theorem eqOut (a b : Ou) (w : World) : (binOp .eql 45 (.agg #[.int .i64 a.c, .int .i64 a.v.k, .int .i64 a.v.n, .bool a.y]) (.agg #[.int .i64 b.c, .int .i64 b.v.k, .int .i64 b.v.n, .bool b.y])).run Tryd.prog w = .ok (.bool (decide (a = b))) w := by
  obtain ⟨x0, ⟨x1, x2⟩, x3⟩ := a
  obtain ⟨y0, ⟨y1, y2⟩, y3⟩ := b
  have u3 := Tryd.underlying43
  have a3 := Tryd.isAgg43
  have z3 := Tryd.sizeOf43
  have u4 := Tryd.underlying4
  have a4 := Tryd.isAgg4
  have z4 := Tryd.sizeOf4
  have a5 := Tryd.isAgg24
  have z5 := Tryd.sizeOf24
  have hS : Tryd.prog.underlying 45 = some (.struct (Tryd.prog.fieldsOf 45)) := by kernel_rfl
  have hp : Tryd.prog.stoodInHeld 45 = false := by kernel_rfl
  rw [run_eql_struct, show (10000 : Nat) = 9999 + 1 from rfl, run_equalIn_agg w 9999 45 _ _ hS hp]
  simp only [Program.fieldsOf, Tryd.underlying45]
  go_simp
  by_cases h1 : x0 = y0 <;> by_cases h2 : x1 = y1 <;> by_cases h3 : x2 = y2 <;> by_cases h4 : x3 = y3 <;> simp [h1, h2, h3, h4]
theorem fOut0 (a b c : Int) (d : Bool) (w : World) : (Instr.field 45 (.agg #[.int .i64 a, .int .i64 b, .int .i64 c, .bool d]) 0).run Tryd.prog w = .ok (.int .i64 a) w := by kernel_rfl
theorem fOut1 (a b c : Int) (d : Bool) (w : World) : (Instr.field 45 (.agg #[.int .i64 a, .int .i64 b, .int .i64 c, .bool d]) 1).run Tryd.prog w = .ok (.agg #[.int .i64 b, .int .i64 c]) w := by kernel_rfl
theorem fOut2 (a b c : Int) (d : Bool) (w : World) : (Instr.field 45 (.agg #[.int .i64 a, .int .i64 b, .int .i64 c, .bool d]) 2).run Tryd.prog w = .ok (.bool d) w := by kernel_rfl
theorem fVal1 (a b : Int) (w : World) : (Instr.field 24 (.agg #[.int .i64 a, .int .i64 b]) 1).run Tryd.prog w = .ok (.int .i64 b) w := by kernel_rfl
end Go.Proofs.YtgakmpfmckikgaaDoor
