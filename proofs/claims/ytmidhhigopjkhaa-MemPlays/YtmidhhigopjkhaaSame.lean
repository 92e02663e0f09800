/-
  The reference's Same, of two rows of the same accesses.
-/
import Derived.Test.YtmidhhigopjkhaaRef2
namespace Go.Proofs.Ytmidhhigopjkhaa
set_option linter.unusedVariables false
open Go.ChangeShapes Go.WideShapes Go.RowKit

theorem neqAcc (x0 x1 : Int) (b : Bool) (w : World) : (binOp .neq 44 (.agg #[.int .i64 x0, .int .i64 x1, .bool b]) (.agg #[.int .i64 x0, .int .i64 x1, .bool b])).run Try.prog w = .ok (.bool false) w := by
  have u3 := Try.underlying3
  have a3 := Try.isAgg3
  have z3 := Try.sizeOf3
  have u4 := Try.underlying4
  have a4 := Try.isAgg4
  have z4 := Try.sizeOf4
  have hS : Try.prog.underlying 44 = some (.struct (Try.prog.fieldsOf 44)) := by kernel_rfl
  have hp : Try.prog.stoodInHeld 44 = false := by kernel_rfl
  rw [run_neq_struct, show (10000 : Nat) = 9999 + 1 from rfl, run_equalIn_agg w 9999 44 _ _ hS hp]
  simp only [Program.fieldsOf, Try.underlying44]
  go_simp

/-- a world whose heap is as it was -/
structure SameW (w w' : World) : Prop where
  os : w'.os = w.os
  tape : w'.tape = w.tape
  output : w'.output = w.output
  heap : w'.heap = w.heap
theorem SameW.kept {w w' : World} (h : SameW w w') : Kept [] w w' := ⟨h.os, h.tape, h.output, by rw [h.heap]; exact Nat.le_refl _, fun _ _ _ => by rw [h.heap]⟩

set_option maxHeartbeats 400000 in
theorem rSame {w : World} {ao ao' : Option Addr} {l : List (Int × Int × Bool)} (h1 : Taken w ao l) (h2 : Taken w ao' l) (hl : l.length ≤ 1000000) (c c' : Nat) :
    Calls Try.prog 23 #[.slice ao l.length c, .slice ao' l.length c'] w fun e w' => e = .returned (.bool true) ∧ SameW w w' := by
  go_enter Try.func23, Try.ntmps23
  go_wp2
  go_loopw [5] (fun i wr => ∃ j : Nat, j ≤ l.length ∧ i = .int .i64 j ∧ SameW w wr) (fun i _ => l.length - (intOf i).toNat)
  case atStart => exact ⟨0, Nat.zero_le _, rfl, ⟨rfl, rfl, rfl, rfl⟩⟩
  case round =>
    obtain ⟨j, hj, rfl, hs⟩ := hrel
    by_cases hlt : j < l.length
    case neg =>
      go_wp2
      go_ret
      exact ⟨rfl, hs⟩
    case pos =>
      obtain ⟨x0, x1, b, hx'⟩ : ∃ x0 x1 b, l[j]? = some (x0, x1, b) := ⟨_, _, _, List.getElem?_eq_getElem hlt⟩
      obtain ⟨g, rfl, y0, y1, y2⟩ := h1.cells j _ hx'
      obtain ⟨g', rfl, z0, z1, z2⟩ := h2.cells j _ hx'
      rw [← same_cell hs.heap] at y0 y1 y2 z0 z1 z2
      have N := neqAcc x0 x1 b
      clear hx'
      go_wp2
      have hq3 : (0 : Int) ≤ j := by omega
      have hq6 : ¬ (j : Int) < 0 := by omega
      have hq7 : (j : Int) < (l.length : Int) := by omega
      go_quiet ((fail))
      go_wp2
      go_roundw
      case rel => exact ⟨j + 1, by omega, by go_num, ⟨hs.os, hs.tape, hs.output, hs.heap⟩⟩
      case measure => simp [intOf]; omega
end Go.Proofs.Ytmidhhigopjkhaa
