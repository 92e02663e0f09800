/-
  What the laid table of cells' words gives the walks.
-/
import Derived.Test.YtfohcacngmiklaaDoorCalls
import Derived.Test.YtfohcacngmiklaaDoorTie
import Derived.Lib.SmallJoins
import Derived.LaidMore
import Derived.Carry
import Derived.ChangeOld
namespace Go.Proofs.YtfohcacngmiklaaDoor
open Go.ChangeShapes Go.WideShapes Go.ChangeAt Go.RowKit Go.Joins Go.Deep

theorem own : ownKnob Tryd.prog.godebug = none := by kernel_rfl
theorem laidOut : laidOutB Tryd.prog = true := by kernel_rfl

theorem gTable : Tryd.prog.globalNamed "flit/plan.cellWords" = some 0 := by kernel_rfl
theorem tTable : (Tryd.prog.globals[0]?).map (·.type) = some 36 := by kernel_rfl

/-- the heap that the door's own run leaves meets the condition -/
theorem door_met (os : Os) (args : Array Value) : laidMetH Tryd.prog [("flit/plan.cellWords", Rows.laid_flit_plan_cellWords)] ((World.doorLaid Tryd.prog 14 os).forCall (fun _ _ => 0) ⟨#[], args, []⟩).memory :=
  laidMetH_of_parts3 (fuel := 8) (laidMet_of_run' 8 (by kernel_rfl) (by kernel_rfl)) (by kernel_rfl) (by kernel_rfl)

/-- what the condition gives the walks: the table's three cells -/
theorem of_laid {W : World} (h : laidMetH Tryd.prog [("flit/plan.cellWords", Rows.laid_flit_plan_cellWords)] W) : Wid W := by
  rw [MakeChecks.laidMetH_plain _ _ _ (by kernel_rfl)] at h
  obtain ⟨ps, ⟨g0, t0, cs0, f0, p0, q0, hg0, ht0, hv0, hd0, _, _⟩, _, _⟩ := h
  obtain rfl := Option.some.inj (gTable.symm.trans hg0)
  obtain rfl := Option.some.inj (tTable.symm.trans ht0)
  obtain ⟨xs, m1, rfl, hx1, hlen, hn3, hel⟩ := DataW.trod_array Tryd.underlying36 hd0
  have c3 : Tryd.prog.cellsOf 3 = 1 := by kernel_rfl
  simp only [Prod.mk.injEq, Rows.laid_flit_plan_cellWords, DataW.agg.injEq] at hx1
  have key : ∀ (i : Nat) (k : Int), i < 3 → ([.lit (.int .i64 4), .lit (.int .i64 8), .lit (.int .i64 16)] : List (DataW Unit))[i]? = some (.lit (.int .i64 k)) → W.cell? ⟨0, i, none⟩ = some (.int .i64 k) := by
    intro i k hi hk
    have h0 := hel i hi
    have hlt : i < xs.length := by omega
    rw [List.getElem?_eq_getElem hlt, c3, Nat.mul_one] at h0
    obtain ⟨k', e1, e2, _⟩ := DataW.trod_int Tryd.underlying3 h0
    rw [hx1.1, List.getElem?_map, List.getElem?_eq_getElem hlt, e2] at hk
    simp at hk
    subst hk
    rw [World.var?_cell hg0 hv0 i]
    have := congrArg (fun l => l[0]?) e1
    simpa using this
  have a0 := key 0 4 (by decide) rfl
  exact ⟨World.block_lt_of_cell? _ _ a0, a0, key 1 8 (by decide) rfl, key 2 16 (by decide) rfl⟩
end Go.Proofs.YtfohcacngmiklaaDoor
