/-
  What the laid table gives the walks.
-/
import Derived.Test.YtoablodmodnamaaDoorHCalls
import Derived.Test.YtoablodmodnamaaDoorTie
import Derived.Lib.SmallJoins
import Derived.LaidMore
import Derived.Carry
import Derived.ChangeOld
namespace Go.Proofs.YtoablodmodnamaaDoor
open Go.ChangeShapes Go.WideShapes Go.ChangeAt Go.RowKit Go.Joins Go.Deep

theorem own : ownKnob Tryd.prog.godebug = none := by kernel_rfl
theorem laidOut : laidOutB Tryd.prog = true := by kernel_rfl

theorem gWidths : Tryd.prog.globalNamed "flit/head.widths" = some 0 := by kernel_rfl
theorem tWidths : (Tryd.prog.globals[0]?).map (·.type) = some 165 := by kernel_rfl

/-- the heap that the door's own run leaves meets the condition -/
theorem door_met (os : Os) (args : Array Value) : laidMetH Tryd.prog [("flit/head.widths", Rows.laid_flit_head_widths)] ((World.doorLaid Tryd.prog 14 os).forCall (fun _ _ => 0) ⟨#[], args, []⟩).memory :=
  laidMetH_of_parts3 (fuel := 8) (laidMet_of_run' 8 (by kernel_rfl) (by kernel_rfl)) (by kernel_rfl) (by kernel_rfl)

/-- what the condition gives the walks: the table's seven cells -/
theorem of_laid {W : World} (h : laidMetH Tryd.prog [("flit/head.widths", Rows.laid_flit_head_widths)] W) : H.Wid W := by
  rw [MakeChecks.laidMetH_plain _ _ _ (by kernel_rfl)] at h
  obtain ⟨ps, ⟨g0, t0, cs0, f0, p0, q0, hg0, ht0, hv0, hd0, _, _⟩, _, _⟩ := h
  obtain rfl := Option.some.inj (gWidths.symm.trans hg0)
  obtain rfl := Option.some.inj (tWidths.symm.trans ht0)
  obtain ⟨xs, m1, rfl, hx1, hlen, hn3, hel⟩ := DataW.trod_array Tryd.underlying165 hd0
  have c3 : Tryd.prog.cellsOf 3 = 1 := by kernel_rfl
  simp only [Prod.mk.injEq, Rows.laid_flit_head_widths, DataW.agg.injEq] at hx1
  have key : ∀ (i : Nat) (k : Int), i < 7 → ([.lit (.int .i64 2), .lit (.int .i64 2), .lit (.int .i64 3), .lit (.int .i64 1), .lit (.int .i64 1), .lit (.int .i64 3), .lit (.int .i64 12)] : List (DataW Unit))[i]? = some (.lit (.int .i64 k)) → W.cell? ⟨0, i, none⟩ = some (.int .i64 k) := by
    intro i k hi hk
    have h0 := hel i hi
    have hlt : i < xs.length := by omega
    rw [List.getElem?_eq_getElem hlt, c3, Nat.mul_one] at h0
    obtain ⟨k', e1, e2, _⟩ := DataW.trod_int Tryd.underlying3 h0
    rw [hx1.1, List.getElem?_map, List.getElem?_eq_getElem hlt, e2] at hk
    simp at hk
    subst hk
    rw [World.var?_cell hg0 hv0 i]
    have := congrArg (fun l => l[0]?) e1
    simpa using this
  have a0 := key 0 2 (by decide) rfl
  exact ⟨World.block_lt_of_cell? _ _ a0, a0, key 1 2 (by decide) rfl, key 2 3 (by decide) rfl, key 3 1 (by decide) rfl, key 4 1 (by decide) rfl, key 5 3 (by decide) rfl, key 6 12 (by decide) rfl⟩
theorem field_int {H : Type} {enc : TypeId × Value → H} {P : Program} {w : World} {base : Nat} {spare : Nat → Bool} {held : Bool} {n : Nat} {fs : Array Field} {cs : List Value} {xs : List (DataW H × List MemPlace)}
    (hone : oneCellFields P fs = true) (hlen : xs.length = fs.size)
    (hf : ∀ (i : Nat) (f : Field), fs[i]? = some f → DataW.trod enc P w base spare held n f.type ((cs.drop f.offset).take (P.cellsOf f.type)) = xs[i]?)
    (i : Nat) (f : Field) (hi : fs[i]? = some f) (ht : P.underlying f.type = some (.int .i64)) : ∃ k, cs[i]? = some (.int .i64 k) := by
  obtain ⟨o, c1⟩ := hone_of hone i f hi
  have hlt : i < xs.length := by rw [hlen]; exact (Array.getElem?_eq_some_iff.1 hi).1
  have h := hf i f hi
  rw [o, c1, List.getElem?_eq_getElem hlt] at h
  obtain ⟨k, e, _, _⟩ := DataW.trod_int ht h
  refine ⟨k, ?_⟩
  have := congrArg (fun l => l[0]?) e
  simpa using this

end Go.Proofs.YtoablodmodnamaaDoor
