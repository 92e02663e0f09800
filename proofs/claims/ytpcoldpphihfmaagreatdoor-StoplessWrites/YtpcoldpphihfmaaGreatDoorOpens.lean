/-
  What the laid tables give the walks.
-/
import Derived.Test.YtpcoldpphihfmaaGreatDoorVx
import Derived.Test.YtpcoldpphihfmaaGreatDoorTie
import Derived.Lib.SmallJoins
import Derived.LaidMore
import Derived.Carry
import Derived.ChangeOld
namespace Go.Proofs.YtpcoldpphihfmaaGreatDoor
set_option maxRecDepth 100000
open Go.ChangeShapes Go.WideShapes Go.ChangeAt Go.RowKit Go.Joins Go.Deep

theorem own : ownKnob Tryz.prog.godebug = none := by kernel_rfl
theorem laidOut : laidOutB Tryz.prog = true := by kernel_rfl

theorem gWidths : Tryz.prog.globalNamed "flit/head.widths" = some 1 := by kernel_rfl
theorem tWidths : (Tryz.prog.globals[1]?).map (·.type) = some 152 := by kernel_rfl
theorem gTable : Tryz.prog.globalNamed "flit/stopless.behindStatus" = some 0 := by kernel_rfl
theorem tTable : (Tryz.prog.globals[0]?).map (·.type) = some 156 := by kernel_rfl

/-- both tables lie where they were laid -/
def Laid (w : World) : Prop := H.Wid w ∧ Bh w
/-- the heap that the door's own run leaves meets the condition -/
theorem door_met (os : Os) (args : Array Value) : laidMetH Tryz.prog [("flit/head.widths", Rows.laid_flit_head_widths), ("flit/stopless.behindStatus", Rows.laid_flit_stopless_behindStatus)] ((World.doorLaid Tryz.prog 14 os).forCall (fun _ _ => 0) ⟨#[], args, []⟩).memory :=
  laidMetH_of_parts3 (fuel := 8) (laidMet_of_run' 8 (by kernel_rfl) (by kernel_rfl)) (by kernel_rfl) (by kernel_rfl)

/-- what the condition gives the walks: the tables' cells -/
theorem of_laid {W : World} (h : laidMetH Tryz.prog [("flit/head.widths", Rows.laid_flit_head_widths), ("flit/stopless.behindStatus", Rows.laid_flit_stopless_behindStatus)] W) : Laid W := by
  rw [MakeChecks.laidMetH_plain _ _ _ (by kernel_rfl)] at h
  obtain ⟨ps, ⟨g0, t0, cs0, f0, p0, q0, hg0, ht0, hv0, hd0, ⟨g1, t1, cs1, f1, p1, q1, hg1, ht1, hv1, hd1, _, _⟩, _⟩, _, _⟩ := h
  obtain rfl := Option.some.inj (gWidths.symm.trans hg0)
  obtain rfl := Option.some.inj (tWidths.symm.trans ht0)
  obtain rfl := Option.some.inj (gTable.symm.trans hg1)
  obtain rfl := Option.some.inj (tTable.symm.trans ht1)
  obtain ⟨xs0, m0, rfl, hx10, hlen0, hn30, hel0⟩ := DataW.trod_array Tryz.underlying152 hd0
  obtain ⟨xs1, m1, rfl, hx11, hlen1, hn31, hel1⟩ := DataW.trod_array Tryz.underlying156 hd1
  have c3 : Tryz.prog.cellsOf 3 = 1 := by kernel_rfl
  have c4 : Tryz.prog.cellsOf 103 = 1 := by kernel_rfl
  simp only [Prod.mk.injEq, Rows.laid_flit_head_widths, DataW.agg.injEq] at hx10
  simp only [Prod.mk.injEq, Rows.laid_flit_stopless_behindStatus, DataW.agg.injEq] at hx11
  have key0 : ∀ (i : Nat) (k : Int), i < 7 → ([.lit (.int .i64 2), .lit (.int .i64 2), .lit (.int .i64 3), .lit (.int .i64 1), .lit (.int .i64 1), .lit (.int .i64 3), .lit (.int .i64 12)] : List (DataW Unit))[i]? = some (.lit (.int .i64 k)) → W.cell? ⟨1, i, none⟩ = some (.int .i64 k) := by
    intro i k hi hk
    have h0 := hel0 i hi
    have hlt : i < xs0.length := by omega
    rw [List.getElem?_eq_getElem hlt, c3, Nat.mul_one] at h0
    obtain ⟨k', e1, e2, _⟩ := DataW.trod_int Tryz.underlying3 h0
    rw [hx10.1, List.getElem?_map, List.getElem?_eq_getElem hlt, e2] at hk
    simp at hk
    subst hk
    rw [World.var?_cell hg0 hv0 i]
    have := congrArg (fun l => l[0]?) e1
    simpa using this
  have key1 : ∀ (i : Nat) (k : Int), i < 4 → ([.lit (.int .i64 3), .lit (.int .i64 6), .lit (.int .i64 8), .lit (.int .i64 11)] : List (DataW Unit))[i]? = some (.lit (.int .i64 k)) → W.cell? ⟨0, i, none⟩ = some (.int .i64 k) := by
    intro i k hi hk
    have h0 := hel1 i hi
    have hlt : i < xs1.length := by omega
    rw [List.getElem?_eq_getElem hlt, c4, Nat.mul_one] at h0
    obtain ⟨k', e1, e2, _⟩ := DataW.trod_int Tryz.underlying103 h0
    rw [hx11.1, List.getElem?_map, List.getElem?_eq_getElem hlt, e2] at hk
    simp at hk
    subst hk
    rw [World.var?_cell hg1 hv1 i]
    have := congrArg (fun l => l[0]?) e1
    simpa using this
  have a0 := key0 0 2 (by decide) rfl
  have a1 := key1 0 3 (by decide) rfl
  exact ⟨⟨World.block_lt_of_cell? _ _ a0, a0, key0 1 2 (by decide) rfl, key0 2 3 (by decide) rfl, key0 3 1 (by decide) rfl, key0 4 1 (by decide) rfl, key0 5 3 (by decide) rfl, key0 6 12 (by decide) rfl⟩,
    ⟨World.block_lt_of_cell? _ _ a1, a1, key1 1 6 (by decide) rfl, key1 2 8 (by decide) rfl, key1 3 11 (by decide) rfl⟩⟩
theorem field_int {H : Type} {enc : TypeId × Value → H} {P : Program} {w : World} {base : Nat} {spare : Nat → Bool} {held : Bool} {n : Nat} {fs : Array Field} {cs : List Value} {xs : List (DataW H × List MemPlace)}
    (hone : oneCellFields P fs = true) (hlen : xs.length = fs.size)
    (hf : ∀ (i : Nat) (f : Field), fs[i]? = some f → DataW.trod enc P w base spare held n f.type ((cs.drop f.offset).take (P.cellsOf f.type)) = xs[i]?)
    (i : Nat) (f : Field) (hi : fs[i]? = some f) (ht : P.underlying f.type = some (.int .i64)) : ∃ k, cs[i]? = some (.int .i64 k) := by
  obtain ⟨o, c1⟩ := hone_of hone i f hi
  have hlt : i < xs.length := by rw [hlen]; exact (Array.getElem?_eq_some_iff.1 hi).1
  have h := hf i f hi
  rw [o, c1, List.getElem?_eq_getElem hlt] at h
  obtain ⟨k, e, _, _⟩ := DataW.trod_int ht h
  refine ⟨k, ?_⟩
  have := congrArg (fun l => l[0]?) e
  simpa using this

end Go.Proofs.YtpcoldpphihfmaaGreatDoor
