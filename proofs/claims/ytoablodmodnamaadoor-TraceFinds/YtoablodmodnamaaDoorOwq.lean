/-
  What came in, opened: a world.
-/
import Derived.Test.YtoablodmodnamaaDoorOiq
import Derived.Lib.SmallJoins
import Derived.Carry
import Derived.ChangeOld
import Derived.Deep.Slices
import Derived.ProofKit
namespace Go.Proofs.YtoablodmodnamaaDoor
set_option linter.unusedVariables false
set_option linter.unusedSimpArgs false
set_option maxRecDepth 100000
open Go.ChangeShapes Go.WideShapes Go.ChangeAt Go.RowKit Go.Joins Go.Deep

section
variable {H : Type} {enc : TypeId × Value → H} {w : World} {base : Nat} {spare : Nat → Bool} {held : Bool} {r : Reach} {b0 : Nat} {v : Value} {d : DataW H} {p : List MemPlace}
theorem cell_int {n o : Nat} {cs : List Value} {y : DataW H × List MemPlace} (h : DataW.trod enc Tryd.prog w base spare held n 3 ((cs.drop o).take 1) = some y) : ∃ k, cs[o]? = some (.int .i64 k) ∧ -9223372036854775808 ≤ k ∧ k ≤ 9223372036854775807 := by
  obtain ⟨k, e, _, wf⟩ := DataW.trod_int Tryd.underlying3 h
  refine ⟨k, ?_, (bounds_i64 wf).1, (bounds_i64 wf).2⟩
  have := congrArg (fun l => l[0]?) e
  simpa using this
theorem ints_cell {n : Nat} {c : Value} {x : DataW H × List MemPlace} (hf : DataW.trod enc Tryd.prog w base (fun _ => true) held n 22 [c] = some x) : ∃ ao len cap z, c = .slice ao len cap ∧ CameI w ao len z := by
  rcases open_ints Tryd.underlying22 Tryd.underlying3 cells1 hf with ⟨hcs, hx⟩ | ⟨a, len, cap, zs, hcs, _, hl, hm, hz, hx, hcell, hwz⟩
  · simp at hcs
    exact ⟨_, _, _, fun _ => 0, hcs, Or.inl rfl⟩
  · simp at hcs
    simp only [if_true] at hz
    refine ⟨_, _, _, fun j => zs.getD j 0, hcs, ?_⟩
    by_cases hl0 : len = 0
    · exact Or.inl hl0
    · obtain ⟨b, off, spot⟩ := a
      have hspot : spot = none := by simpa [Addr.add] using World.cell?_spot (hcell 0 (by omega))
      subst hspot
      have c0 := hcell 0 (by omega)
      refine Or.inr ⟨b, off, rfl, World.block_lt_of_cell? _ _ c0, fun j hj => ⟨by rw [← add_plain]; exact hcell j (by omega), ?_⟩⟩
      have hj' : j < zs.length := by omega
      have := hwz (zs.getD j 0) (by rw [List.getD_eq_getElem?_getD, List.getElem?_eq_getElem hj']; exact List.getElem_mem _)
      exact bounds_i64 this
theorem cellsI : Tryd.prog.cellsOf 22 = 1 := by kernel_rfl
/-- the blocks, three lists of numbers -/
theorem open_world (hv : Value.okWide Tryd.prog w r b0 66 v) (h : DataW.Trod enc Tryd.prog w base (fun _ => true) held 66 v d p) (lt : ∀ x ∈ p, x.block < w.heap.size) :
    ∃ (x : Int) (ac : Option Addr) (lc cc : Nat) (zc : Nat → Int) (am : Option Addr) (lm cm : Nat) (af : Option Addr) (lf cf : Nat) (zf : Nat → Int), v = .agg #[.int .i64 x, .slice ac lc cc, .slice am lm cm, .slice af lf cf] ∧ (-9223372036854775808 ≤ x ∧ x ≤ 9223372036854775807) ∧ CameI w ac lc zc ∧ CameI w af lf zf := by
  obtain ⟨cs, rfl, hsz⟩ := okWide_struct Tryd.underlying66 hv
  have hs2 : cs.size = 4 := hsz.trans (by kernel_rfl)
  obtain ⟨l⟩ := cs
  match l, hs2 with
  | [c0, c1, c2, c3], _ =>
    obtain ⟨fuel, hf⟩ := h
    obtain ⟨xs, m, _, _, _, hlen, hall⟩ := DataW.trod_struct Tryd.underlying66 hf
    have h0 : DataW.trod enc Tryd.prog w base (fun _ => true) held m 3 (((Value.agg #[c0, c1, c2, c3]).cells.toList.drop 0).take (Tryd.prog.cellsOf 3)) = xs[0]? := hall 0 _ rfl
    have h1 : DataW.trod enc Tryd.prog w base (fun _ => true) held m 22 (((Value.agg #[c0, c1, c2, c3]).cells.toList.drop 1).take (Tryd.prog.cellsOf 22)) = xs[1]? := hall 1 _ rfl
    have h2 : DataW.trod enc Tryd.prog w base (fun _ => true) held m 22 (((Value.agg #[c0, c1, c2, c3]).cells.toList.drop 2).take (Tryd.prog.cellsOf 22)) = xs[2]? := hall 2 _ rfl
    have h3 : DataW.trod enc Tryd.prog w base (fun _ => true) held m 22 (((Value.agg #[c0, c1, c2, c3]).cells.toList.drop 3).take (Tryd.prog.cellsOf 22)) = xs[3]? := hall 3 _ rfl
    have hl : xs.length = 4 := hlen
    simp only [cells1, cellsI] at h0 h1 h2 h3
    rw [List.getElem?_eq_getElem (by omega : 0 < xs.length)] at h0
    rw [List.getElem?_eq_getElem (by omega : 1 < xs.length)] at h1
    rw [List.getElem?_eq_getElem (by omega : 2 < xs.length)] at h2
    rw [List.getElem?_eq_getElem (by omega : 3 < xs.length)] at h3
    obtain ⟨k0, e0, b0⟩ := cell_int (o := 0) h0
    obtain ⟨a1, n1, d1, z1, rfl, w1⟩ := ints_cell (c := c1) (by simpa [Value.cells] using h1)
    obtain ⟨a2, n2, d2, z2, rfl, w2⟩ := ints_cell (c := c2) (by simpa [Value.cells] using h2)
    obtain ⟨a3, n3, d3, z3, rfl, w3⟩ := ints_cell (c := c3) (by simpa [Value.cells] using h3)
    simp [Value.cells] at e0
    subst e0
    exact ⟨k0, a1, n1, d1, z1, a2, n2, d2, a3, n3, d3, z3, rfl, b0, w1, w3⟩
end
end Go.Proofs.YtoablodmodnamaaDoor
