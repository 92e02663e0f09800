/-
  What came in, opened: how things stand at the beginning.
-/
import Derived.Test.YtoablodmodnamaaDoorOi
import Derived.Lib.SmallJoins
import Derived.Carry
import Derived.ChangeOld
import Derived.Deep.Slices
import Derived.ProofKit
namespace Go.Proofs.YtoablodmodnamaaDoor
set_option linter.unusedVariables false
set_option linter.unusedSimpArgs false
set_option maxRecDepth 100000
open Go.ChangeShapes Go.WideShapes Go.ChangeAt Go.RowKit Go.Joins Go.Deep

section
variable {H : Type} {enc : TypeId × Value → H} {w : World} {base : Nat} {spare : Nat → Bool} {held : Bool} {r : Reach} {b0 : Nat} {v : Value} {d : DataW H} {p : List MemPlace}
theorem cell_int {n o : Nat} {cs : List Value} {y : DataW H × List MemPlace} (h : DataW.trod enc Tryd.prog w base spare held n 3 ((cs.drop o).take 1) = some y) : ∃ k, cs[o]? = some (.int .i64 k) ∧ -9223372036854775808 ≤ k ∧ k ≤ 9223372036854775807 := by
  obtain ⟨k, e, _, wf⟩ := DataW.trod_int Tryd.underlying3 h
  refine ⟨k, ?_, (bounds_i64 wf).1, (bounds_i64 wf).2⟩
  have := congrArg (fun l => l[0]?) e
  simpa using this
theorem ints_cell {n : Nat} {c : Value} {x : DataW H × List MemPlace} (hf : DataW.trod enc Tryd.prog w base (fun _ => true) held n 22 [c] = some x) : ∃ ao len cap z, c = .slice ao len cap ∧ CameI w ao len z := by
  rcases open_ints Tryd.underlying22 Tryd.underlying3 cells1 hf with ⟨hcs, hx⟩ | ⟨a, len, cap, zs, hcs, _, hl, hm, hz, hx, hcell, hwz⟩
  · simp at hcs
    exact ⟨_, _, _, fun _ => 0, hcs, Or.inl rfl⟩
  · simp at hcs
    simp only [if_true] at hz
    refine ⟨_, _, _, fun j => zs.getD j 0, hcs, ?_⟩
    by_cases hl0 : len = 0
    · exact Or.inl hl0
    · obtain ⟨b, off, spot⟩ := a
      have hspot : spot = none := by simpa [Addr.add] using World.cell?_spot (hcell 0 (by omega))
      subst hspot
      have c0 := hcell 0 (by omega)
      refine Or.inr ⟨b, off, rfl, World.block_lt_of_cell? _ _ c0, fun j hj => ⟨by rw [← add_plain]; exact hcell j (by omega), ?_⟩⟩
      have hj' : j < zs.length := by omega
      have := hwz (zs.getD j 0) (by rw [List.getD_eq_getElem?_getD, List.getElem?_eq_getElem hj']; exact List.getElem_mem _)
      exact bounds_i64 this
theorem cellsI : Tryd.prog.cellsOf 22 = 1 := by kernel_rfl
theorem cellsR : Tryd.prog.cellsOf 23 = 3 := by kernel_rfl
/-- the tags, three lists of roots, the sentinel -/
theorem open_begin (hv : Value.okWide Tryd.prog w r b0 25 v) (h : DataW.Trod enc Tryd.prog w base (fun _ => true) held 25 v d p) (lt : ∀ x ∈ p, x.block < w.heap.size) :
    ∃ (ao : Option Addr) (len cap : Nat) (z : Nat → Int) (ar : Nat → Option Addr) (lr cr : Nat → Nat) (zr : Nat → Nat → Int) (a : Int), v = .agg #[.slice ao len cap, .slice (ar 0) (lr 0) (cr 0), .slice (ar 1) (lr 1) (cr 1), .slice (ar 2) (lr 2) (cr 2), .int .i64 a] ∧ (-9223372036854775808 ≤ a ∧ a ≤ 9223372036854775807) ∧ CameI w ao len z ∧ ∀ k, k < 3 → CameI w (ar k) (lr k) (zr k) := by
  obtain ⟨cs, rfl, hsz⟩ := okWide_struct Tryd.underlying25 hv
  have hs2 : cs.size = 5 := hsz.trans (by kernel_rfl)
  obtain ⟨l⟩ := cs
  match l, hs2 with
  | [c0, c1, c2, c3, c4], _ =>
    obtain ⟨fuel, hf⟩ := h
    obtain ⟨xs, m, _, _, _, hlen, hall⟩ := DataW.trod_struct Tryd.underlying25 hf
    have h0 : DataW.trod enc Tryd.prog w base (fun _ => true) held m 22 (((Value.agg #[c0, c1, c2, c3, c4]).cells.toList.drop 0).take (Tryd.prog.cellsOf 22)) = xs[0]? := hall 0 _ rfl
    have h1 : DataW.trod enc Tryd.prog w base (fun _ => true) held m 23 (((Value.agg #[c0, c1, c2, c3, c4]).cells.toList.drop 1).take (Tryd.prog.cellsOf 23)) = xs[1]? := hall 1 _ rfl
    have h2 : DataW.trod enc Tryd.prog w base (fun _ => true) held m 3 (((Value.agg #[c0, c1, c2, c3, c4]).cells.toList.drop 4).take (Tryd.prog.cellsOf 3)) = xs[2]? := hall 2 _ rfl
    have hl : xs.length = 3 := hlen
    simp only [cells1, cellsI, cellsR] at h0 h1 h2
    rw [List.getElem?_eq_getElem (by omega : 0 < xs.length)] at h0
    rw [List.getElem?_eq_getElem (by omega : 1 < xs.length)] at h1
    rw [List.getElem?_eq_getElem (by omega : 2 < xs.length)] at h2
    obtain ⟨k4, e4, b4⟩ := cell_int (o := 4) h2
    obtain ⟨a, n, c, z, rfl, hz⟩ := ints_cell (c := c0) (by simpa [Value.cells] using h0)
    obtain ⟨y0, y1, y2, m', _, g0, g1, g2⟩ := trod_array3 (c0 := c1) (c1 := c2) (c2 := c3) Tryd.underlying23 cellsI (by simpa [Value.cells] using h1)
    obtain ⟨a0, n0, d0, z0, rfl, w0⟩ := ints_cell g0
    obtain ⟨a1, n1, d1, z1, rfl, w1⟩ := ints_cell g1
    obtain ⟨a2, n2, d2, z2, rfl, w2⟩ := ints_cell g2
    simp [Value.cells] at e4
    subst e4
    refine ⟨a, n, c, z, fun k => if k = 0 then a0 else if k = 1 then a1 else a2, fun k => if k = 0 then n0 else if k = 1 then n1 else n2, fun k => if k = 0 then d0 else if k = 1 then d1 else d2, fun k => if k = 0 then z0 else if k = 1 then z1 else z2, k4, rfl, b4, hz, fun k hk => ?_⟩
    obtain rfl | rfl | rfl : k = 0 ∨ k = 1 ∨ k = 2 := by omega
    · exact w0
    · exact w1
    · exact w2
end
end Go.Proofs.YtoablodmodnamaaDoor
