/-
  A list of numbers that came in, opened: and how long its datum is.
-/
import Derived.Test.YtikjigbjednbcaaDoorOi
import Derived.SizedLaws
namespace Go.Proofs.YtikjigbjednbcaaDoor
set_option linter.unusedVariables false
open Go.ChangeShapes Go.WideShapes Go.ChangeAt Go.RowKit Go.Joins Go.Deep

set_option maxRecDepth 100000 in
theorem open_slice3 {H : Type} {enc : TypeId × Value → H} {w : World} {base : Nat} {held : Bool} {r : Reach} {b0 : Nat} {v : Value} {d : DataW H} {p : List MemPlace}
    (hv : Value.okWide Tryd.prog w r b0 22 v) (h : DataW.Trod enc Tryd.prog w base (fun _ => true) held 22 v d p) (lt : ∀ x ∈ p, x.block < w.heap.size) :
    ∃ ao len cap z, v = .slice ao len cap ∧ CameI w ao len z ∧ (len = 0 ∨ ∃ elems spare, d = .slice elems spare ∧ elems.length = len) := by
  obtain ⟨ao, len, cap, z, rfl, hc⟩ := open_slice hv h lt
  refine ⟨ao, len, cap, z, rfl, hc, ?_⟩
  obtain ⟨fuel, hf⟩ := h
  rcases open_ints Tryd.underlying22 Tryd.underlying3 cells1 hf with ⟨hcs, hx⟩ | ⟨a, len', cap', zs, hcs, _, hl, hm, hz, hx, hcell, hwz⟩
  · simp [Value.cells] at hcs
    exact .inl (by omega)
  · simp [Value.cells] at hcs
    obtain ⟨rfl, rfl, rfl⟩ := hcs
    simp only [Prod.mk.injEq] at hx
    obtain ⟨rfl, rfl⟩ := hx
    simp only [if_true] at hz
    right
    refine ⟨_, _, rfl, ?_⟩
    unfold lits
    simp only [List.length_map, List.length_take]
    omega
end Go.Proofs.YtikjigbjednbcaaDoor
