/-
  A list of numbers that came in, opened: and its length fits.
-/
import Derived.Test.YteclgafdflmioaaDoorOi
namespace Go.Proofs.YteclgafdflmioaaDoor
set_option linter.unusedVariables false
open Go.ChangeShapes Go.WideShapes Go.ChangeAt Go.RowKit Go.Joins Go.Deep

set_option maxRecDepth 100000 in
theorem open_slice2 {H : Type} {enc : TypeId × Value → H} {w : World} {base : Nat} {held : Bool} {r : Reach} {b0 : Nat} {v : Value} {d : DataW H} {p : List MemPlace}
    (hv : Value.okWide Tryd.prog w r b0 22 v) (h : DataW.Trod enc Tryd.prog w base (fun _ => true) held 22 v d p) (lt : ∀ x ∈ p, x.block < w.heap.size) :
    ∃ ao len cap z, v = .slice ao len cap ∧ CameI w ao len z ∧ len ≤ 9223372036854775807 := by
  obtain ⟨ao, len, cap, z, rfl, hc⟩ := open_slice hv h lt
  refine ⟨ao, len, cap, z, rfl, hc, ?_⟩
  obtain ⟨fuel, hf⟩ := h
  rcases open_ints Tryd.underlying22 Tryd.underlying3 cells1 hf with ⟨hcs, hx⟩ | ⟨a, len', cap', zs, hcs, _, hl, hm, _⟩
  · simp [Value.cells] at hcs
    omega
  · simp [Value.cells] at hcs
    unfold maxLen at hm
    omega
end Go.Proofs.YteclgafdflmioaaDoor
