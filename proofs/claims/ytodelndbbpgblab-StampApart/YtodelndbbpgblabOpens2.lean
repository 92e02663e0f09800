/-
  The numbers of two heads by value, opened.
-/
import Derived.Test.YtodelndbbpgblabOpens
namespace Go.Proofs.Ytodelndbbpgblab
open Go.ChangeShapes Go.WideShapes Go.ChangeAt Go.RowKit Go.Joins Go.Deep

/-- an array of two integers by value -/
theorem array_int {H : Type} {enc : TypeId × Value → H} {P : Program} {w : World} {base : Nat} {spare : Nat → Bool} {held : Bool} {n : Nat} {t e : TypeId} {a b : Value} {x : DataW H × List MemPlace}
    (ht : P.underlying t = some (.array 2 e)) (he : P.underlying e = some (.int .i64)) (hc : P.cellsOf e = 1) (h : DataW.trod enc P w base spare held n t [a, b] = some x) :
    ∃ k l : Int, a = .int .i64 k ∧ b = .int .i64 l := by
  obtain ⟨xs, m, _, _, _, hlen, hel⟩ := DataW.trod_array ht h
  have h0 := hel 0 (by decide)
  have h1 := hel 1 (by decide)
  rw [hc, List.getElem?_eq_getElem (by omega)] at h0 h1
  obtain ⟨k, e0, _, _⟩ := DataW.trod_int he h0
  obtain ⟨l, e1, _, _⟩ := DataW.trod_int he h1
  simp at e0 e1
  exact ⟨k, l, e0, e1⟩

/-- the numbers of two heads by value, opened: two arrays of two -/
theorem open_two {H : Type} {enc : TypeId × Value → H} {w : World} {base : Nat} {spare : Nat → Bool} {held : Bool} {r : Reach} {b0 : Nat} {v : Value} {d : DataW H} {p : List MemPlace}
    (hv : Value.okWide Try.prog w r b0 24 v) (h : DataW.Trod enc Try.prog w base spare held 24 v d p) :
    ∃ x y z u : Int, v = .agg #[.int .i64 x, .int .i64 y, .int .i64 z, .int .i64 u] := by
  obtain ⟨cs, rfl, hsz⟩ := okWide_struct Try.underlying24 hv
  obtain ⟨c0, c1, c2, c3, rfl⟩ := array4 (hsz.trans (by kernel_rfl))
  obtain ⟨fuel, hf⟩ := h
  obtain ⟨xs, n, _, _, _, hlen, hall⟩ := DataW.trod_struct Try.underlying24 hf
  have cA : Try.prog.cellsOf 22 = 2 := by kernel_rfl
  have hl : xs.length = 2 := hlen
  have h0 : DataW.trod enc Try.prog w base spare held n 22 (List.take (Try.prog.cellsOf 22) (List.drop 0 (Value.agg #[c0, c1, c2, c3]).cells.toList)) = xs[0]? := hall 0 _ rfl
  have h1 : DataW.trod enc Try.prog w base spare held n 22 (List.take (Try.prog.cellsOf 22) (List.drop 2 (Value.agg #[c0, c1, c2, c3]).cells.toList)) = xs[1]? := hall 1 _ rfl
  rw [cA, List.getElem?_eq_getElem (by omega)] at h0 h1
  obtain ⟨x, y, rfl, rfl⟩ := array_int Try.underlying22 Try.underlying3 (by kernel_rfl) (by simpa [Value.cells] using h0)
  obtain ⟨z, u, rfl, rfl⟩ := array_int Try.underlying22 Try.underlying3 (by kernel_rfl) (by simpa [Value.cells] using h1)
  exact ⟨_, _, _, _, rfl⟩
end Go.Proofs.Ytodelndbbpgblab
