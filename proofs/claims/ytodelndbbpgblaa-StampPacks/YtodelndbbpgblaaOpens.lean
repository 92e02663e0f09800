/-
  Structs of integers by value, opened: the value written out.
-/
import Derived.Test.YtodelndbbpgblaaCalls
import Derived.Lib.SmallJoins
import Derived.Carry
import Derived.ChangeOld
namespace Go.Proofs.Ytodelndbbpgblaa
open Go.ChangeShapes Go.WideShapes Go.ChangeAt Go.RowKit Go.Joins Go.Deep

theorem own : ownKnob Try.prog.godebug = none := by kernel_rfl
theorem laidOut : laidOutB Try.prog = true := by kernel_rfl

/-- one field of a struct of one-cell fields: an integer -/
theorem field_int {H : Type} {enc : TypeId × Value → H} {P : Program} {w : World} {base : Nat} {spare : Nat → Bool} {held : Bool} {n : Nat} {fs : Array Field} {cs : List Value} {xs : List (DataW H × List MemPlace)}
    (hone : oneCellFields P fs = true) (hlen : xs.length = fs.size)
    (hf : ∀ (i : Nat) (f : Field), fs[i]? = some f → DataW.trod enc P w base spare held n f.type ((cs.drop f.offset).take (P.cellsOf f.type)) = xs[i]?)
    (i : Nat) (f : Field) (hi : fs[i]? = some f) (ht : P.underlying f.type = some (.int .i64)) : ∃ k, cs[i]? = some (.int .i64 k) := by
  obtain ⟨o, c1⟩ := hone_of hone i f hi
  have hlt : i < xs.length := by rw [hlen]; exact (Array.getElem?_eq_some_iff.1 hi).1
  have h := hf i f hi
  rw [o, c1, List.getElem?_eq_getElem hlt] at h
  obtain ⟨k, e, _, _⟩ := DataW.trod_int ht h
  refine ⟨k, ?_⟩
  have := congrArg (fun l => l[0]?) e
  simpa using this

theorem array2 {α : Type} {cs : Array α} (h : cs.size = 2) : ∃ c0 c1, cs = #[c0, c1] := by
  obtain ⟨l⟩ := cs
  match l, h with
  | [c0, c1], _ => exact ⟨c0, c1, rfl⟩
theorem array4 {α : Type} {cs : Array α} (h : cs.size = 4) : ∃ c0 c1 c2 c3, cs = #[c0, c1, c2, c3] := by
  obtain ⟨l⟩ := cs
  match l, h with
  | [c0, c1, c2, c3], _ => exact ⟨c0, c1, c2, c3, rfl⟩

/-- a head of a list by value, opened -/
theorem open_top {H : Type} {enc : TypeId × Value → H} {w : World} {base : Nat} {spare : Nat → Bool} {held : Bool} {r : Reach} {b0 : Nat} {v : Value} {d : DataW H} {p : List MemPlace}
    (hv : Value.okWide Try.prog w r b0 23 v) (h : DataW.Trod enc Try.prog w base spare held 23 v d p) :
    ∃ x y : Int, v = .agg #[.int .i64 x, .int .i64 y] := by
  obtain ⟨cs, rfl, hsz⟩ := okWide_struct Try.underlying23 hv
  obtain ⟨c0, c1, rfl⟩ := array2 (hsz.trans (by kernel_rfl))
  obtain ⟨fuel, hf⟩ := h
  obtain ⟨xs, n, _, _, _, hlen, hall⟩ := DataW.trod_struct Try.underlying23 hf
  have go := fun i f hi => field_int (P := Try.prog) (by kernel_rfl) hlen hall i f hi
  obtain ⟨k0, e0⟩ := go 0 _ rfl Try.underlying3
  obtain ⟨k1, e1⟩ := go 1 _ rfl Try.underlying3
  simp [Value.cells] at e0 e1
  subst e0 e1
  exact ⟨_, _, rfl⟩

/-- a phase by value, opened -/
theorem open_phase {H : Type} {enc : TypeId × Value → H} {w : World} {base : Nat} {spare : Nat → Bool} {held : Bool} {r : Reach} {b0 : Nat} {v : Value} {d : DataW H} {p : List MemPlace}
    (hv : Value.okWide Try.prog w r b0 25 v) (h : DataW.Trod enc Try.prog w base spare held 25 v d p) :
    ∃ x y z u : Int, v = .agg #[.int .i64 x, .int .i64 y, .int .i64 z, .int .i64 u] := by
  obtain ⟨cs, rfl, hsz⟩ := okWide_struct Try.underlying25 hv
  obtain ⟨c0, c1, c2, c3, rfl⟩ := array4 (hsz.trans (by kernel_rfl))
  obtain ⟨fuel, hf⟩ := h
  obtain ⟨xs, n, _, _, _, hlen, hall⟩ := DataW.trod_struct Try.underlying25 hf
  have go := fun i f hi => field_int (P := Try.prog) (by kernel_rfl) hlen hall i f hi
  obtain ⟨k0, e0⟩ := go 0 _ rfl Try.underlying3
  obtain ⟨k1, e1⟩ := go 1 _ rfl Try.underlying3
  obtain ⟨k2, e2⟩ := go 2 _ rfl Try.underlying3
  obtain ⟨k3, e3⟩ := go 3 _ rfl Try.underlying3
  simp [Value.cells] at e0 e1 e2 e3
  subst e0 e1 e2 e3
  exact ⟨_, _, _, _, rfl⟩

/-- what the table says of a block, by value, opened -/
theorem open_block {H : Type} {enc : TypeId × Value → H} {w : World} {base : Nat} {spare : Nat → Bool} {held : Bool} {r : Reach} {b0 : Nat} {v : Value} {d : DataW H} {p : List MemPlace}
    (hv : Value.okWide Try.prog w r b0 27 v) (h : DataW.Trod enc Try.prog w base spare held 27 v d p) :
    ∃ x y z u : Int, v = .agg #[.int .i64 x, .int .i64 y, .int .i64 z, .int .i64 u] := by
  obtain ⟨cs, rfl, hsz⟩ := okWide_struct Try.underlying27 hv
  obtain ⟨c0, c1, c2, c3, rfl⟩ := array4 (hsz.trans (by kernel_rfl))
  obtain ⟨fuel, hf⟩ := h
  obtain ⟨xs, n, _, _, _, hlen, hall⟩ := DataW.trod_struct Try.underlying27 hf
  have go := fun i f hi => field_int (P := Try.prog) (by kernel_rfl) hlen hall i f hi
  obtain ⟨k0, e0⟩ := go 0 _ rfl Try.underlying3
  obtain ⟨k1, e1⟩ := go 1 _ rfl Try.underlying3
  obtain ⟨k2, e2⟩ := go 2 _ rfl Try.underlying3
  obtain ⟨k3, e3⟩ := go 3 _ rfl Try.underlying3
  simp [Value.cells] at e0 e1 e2 e3
  subst e0 e1 e2 e3
  exact ⟨_, _, _, _, rfl⟩

end Go.Proofs.Ytodelndbbpgblaa
