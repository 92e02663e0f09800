/-
  Roots, and two numbers, by value, opened: the value written out; a slice of numbers that came in.
-/
import Derived.Test.YtmpmpdipbffcdaaCalls0
import Derived.Lib.SmallJoins
import Derived.Carry
import Derived.ChangeOld
namespace Go.Proofs.Ytmpmpdipbffcdaa
open Go.ChangeShapes Go.WideShapes Go.ChangeAt Go.RowKit Go.Joins Go.Deep

theorem own : ownKnob Try.prog.godebug = none := by kernel_rfl
theorem laidOut : laidOutB Try.prog = true := by kernel_rfl

/-- numbers in an array: each cell is one -/
theorem array_ints {H : Type} {enc : TypeId × Value → H} {w : World} {base : Nat} {spare : Nat → Bool} {held : Bool} {fuel : Nat} {t : TypeId} {n : Nat} {cs : List Value} {x : DataW H × List MemPlace}
    (ht : Try.prog.underlying t = some (.array n 3)) (h : DataW.trod enc Try.prog w base spare held fuel t cs = some x) (i : Nat) (hi : i < n) : ∃ k, cs[i]? = some (.int .i64 k) := by
  obtain ⟨xs, m, _, _, _, hlen, hel⟩ := DataW.trod_array ht h
  have h0 := hel i hi
  rw [List.getElem?_eq_getElem (by omega : i < xs.length), cellsInt, Nat.mul_one] at h0
  obtain ⟨k, e, _, _⟩ := DataW.trod_int Try.underlying3 h0
  refine ⟨k, ?_⟩
  have := congrArg (fun l => l[0]?) e
  simpa using this

theorem array9 {α : Type} {cs : Array α} (h : cs.size = 9) : ∃ c0 c1 c2 c3 c4 c5 c6 c7 c8, cs = #[c0, c1, c2, c3, c4, c5, c6, c7, c8] := by
  obtain ⟨l⟩ := cs
  match l, h with
  | [c0, c1, c2, c3, c4, c5, c6, c7, c8], _ => exact ⟨c0, c1, c2, c3, c4, c5, c6, c7, c8, rfl⟩
theorem array2 {α : Type} {cs : Array α} (h : cs.size = 2) : ∃ c0 c1, cs = #[c0, c1] := by
  obtain ⟨l⟩ := cs
  match l, h with
  | [c0, c1], _ => exact ⟨c0, c1, rfl⟩

/-- roots by value, opened -/
theorem open_roots {H : Type} {enc : TypeId × Value → H} {w : World} {base : Nat} {spare : Nat → Bool} {held : Bool} {r : Reach} {b0 : Nat} {v : Value} {d : DataW H} {p : List MemPlace}
    (hv : Value.okWide Try.prog w r b0 24 v) (h : DataW.Trod enc Try.prog w base spare held 24 v d p) :
    ∃ (n : Int) (l : Nat → Int), v = rv n l := by
  obtain ⟨cs, rfl, hsz⟩ := okWide_struct Try.underlying24 hv
  obtain ⟨c0, c1, c2, c3, c4, c5, c6, c7, c8, rfl⟩ := array9 (hsz.trans (by kernel_rfl))
  obtain ⟨fuel, hf⟩ := h
  obtain ⟨y0, y1, n, _, _, h0, h1⟩ := trod_struct2 Try.underlying24 hf
  have e8 : Try.prog.cellsOf 22 = 8 := by kernel_rfl
  simp only [cellsInt, e8] at h0 h1
  obtain ⟨k, e, _, _⟩ := DataW.trod_int Try.underlying3 h0
  have go := fun i hi => array_ints Try.underlying22 h1 i hi
  obtain ⟨k0, g0⟩ := go 0 (by decide)
  obtain ⟨k1, g1⟩ := go 1 (by decide)
  obtain ⟨k2, g2⟩ := go 2 (by decide)
  obtain ⟨k3, g3⟩ := go 3 (by decide)
  obtain ⟨k4, g4⟩ := go 4 (by decide)
  obtain ⟨k5, g5⟩ := go 5 (by decide)
  obtain ⟨k6, g6⟩ := go 6 (by decide)
  obtain ⟨k7, g7⟩ := go 7 (by decide)
  simp [Value.cells] at e g0 g1 g2 g3 g4 g5 g6 g7
  subst e g0 g1 g2 g3 g4 g5 g6 g7
  exact ⟨k, fun j => [k0, k1, k2, k3, k4, k5, k6, k7].getD j 0, rfl⟩

theorem okWide_arr {w : World} {r : Reach} {b0 n : Nat} {t e : TypeId} {v : Value} (ht : Try.prog.underlying t = some (.array n e)) (h : Value.okWide Try.prog w r b0 t v) : ∃ cs, v = .agg cs ∧ cs.size = Try.prog.cellsOf t := by
  simp only [Value.okWide, ht] at h
  obtain ⟨cs, h1, h2, _⟩ := h
  exact ⟨cs, h1, h2⟩
/-- two numbers by value, opened -/
theorem open_two {H : Type} {enc : TypeId × Value → H} {w : World} {base : Nat} {spare : Nat → Bool} {held : Bool} {r : Reach} {b0 : Nat} {v : Value} {d : DataW H} {p : List MemPlace}
    (hv : Value.okWide Try.prog w r b0 25 v) (h : DataW.Trod enc Try.prog w base spare held 25 v d p) :
    ∃ x y : Int, v = .agg #[.int .i64 x, .int .i64 y] := by
  obtain ⟨cs, rfl, hsz⟩ := okWide_arr Try.underlying25 hv
  obtain ⟨c0, c1, rfl⟩ := array2 (hsz.trans (by kernel_rfl))
  obtain ⟨fuel, hf⟩ := h
  have go := fun i hi => array_ints Try.underlying25 hf i hi
  obtain ⟨k0, g0⟩ := go 0 (by decide)
  obtain ⟨k1, g1⟩ := go 1 (by decide)
  simp [Value.cells] at g0 g1
  subst g0 g1
  exact ⟨_, _, rfl⟩

/-- what a slice of numbers that came in is good for -/
def Came (w : World) (ao : Option Addr) (len : Nat) (z : Nat → Int) : Prop := len = 0 ∨ ∃ b off, ao = some ⟨b, off, none⟩ ∧ b < w.heap.size ∧ ∀ j, j < len → w.cell? ⟨b, off + j, none⟩ = some (.int .i64 (z j))

theorem open_slice {H : Type} {enc : TypeId × Value → H} {w : World} {base : Nat} {held : Bool} {r : Reach} {b0 : Nat} {v : Value} {d : DataW H} {p : List MemPlace}
    (hv : Value.okWide Try.prog w r b0 35 v) (h : DataW.Trod enc Try.prog w base (fun _ => true) held 35 v d p) (lt : ∀ x ∈ p, x.block < w.heap.size) :
    ∃ ao len cap z, v = .slice ao len cap ∧ Came w ao len z := by
  obtain ⟨a0, len, cap, rfl⟩ := okWide_slice Try.underlying35 hv
  obtain ⟨fuel, hf⟩ := h
  rcases open_ints Try.underlying35 Try.underlying3 cellsInt hf with ⟨hcs, hx⟩ | ⟨a, len', cap', zs, hcs, _, hl, hm, hz, hx, hcell, hwz⟩
  · simp [Value.cells] at hcs
    obtain ⟨rfl, rfl, rfl⟩ := hcs
    exact ⟨_, _, _, fun _ => 0, rfl, Or.inl rfl⟩
  · simp [Value.cells] at hcs
    obtain ⟨rfl, rfl, rfl⟩ := hcs
    simp only [Prod.mk.injEq] at hx
    obtain ⟨rfl, rfl⟩ := hx
    simp only [if_true] at hz
    refine ⟨_, _, _, fun j => zs.getD j 0, rfl, ?_⟩
    by_cases hl0 : len = 0
    · exact Or.inl hl0
    · obtain ⟨b, off, spot⟩ := a
      have hspot : spot = none := by simpa [Addr.add] using World.cell?_spot (hcell 0 (by omega))
      subst hspot
      exact Or.inr ⟨b, off, rfl, lt (.cell b off) (MemPlace.mem_row.2 ⟨0, by omega, by simp⟩), fun j hj => by rw [← add_plain]; exact hcell j (by omega)⟩
end Go.Proofs.Ytmpmpdipbffcdaa
