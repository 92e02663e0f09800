/-
  A list of calls that came in, and a call by value, opened.
-/
import Derived.Test.YtmidhhigopjkhaaHand
import Derived.Lib.SmallJoins
import Derived.Carry
import Derived.ChangeOld
import Derived.Deep.Slices
import Derived.ProofKit
namespace Go.Proofs.Ytmidhhigopjkhaa
set_option linter.unusedVariables false
open Go.ChangeShapes Go.WideShapes Go.ChangeAt Go.RowKit Go.Joins Go.Deep

theorem own : ownKnob Try.prog.godebug = none := by kernel_rfl
theorem laidOut : laidOutB Try.prog = true := by kernel_rfl

/-- one field of a struct of one-cell fields: an integer -/
theorem field_int {H : Type} {enc : TypeId × Value → H} {P : Program} {w : World} {base : Nat} {spare : Nat → Bool} {held : Bool} {n : Nat} {fs : Array Field} {cs : List Value} {xs : List (DataW H × List MemPlace)}
    (hone : oneCellFields P fs = true) (hlen : xs.length = fs.size)
    (hf : ∀ (i : Nat) (f : Field), fs[i]? = some f → DataW.trod enc P w base spare held n f.type ((cs.drop f.offset).take (P.cellsOf f.type)) = xs[i]?)
    (K : IntKind) (i : Nat) (f : Field) (hi : fs[i]? = some f) (ht : P.underlying f.type = some (.int K)) : ∃ k, cs[i]? = some (.int K k) ∧ (Lit.int K k).wf = true := by
  obtain ⟨o, c1⟩ := hone_of hone i f hi
  have hlt : i < xs.length := by rw [hlen]; exact (Array.getElem?_eq_some_iff.1 hi).1
  have h := hf i f hi
  rw [o, c1, List.getElem?_eq_getElem hlt] at h
  obtain ⟨k, e, _, wf⟩ := DataW.trod_int ht h
  refine ⟨k, ?_, wf⟩
  have := congrArg (fun l => l[0]?) e
  simpa using this

/-- the six cells of a call -/
theorem open_op {H : Type} {enc : TypeId × Value → H} {w : World} {base : Nat} {spare : Nat → Bool} {held : Bool} {n : Nat} {cs : List Value} {x : DataW H × List MemPlace}
    (h : DataW.trod enc Try.prog w base spare held n 33 cs = some x) : ∃ q : Op6, q.Fit ∧ cs[0]? = some (.int .i64 q.k) ∧ cs[1]? = some (.int .i64 q.a) ∧ cs[2]? = some (.int .u64 q.x) ∧ cs[3]? = some (.int .u64 q.x1) ∧ cs[4]? = some (.int .u64 q.y) ∧ cs[5]? = some (.int .u64 q.y1) := by
  obtain ⟨xs, m, _, _, _, hlen, hall⟩ := DataW.trod_struct Try.underlying33 h
  have go := fun K i f hi => field_int (P := Try.prog) (by kernel_rfl) hlen hall K i f hi
  obtain ⟨k0, e0, w0⟩ := go .i64 0 _ rfl Try.underlying3
  obtain ⟨k1, e1, w1⟩ := go .i64 1 _ rfl Try.underlying3
  obtain ⟨k2, e2, _⟩ := go .u64 2 _ rfl Try.underlying31
  obtain ⟨k3, e3, _⟩ := go .u64 3 _ rfl Try.underlying31
  obtain ⟨k4, e4, _⟩ := go .u64 4 _ rfl Try.underlying31
  obtain ⟨k5, e5, _⟩ := go .u64 5 _ rfl Try.underlying31
  exact ⟨⟨k0, k1, k2, k3, k4, k5⟩, ⟨(bounds_i64 w0).1, (bounds_i64 w0).2, (bounds_i64 w1).1, (bounds_i64 w1).2⟩, e0, e1, e2, e3, e4, e5⟩

/-- a call by value, opened -/
theorem open_opv {H : Type} {enc : TypeId × Value → H} {w : World} {base : Nat} {spare : Nat → Bool} {held : Bool} {r : Reach} {b0 : Nat} {v : Value} {d : DataW H} {p : List MemPlace}
    (hv : Value.okWide Try.prog w r b0 33 v) (h : DataW.Trod enc Try.prog w base spare held 33 v d p) :
    ∃ q : Op6, v = .agg #[.int .i64 q.k, .int .i64 q.a, .int .u64 q.x, .int .u64 q.x1, .int .u64 q.y, .int .u64 q.y1] ∧ q.Fit := by
  obtain ⟨cs, rfl, hsz⟩ := okWide_struct Try.underlying33 hv
  obtain ⟨fuel, hf⟩ := h
  obtain ⟨q, hq, e0, e1, e2, e3, e4, e5⟩ := open_op hf
  have hs6 : cs.size = 6 := hsz.trans (by kernel_rfl)
  obtain ⟨l⟩ := cs
  match l, hs6 with
  | [c0, c1, c2, c3, c4, c5], _ =>
    simp [Value.cells] at e0 e1 e2 e3 e4 e5
    subst e0 e1 e2 e3 e4 e5
    exact ⟨q, rfl, hq⟩
/-- what a list of calls that came in is good for -/
def Came (w : World) (ao : Option Addr) (len : Nat) (z : Nat → Op6) : Prop := len = 0 ∨ ∃ b off, ao = some ⟨b, off, none⟩ ∧ Ops w b off len z
instance : Inhabited Op6 := ⟨⟨0, 0, 0, 0, 0, 0⟩⟩

theorem open_ops {H : Type} {enc : TypeId × Value → H} {w : World} {base : Nat} {held : Bool} {r : Reach} {b0 : Nat} {v : Value} {d : DataW H} {p : List MemPlace}
    (hv : Value.okWide Try.prog w r b0 22 v) (h : DataW.Trod enc Try.prog w base (fun _ => true) held 22 v d p) (lt : ∀ x ∈ p, x.block < w.heap.size) :
    ∃ ao len cap z, v = .slice ao len cap ∧ Came w ao len z := by
  obtain ⟨a0, len, cap, rfl⟩ := okWide_slice Try.underlying22 hv
  obtain ⟨fuel, hf⟩ := h
  have c6 : Try.prog.cellsOf 33 = 6 := by kernel_rfl
  rcases Deep.open_slice Try.underlying22 hf with ⟨hcs, hx⟩ | ⟨a, len', cap', m, n, D, Pl, hcs, _, hl, _, hm, hx, hall⟩
  · simp [Value.cells] at hcs
    obtain ⟨rfl, rfl, rfl⟩ := hcs
    exact ⟨_, _, _, fun _ => default, rfl, Or.inl rfl⟩
  · simp [Value.cells] at hcs
    obtain ⟨rfl, rfl, rfl⟩ := hcs
    simp only [Prod.mk.injEq] at hx
    obtain ⟨rfl, rfl⟩ := hx
    rw [c6] at hall lt
    simp only [if_true] at hm
    by_cases hl0 : len = 0
    · exact ⟨_, _, _, fun _ => default, rfl, Or.inl hl0⟩
    have each : ∀ i, i < len → ∃ q : Op6, q.Fit ∧ w.cell? (a.add (i * 6 + 0)) = some (.int .i64 q.k) ∧ w.cell? (a.add (i * 6 + 1)) = some (.int .i64 q.a) ∧ w.cell? (a.add (i * 6 + 2)) = some (.int .u64 q.x) ∧ w.cell? (a.add (i * 6 + 3)) = some (.int .u64 q.x1) ∧ w.cell? (a.add (i * 6 + 4)) = some (.int .u64 q.y) ∧ w.cell? (a.add (i * 6 + 5)) = some (.int .u64 q.y1) := by
      intro i hi
      obtain ⟨cs', h1, h2⟩ := hall i (by omega)
      obtain ⟨q, hq, e0, e1, e2, e3, e4, e5⟩ := open_op h2
      have hc := World.cells?_some h1
      simp only [Deep.add_add] at hc
      refine ⟨q, hq, ?_, ?_, ?_, ?_, ?_, ?_⟩
      · rw [hc.2.2 0 (by decide)]; exact e0
      · rw [hc.2.2 1 (by decide)]; exact e1
      · rw [hc.2.2 2 (by decide)]; exact e2
      · rw [hc.2.2 3 (by decide)]; exact e3
      · rw [hc.2.2 4 (by decide)]; exact e4
      · rw [hc.2.2 5 (by decide)]; exact e5
    obtain ⟨z, hz⟩ := Deep.choose_lt each
    obtain ⟨b, off, spot⟩ := a
    have hspot : spot = none := by simpa [Addr.add] using World.cell?_spot (hz 0 (by omega)).2.1
    subst hspot
    simp only [add_plain] at hz
    refine ⟨_, _, _, z, rfl, Or.inr ⟨b, off, rfl, ⟨lt (.cell b off) (List.mem_append_left _ (MemPlace.mem_row.2 ⟨0, by omega, by simp⟩)), fun j hj => (hz j hj).1, fun j hj => (hz j hj).2.1, fun j hj => ?_, fun j hj => ?_, fun j hj => ?_, fun j hj => ?_, fun j hj => ?_⟩⟩⟩
    · rw [Nat.add_assoc]; exact (hz j hj).2.2.1
    · rw [Nat.add_assoc]; exact (hz j hj).2.2.2.1
    · rw [Nat.add_assoc]; exact (hz j hj).2.2.2.2.1
    · rw [Nat.add_assoc]; exact (hz j hj).2.2.2.2.2.1
    · rw [Nat.add_assoc]; exact (hz j hj).2.2.2.2.2.2
end Go.Proofs.Ytmidhhigopjkhaa
