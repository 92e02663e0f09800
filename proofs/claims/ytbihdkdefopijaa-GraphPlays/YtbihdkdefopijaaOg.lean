/-
  What came in, opened: a list of calls, a call by value, a list of numbers, two numbers by value.
-/
import Derived.Test.YtbihdkdefopijaaSw
import Derived.Lib.SmallJoins
import Derived.Carry
import Derived.ChangeOld
import Derived.Deep.Slices
import Derived.ProofKit
namespace Go.Proofs.Ytbihdkdefopijaa
set_option linter.unusedVariables false
set_option linter.unusedSimpArgs false
open Go.ChangeShapes Go.WideShapes Go.ChangeAt Go.RowKit Go.Joins Go.Deep

theorem own : ownKnob Try.prog.godebug = none := by kernel_rfl
theorem laidOut : laidOutB Try.prog = true := by kernel_rfl

/-- a call, as the laws' lists have it -/
structure Op9 where
  k : Int
  t : Int
  i : Int
  f : Int
  n : Int
  a : Int
  b : Int
  c : Int
  d : Int
/-- its numbers fit -/
structure Op9.Fit (z : Op9) : Prop where
  k0 : -9223372036854775808 ≤ z.k
  k1 : z.k ≤ 9223372036854775807
  t0 : -9223372036854775808 ≤ z.t
  t1 : z.t ≤ 9223372036854775807
  i0 : -9223372036854775808 ≤ z.i
  i1 : z.i ≤ 9223372036854775807
  f0 : -9223372036854775808 ≤ z.f
  f1 : z.f ≤ 9223372036854775807
  n0 : -9223372036854775808 ≤ z.n
  n1 : z.n ≤ 9223372036854775807
  a0 : -9223372036854775808 ≤ z.a
  a1 : z.a ≤ 9223372036854775807
  b0 : -9223372036854775808 ≤ z.b
  b1 : z.b ≤ 9223372036854775807
  c0 : -9223372036854775808 ≤ z.c
  c1 : z.c ≤ 9223372036854775807
  d0 : -9223372036854775808 ≤ z.d
  d1 : z.d ≤ 9223372036854775807
/-- a list of calls that came in -/
structure Ops (w : World) (b off len : Nat) (z : Nat → Op9) : Prop where
  lt : b < w.heap.size
  fit : ∀ j, j < len → (z j).Fit
  c0 : ∀ j, j < len → w.cell? ⟨b, off + j * 9, none⟩ = some (.int .i64 (z j).k)
  c1 : ∀ j, j < len → w.cell? ⟨b, off + j * 9 + 1, none⟩ = some (.int .i64 (z j).t)
  c2 : ∀ j, j < len → w.cell? ⟨b, off + j * 9 + 2, none⟩ = some (.int .i64 (z j).i)
  c3 : ∀ j, j < len → w.cell? ⟨b, off + j * 9 + 3, none⟩ = some (.int .i64 (z j).f)
  c4 : ∀ j, j < len → w.cell? ⟨b, off + j * 9 + 4, none⟩ = some (.int .i64 (z j).n)
  c5 : ∀ j, j < len → w.cell? ⟨b, off + j * 9 + 5, none⟩ = some (.int .i64 (z j).a)
  c6 : ∀ j, j < len → w.cell? ⟨b, off + j * 9 + 6, none⟩ = some (.int .i64 (z j).b)
  c7 : ∀ j, j < len → w.cell? ⟨b, off + j * 9 + 7, none⟩ = some (.int .i64 (z j).c)
  c8 : ∀ j, j < len → w.cell? ⟨b, off + j * 9 + 8, none⟩ = some (.int .i64 (z j).d)
theorem Ops.on {w w' : World} {b off len : Nat} {z : Nat → Op9} (h : Ops w b off len z) (k : Below w.heap.size w w') : Ops w' b off len z :=
  ⟨Nat.lt_of_lt_of_le h.lt k.size, h.fit, fun j hj => (k.cell h.lt).trans (h.c0 j hj), fun j hj => (k.cell h.lt).trans (h.c1 j hj), fun j hj => (k.cell h.lt).trans (h.c2 j hj), fun j hj => (k.cell h.lt).trans (h.c3 j hj), fun j hj => (k.cell h.lt).trans (h.c4 j hj), fun j hj => (k.cell h.lt).trans (h.c5 j hj), fun j hj => (k.cell h.lt).trans (h.c6 j hj), fun j hj => (k.cell h.lt).trans (h.c7 j hj), fun j hj => (k.cell h.lt).trans (h.c8 j hj)⟩
def Came (w : World) (ao : Option Addr) (len : Nat) (z : Nat → Op9) : Prop := len = 0 ∨ ∃ b off, ao = some ⟨b, off, none⟩ ∧ Ops w b off len z
theorem Came.on {w w' : World} {ao : Option Addr} {len : Nat} {z : Nat → Op9} (h : Came w ao len z) (k : Below w.heap.size w w') : Came w' ao len z := by
  rcases h with h | ⟨b, off, rfl, h⟩
  · exact .inl h
  · exact .inr ⟨b, off, rfl, h.on k⟩
/-- a call in a block of its own -/
def opv (q : Op9) : Array Value := #[.int .i64 q.k, .int .i64 q.t, .int .i64 q.i, .int .i64 q.f, .int .i64 q.n, .int .i64 q.a, .int .i64 q.b, .int .i64 q.c, .int .i64 q.d]
theorem opv_cells {w : World} {ob : Nat} {q : Op9} {T : TypeId} (h : w.heap[ob]? = some (.cells (opv q) T (0, 0))) : w.cell? ⟨ob, 0, none⟩ = some (.int .i64 q.k) ∧ w.cell? ⟨ob, 1, none⟩ = some (.int .i64 q.t) ∧ w.cell? ⟨ob, 2, none⟩ = some (.int .i64 q.i) ∧ w.cell? ⟨ob, 3, none⟩ = some (.int .i64 q.f) ∧ w.cell? ⟨ob, 4, none⟩ = some (.int .i64 q.n) ∧ w.cell? ⟨ob, 5, none⟩ = some (.int .i64 q.a) ∧ w.cell? ⟨ob, 6, none⟩ = some (.int .i64 q.b) ∧ w.cell? ⟨ob, 7, none⟩ = some (.int .i64 q.c) ∧ w.cell? ⟨ob, 8, none⟩ = some (.int .i64 q.d) := by
  refine ⟨?_, ?_, ?_, ?_, ?_, ?_, ?_, ?_, ?_⟩ <;> (rw [cell_of_row w _ _ _ _ _ h]; rfl)

/-- one cell that is a number -/
theorem cell_int {H : Type} {enc : TypeId × Value → H} {w : World} {base : Nat} {spare : Nat → Bool} {held : Bool} {n o : Nat} {cs : List Value} {y : DataW H × List MemPlace} (h : DataW.trod enc Try.prog w base spare held n 3 ((cs.drop o).take 1) = some y) : ∃ k, cs[o]? = some (.int .i64 k) ∧ -9223372036854775808 ≤ k ∧ k ≤ 9223372036854775807 := by
  obtain ⟨k, e, _, wf⟩ := DataW.trod_int Try.underlying3 h
  refine ⟨k, ?_, (bounds_i64 wf).1, (bounds_i64 wf).2⟩
  have := congrArg (fun l => l[0]?) e
  simpa using this
theorem cells1 : Try.prog.cellsOf 3 = 1 := by kernel_rfl
theorem cells2 : Try.prog.cellsOf 32 = 2 := by kernel_rfl
theorem cells9 : Try.prog.cellsOf 34 = 9 := by kernel_rfl
set_option maxRecDepth 100000 in
theorem part_src {H : Type} {enc : TypeId × Value → H} {w : World} {base : Nat} {spare : Nat → Bool} {held : Bool} {n o : Nat} {cs : List Value} {y : DataW H × List MemPlace} (h : DataW.trod enc Try.prog w base spare held n 32 ((cs.drop o).take 2) = some y) :
    (∃ k, cs[o]? = some (.int .i64 k) ∧ -9223372036854775808 ≤ k ∧ k ≤ 9223372036854775807) ∧ ∃ k, cs[o + 1]? = some (.int .i64 k) ∧ -9223372036854775808 ≤ k ∧ k ≤ 9223372036854775807 := by
  obtain ⟨xs, m, _, _, _, hlen, hall⟩ := DataW.trod_struct Try.underlying32 h
  have h0 : DataW.trod enc Try.prog w base spare held m 3 ((((cs.drop o).take 2).drop 0).take (Try.prog.cellsOf 3)) = xs[0]? := hall 0 _ rfl
  have h1 : DataW.trod enc Try.prog w base spare held m 3 ((((cs.drop o).take 2).drop 1).take (Try.prog.cellsOf 3)) = xs[1]? := hall 1 _ rfl
  have hl : xs.length = 2 := hlen
  simp only [cells1] at h0 h1
  rw [List.getElem?_eq_getElem (by omega : 0 < xs.length)] at h0
  rw [List.getElem?_eq_getElem (by omega : 1 < xs.length)] at h1
  obtain ⟨k0, e0, b0⟩ := cell_int (o := 0) h0
  obtain ⟨k1, e1, b1⟩ := cell_int (o := 1) h1
  exact ⟨⟨k0, by simpa using e0, b0⟩, ⟨k1, by simpa using e1, b1⟩⟩
/-- the nine cells of a call -/
theorem open_op {H : Type} {enc : TypeId × Value → H} {w : World} {base : Nat} {spare : Nat → Bool} {held : Bool} {n : Nat} {cs : List Value} {x : DataW H × List MemPlace}
    (h : DataW.trod enc Try.prog w base spare held n 34 cs = some x) : ∃ q : Op9, q.Fit ∧ cs[0]? = some (.int .i64 q.k) ∧ cs[1]? = some (.int .i64 q.t) ∧ cs[2]? = some (.int .i64 q.i) ∧ cs[3]? = some (.int .i64 q.f) ∧ cs[4]? = some (.int .i64 q.n) ∧ cs[5]? = some (.int .i64 q.a) ∧ cs[6]? = some (.int .i64 q.b) ∧ cs[7]? = some (.int .i64 q.c) ∧ cs[8]? = some (.int .i64 q.d) := by
  obtain ⟨xs, m, _, _, _, hlen, hall⟩ := DataW.trod_struct Try.underlying34 h
  have hl : xs.length = 7 := hlen
  have h0 : DataW.trod enc Try.prog w base spare held m 3 ((cs.drop 0).take (Try.prog.cellsOf 3)) = xs[0]? := hall 0 _ rfl
  have h1 : DataW.trod enc Try.prog w base spare held m 3 ((cs.drop 1).take (Try.prog.cellsOf 3)) = xs[1]? := hall 1 _ rfl
  have h2 : DataW.trod enc Try.prog w base spare held m 3 ((cs.drop 2).take (Try.prog.cellsOf 3)) = xs[2]? := hall 2 _ rfl
  have h3 : DataW.trod enc Try.prog w base spare held m 3 ((cs.drop 3).take (Try.prog.cellsOf 3)) = xs[3]? := hall 3 _ rfl
  have h4 : DataW.trod enc Try.prog w base spare held m 3 ((cs.drop 4).take (Try.prog.cellsOf 3)) = xs[4]? := hall 4 _ rfl
  have h5 : DataW.trod enc Try.prog w base spare held m 32 ((cs.drop 5).take (Try.prog.cellsOf 32)) = xs[5]? := hall 5 _ rfl
  have h6 : DataW.trod enc Try.prog w base spare held m 32 ((cs.drop 7).take (Try.prog.cellsOf 32)) = xs[6]? := hall 6 _ rfl
  simp only [cells1, cells2] at h0 h1 h2 h3 h4 h5 h6
  rw [List.getElem?_eq_getElem (by omega : 0 < xs.length)] at h0
  rw [List.getElem?_eq_getElem (by omega : 1 < xs.length)] at h1
  rw [List.getElem?_eq_getElem (by omega : 2 < xs.length)] at h2
  rw [List.getElem?_eq_getElem (by omega : 3 < xs.length)] at h3
  rw [List.getElem?_eq_getElem (by omega : 4 < xs.length)] at h4
  rw [List.getElem?_eq_getElem (by omega : 5 < xs.length)] at h5
  rw [List.getElem?_eq_getElem (by omega : 6 < xs.length)] at h6
  obtain ⟨k0, e0, b0⟩ := cell_int (o := 0) h0
  obtain ⟨k1, e1, b1⟩ := cell_int (o := 1) h1
  obtain ⟨k2, e2, b2⟩ := cell_int (o := 2) h2
  obtain ⟨k3, e3, b3⟩ := cell_int (o := 3) h3
  obtain ⟨k4, e4, b4⟩ := cell_int (o := 4) h4
  obtain ⟨⟨k5, e5, b5⟩, ⟨k6, e6, b6⟩⟩ := part_src (o := 5) h5
  obtain ⟨⟨k7, e7, b7⟩, ⟨k8, e8, b8⟩⟩ := part_src (o := 7) h6
  exact ⟨⟨k0, k1, k2, k3, k4, k5, k6, k7, k8⟩, ⟨b0.1, b0.2, b1.1, b1.2, b2.1, b2.2, b3.1, b3.2, b4.1, b4.2, b5.1, b5.2, b6.1, b6.2, b7.1, b7.2, b8.1, b8.2⟩, e0, e1, e2, e3, e4, e5, e6, e7, e8⟩
set_option maxRecDepth 100000 in
/-- a call by value, opened -/
theorem open_opv {H : Type} {enc : TypeId × Value → H} {w : World} {base : Nat} {spare : Nat → Bool} {held : Bool} {r : Reach} {b0 : Nat} {v : Value} {d : DataW H} {p : List MemPlace}
    (hv : Value.okWide Try.prog w r b0 34 v) (h : DataW.Trod enc Try.prog w base spare held 34 v d p) :
    ∃ q : Op9, v = .agg (opv q) ∧ q.Fit := by
  obtain ⟨cs, rfl, hsz⟩ := okWide_struct Try.underlying34 hv
  obtain ⟨fuel, hf⟩ := h
  obtain ⟨q, hq, e0, e1, e2, e3, e4, e5, e6, e7, e8⟩ := open_op hf
  have hs9 : cs.size = 9 := hsz.trans (by kernel_rfl)
  obtain ⟨l⟩ := cs
  match l, hs9 with
  | [c0, c1, c2, c3, c4, c5, c6, c7, c8], _ =>
    simp [Value.cells] at e0 e1 e2 e3 e4 e5 e6 e7 e8
    subst e0 e1 e2 e3 e4 e5 e6 e7 e8
    exact ⟨q, rfl, hq⟩
set_option maxRecDepth 100000 in
theorem open_ops {H : Type} {enc : TypeId × Value → H} {w : World} {base : Nat} {held : Bool} {r : Reach} {b0 : Nat} {v : Value} {d : DataW H} {p : List MemPlace}
    (hv : Value.okWide Try.prog w r b0 22 v) (h : DataW.Trod enc Try.prog w base (fun _ => true) held 22 v d p) (lt : ∀ x ∈ p, x.block < w.heap.size) :
    ∃ ao len cap z, v = .slice ao len cap ∧ Came w ao len z := by
  obtain ⟨a0, len, cap, rfl⟩ := okWide_slice Try.underlying22 hv
  obtain ⟨fuel, hf⟩ := h
  rcases Deep.open_slice Try.underlying22 hf with ⟨hcs, hx⟩ | ⟨a, len', cap', m, n, D, Pl, hcs, _, hl, _, hm, hx, hall⟩
  · simp [Value.cells] at hcs
    obtain ⟨rfl, rfl, rfl⟩ := hcs
    exact ⟨_, _, _, fun _ => ⟨0, 0, 0, 0, 0, 0, 0, 0, 0⟩, rfl, Or.inl rfl⟩
  · simp [Value.cells] at hcs
    obtain ⟨rfl, rfl, rfl⟩ := hcs
    simp only [Prod.mk.injEq] at hx
    obtain ⟨rfl, rfl⟩ := hx
    rw [cells9] at hall lt
    simp only [if_true] at hm
    by_cases hl0 : len = 0
    · exact ⟨_, _, _, fun _ => ⟨0, 0, 0, 0, 0, 0, 0, 0, 0⟩, rfl, Or.inl hl0⟩
    have each : ∀ i, i < len → ∃ q : Op9, q.Fit ∧ w.cell? (a.add (i * 9 + 0)) = some (.int .i64 q.k) ∧ w.cell? (a.add (i * 9 + 1)) = some (.int .i64 q.t) ∧ w.cell? (a.add (i * 9 + 2)) = some (.int .i64 q.i) ∧ w.cell? (a.add (i * 9 + 3)) = some (.int .i64 q.f) ∧ w.cell? (a.add (i * 9 + 4)) = some (.int .i64 q.n) ∧ w.cell? (a.add (i * 9 + 5)) = some (.int .i64 q.a) ∧ w.cell? (a.add (i * 9 + 6)) = some (.int .i64 q.b) ∧ w.cell? (a.add (i * 9 + 7)) = some (.int .i64 q.c) ∧ w.cell? (a.add (i * 9 + 8)) = some (.int .i64 q.d) := by
      intro i hi
      obtain ⟨cs', h1, h2⟩ := hall i (by omega)
      obtain ⟨q, hq, e0, e1, e2, e3, e4, e5, e6, e7, e8⟩ := open_op h2
      have hc := World.cells?_some h1
      simp only [Deep.add_add] at hc
      refine ⟨q, hq, ?_, ?_, ?_, ?_, ?_, ?_, ?_, ?_, ?_⟩
      · rw [hc.2.2 0 (by decide)]; exact e0
      · rw [hc.2.2 1 (by decide)]; exact e1
      · rw [hc.2.2 2 (by decide)]; exact e2
      · rw [hc.2.2 3 (by decide)]; exact e3
      · rw [hc.2.2 4 (by decide)]; exact e4
      · rw [hc.2.2 5 (by decide)]; exact e5
      · rw [hc.2.2 6 (by decide)]; exact e6
      · rw [hc.2.2 7 (by decide)]; exact e7
      · rw [hc.2.2 8 (by decide)]; exact e8
    haveI : Inhabited Op9 := ⟨⟨0, 0, 0, 0, 0, 0, 0, 0, 0⟩⟩
    obtain ⟨z, hz⟩ := Deep.choose_lt each
    obtain ⟨b, off, spot⟩ := a
    have hspot : spot = none := by simpa [Addr.add] using World.cell?_spot (hz 0 (by omega)).2.1
    subst hspot
    simp only [add_plain] at hz
    refine ⟨_, _, _, z, rfl, Or.inr ⟨b, off, rfl, ⟨lt (.cell b off) (List.mem_append_left _ (MemPlace.mem_row.2 ⟨0, by omega, by simp⟩)), fun j hj => (hz j hj).1, fun j hj => (hz j hj).2.1, fun j hj => ?_, fun j hj => ?_, fun j hj => ?_, fun j hj => ?_, fun j hj => ?_, fun j hj => ?_, fun j hj => ?_, fun j hj => ?_⟩⟩⟩
    · rw [Nat.add_assoc]; exact (hz j hj).2.2.1
    · rw [Nat.add_assoc]; exact (hz j hj).2.2.2.1
    · rw [Nat.add_assoc]; exact (hz j hj).2.2.2.2.1
    · rw [Nat.add_assoc]; exact (hz j hj).2.2.2.2.2.1
    · rw [Nat.add_assoc]; exact (hz j hj).2.2.2.2.2.2.1
    · rw [Nat.add_assoc]; exact (hz j hj).2.2.2.2.2.2.2.1
    · rw [Nat.add_assoc]; exact (hz j hj).2.2.2.2.2.2.2.2.1
    · rw [Nat.add_assoc]; exact (hz j hj).2.2.2.2.2.2.2.2.2

/-- a list of numbers that came in -/
def CameI (w : World) (ao : Option Addr) (len : Nat) (z : Nat → Int) : Prop := len = 0 ∨ ∃ b off, ao = some ⟨b, off, none⟩ ∧ b < w.heap.size ∧ ∀ j, j < len → w.cell? ⟨b, off + j, none⟩ = some (.int .i64 (z j)) ∧ -9223372036854775808 ≤ z j ∧ z j ≤ 9223372036854775807
theorem CameI.on {w w' : World} {ao : Option Addr} {len : Nat} {z : Nat → Int} (h : CameI w ao len z) (k : Below w.heap.size w w') : CameI w' ao len z := by
  rcases h with h | ⟨b, off, rfl, hb, h⟩
  · exact .inl h
  · exact .inr ⟨b, off, rfl, Nat.lt_of_lt_of_le hb k.size, fun j hj => ⟨(k.cell hb).trans (h j hj).1, (h j hj).2⟩⟩
set_option maxRecDepth 100000 in
theorem open_slice {H : Type} {enc : TypeId × Value → H} {w : World} {base : Nat} {held : Bool} {r : Reach} {b0 : Nat} {v : Value} {d : DataW H} {p : List MemPlace}
    (hv : Value.okWide Try.prog w r b0 53 v) (h : DataW.Trod enc Try.prog w base (fun _ => true) held 53 v d p) (lt : ∀ x ∈ p, x.block < w.heap.size) :
    ∃ ao len cap z, v = .slice ao len cap ∧ CameI w ao len z := by
  obtain ⟨a0, len, cap, rfl⟩ := okWide_slice Try.underlying53 hv
  obtain ⟨fuel, hf⟩ := h
  rcases open_ints Try.underlying53 Try.underlying3 cells1 hf with ⟨hcs, hx⟩ | ⟨a, len', cap', zs, hcs, _, hl, hm, hz, hx, hcell, hwz⟩
  · simp [Value.cells] at hcs
    obtain ⟨rfl, rfl, rfl⟩ := hcs
    exact ⟨_, _, _, fun _ => 0, rfl, Or.inl rfl⟩
  · simp [Value.cells] at hcs
    obtain ⟨rfl, rfl, rfl⟩ := hcs
    simp only [Prod.mk.injEq] at hx
    obtain ⟨rfl, rfl⟩ := hx
    simp only [if_true] at hz
    refine ⟨_, _, _, fun j => zs.getD j 0, rfl, ?_⟩
    by_cases hl0 : len = 0
    · exact Or.inl hl0
    · obtain ⟨b, off, spot⟩ := a
      have hspot : spot = none := by simpa [Addr.add] using World.cell?_spot (hcell 0 (by omega))
      subst hspot
      refine Or.inr ⟨b, off, rfl, lt (.cell b off) (MemPlace.mem_row.2 ⟨0, by omega, by simp⟩), fun j hj => ⟨by rw [← add_plain]; exact hcell j (by omega), ?_⟩⟩
      have hj' : j < zs.length := by omega
      have := hwz (zs.getD j 0) (by rw [List.getD_eq_getElem?_getD, List.getElem?_eq_getElem hj']; exact List.getElem_mem _)
      exact bounds_i64 this
theorem okWide_arr {w : World} {r : Reach} {b0 n : Nat} {t e : TypeId} {v : Value} (ht : Try.prog.underlying t = some (.array n e)) (h : Value.okWide Try.prog w r b0 t v) : ∃ cs, v = .agg cs ∧ cs.size = Try.prog.cellsOf t := by
  simp only [Value.okWide, ht] at h
  obtain ⟨cs, h1, h2, _⟩ := h
  exact ⟨cs, h1, h2⟩
set_option maxRecDepth 100000 in
/-- two numbers by value, opened -/
theorem open_two {H : Type} {enc : TypeId × Value → H} {w : World} {base : Nat} {spare : Nat → Bool} {held : Bool} {r : Reach} {b0 : Nat} {v : Value} {d : DataW H} {p : List MemPlace}
    (hv : Value.okWide Try.prog w r b0 58 v) (h : DataW.Trod enc Try.prog w base spare held 58 v d p) :
    ∃ x y : Int, v = .agg #[.int .i64 x, .int .i64 y] ∧ (-9223372036854775808 ≤ x ∧ x ≤ 9223372036854775807) ∧ -9223372036854775808 ≤ y ∧ y ≤ 9223372036854775807 := by
  obtain ⟨cs, rfl, hsz⟩ := okWide_arr Try.underlying58 hv
  have h2 : cs.size = 2 := hsz.trans (by kernel_rfl)
  obtain ⟨l⟩ := cs
  match l, h2 with
  | [c0, c1], _ =>
    obtain ⟨fuel, hf⟩ := h
    obtain ⟨xs, m, _, _, _, hlen, hel⟩ := DataW.trod_array Try.underlying58 hf
    have g0 := hel 0 (by decide)
    have g1 := hel 1 (by decide)
    rw [List.getElem?_eq_getElem (by omega : 0 < xs.length), cells1] at g0
    rw [List.getElem?_eq_getElem (by omega : 1 < xs.length), cells1] at g1
    obtain ⟨k0, e0, b0'⟩ := cell_int (o := 0) g0
    obtain ⟨k1, e1, b1'⟩ := cell_int (o := 1) g1
    simp [Value.cells] at e0 e1
    subst e0 e1
    exact ⟨_, _, rfl, b0', b1'⟩
end Go.Proofs.Ytbihdkdefopijaa
