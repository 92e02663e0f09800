/-
  What came in, opened: a list of accesses.
-/
import Derived.Test.YtgakmpfmckikgaaGreatDoorDv
import Derived.Lib.SmallJoins
import Derived.Carry
import Derived.ChangeOld
import Derived.Deep.Slices
import Derived.ProofKit
namespace Go.Proofs.YtgakmpfmckikgaaGreatDoor
set_option linter.unusedVariables false
set_option linter.unusedSimpArgs false
set_option maxRecDepth 100000
open Go.ChangeShapes Go.WideShapes Go.ChangeAt Go.RowKit Go.Joins Go.Deep

section
variable {H : Type} {enc : TypeId × Value → H} {w : World} {base : Nat} {spare : Nat → Bool} {held : Bool} {r : Reach} {b0 : Nat} {v : Value} {d : DataW H} {p : List MemPlace}
theorem cell_int {n o : Nat} {cs : List Value} {y : DataW H × List MemPlace} (h : DataW.trod enc Tryz.prog w base spare held n 3 ((cs.drop o).take 1) = some y) : ∃ k, cs[o]? = some (.int .i64 k) ∧ -9223372036854775808 ≤ k ∧ k ≤ 9223372036854775807 := by
  obtain ⟨k, e, _, wf⟩ := DataW.trod_int Tryz.underlying3 h
  refine ⟨k, ?_, (bounds_i64 wf).1, (bounds_i64 wf).2⟩
  have := congrArg (fun l => l[0]?) e
  simpa using this
theorem cells2 : Tryz.prog.cellsOf 45 = 2 := by kernel_rfl
theorem part_val {n o : Nat} {cs : List Value} {y : DataW H × List MemPlace} (h : DataW.trod enc Tryz.prog w base spare held n 45 ((cs.drop o).take 2) = some y) :
    ∃ q : Vl, cs[o]? = some (.int .i64 q.k) ∧ cs[o + 1]? = some (.int .i64 q.n) ∧ q.Fit := by
  obtain ⟨xs, m, _, _, _, hlen, hall⟩ := DataW.trod_struct Tryz.underlying45 h
  have h0 : DataW.trod enc Tryz.prog w base spare held m 3 ((((cs.drop o).take 2).drop 0).take (Tryz.prog.cellsOf 3)) = xs[0]? := hall 0 _ rfl
  have h1 : DataW.trod enc Tryz.prog w base spare held m 3 ((((cs.drop o).take 2).drop 1).take (Tryz.prog.cellsOf 3)) = xs[1]? := hall 1 _ rfl
  have hl : xs.length = 2 := hlen
  simp only [cells1] at h0 h1
  rw [List.getElem?_eq_getElem (by omega : 0 < xs.length)] at h0
  rw [List.getElem?_eq_getElem (by omega : 1 < xs.length)] at h1
  obtain ⟨k0, e0, b0⟩ := cell_int (o := 0) h0
  obtain ⟨k1, e1, b1⟩ := cell_int (o := 1) h1
  exact ⟨⟨k0, k1⟩, by simpa using e0, by simpa using e1, ⟨b0.1, b0.2, b1.1, b1.2⟩⟩
theorem open_val (hv : Value.okWide Tryz.prog w r b0 45 v) (h : DataW.Trod enc Tryz.prog w base spare held 45 v d p) : ∃ q : Vl, v = .agg #[.int .i64 q.k, .int .i64 q.n] ∧ q.Fit := by
  obtain ⟨cs, rfl, hsz⟩ := okWide_struct Tryz.underlying45 hv
  have hs2 : cs.size = 2 := hsz.trans (by kernel_rfl)
  obtain ⟨l⟩ := cs
  match l, hs2 with
  | [c0, c1], _ =>
    obtain ⟨fuel, hf⟩ := h
    obtain ⟨q, e0, e1, f⟩ := part_val (cs := [c0, c1]) (o := 0) (by simpa [Value.cells] using hf)
    simp at e0 e1
    subst e0 e1
    exact ⟨q, rfl, f⟩
/-- a list of values, out of its one cell -/
theorem vals_cell {n : Nat} {c : Value} {x : DataW H × List MemPlace} (hf : DataW.trod enc Tryz.prog w base (fun _ => true) held n 23 [c] = some x) : ∃ ao len cap z, c = .slice ao len cap ∧ CameV w ao len z := by
  rcases Deep.open_slice Tryz.underlying23 hf with ⟨hcs, hx⟩ | ⟨a, len, cap, m, n, D, Pl, hcs, _, hl, _, hm, hx, hall⟩
  · simp at hcs
    exact ⟨_, _, _, fun _ => Vl.zero, hcs, Or.inl rfl⟩
  · simp at hcs
    rw [cells2] at hall
    simp only [if_true] at hm
    by_cases hl0 : len = 0
    · exact ⟨_, _, _, fun _ => Vl.zero, hcs, Or.inl hl0⟩
    have each : ∀ i, i < len → ∃ q : Vl, w.cell? (a.add (i * 2 + 0)) = some (.int .i64 q.k) ∧ w.cell? (a.add (i * 2 + 1)) = some (.int .i64 q.n) ∧ q.Fit := by
      intro i hi
      obtain ⟨cs', h1, h2⟩ := hall i (by omega)
      have hc := World.cells?_some h1
      have hlen : cs'.length = 2 := by obtain ⟨_, _, _, _, hq, _⟩ := DataW.trod_struct Tryz.underlying45 h2; exact hq.trans cells2
      obtain ⟨q, e0, e1, f⟩ := part_val (cs := cs') (o := 0) (by simpa [List.take_of_length_le (Nat.le_of_eq hlen)] using h2)
      simp only [Deep.add_add] at hc
      refine ⟨q, ?_, ?_, f⟩
      · rw [hc.2.2 0 (by decide)]; exact e0
      · rw [hc.2.2 1 (by decide)]; exact e1
    haveI : Inhabited Vl := ⟨⟨0, 0⟩⟩
    obtain ⟨z, hz⟩ := Deep.choose_lt each
    obtain ⟨b, off, spot⟩ := a
    have hspot : spot = none := by simpa [Addr.add] using World.cell?_spot (hz 0 (by omega)).1
    subst hspot
    simp only [add_plain] at hz
    exact ⟨_, _, _, z, hcs, Or.inr ⟨b, off, rfl, World.block_lt_of_cell? _ _ (hz 0 (by omega)).1, fun j hj => ⟨(hz j hj).1, (hz j hj).2.1, (hz j hj).2.2⟩⟩⟩
theorem ints_cell {n : Nat} {c : Value} {x : DataW H × List MemPlace} (hf : DataW.trod enc Tryz.prog w base (fun _ => true) held n 22 [c] = some x) : ∃ ao len cap z, c = .slice ao len cap ∧ CameI w ao len z := by
  rcases open_ints Tryz.underlying22 Tryz.underlying3 cells1 hf with ⟨hcs, hx⟩ | ⟨a, len, cap, zs, hcs, _, hl, hm, hz, hx, hcell, hwz⟩
  · simp at hcs
    exact ⟨_, _, _, fun _ => 0, hcs, Or.inl rfl⟩
  · simp at hcs
    simp only [if_true] at hz
    refine ⟨_, _, _, fun j => zs.getD j 0, hcs, ?_⟩
    by_cases hl0 : len = 0
    · exact Or.inl hl0
    · obtain ⟨b, off, spot⟩ := a
      have hspot : spot = none := by simpa [Addr.add] using World.cell?_spot (hcell 0 (by omega))
      subst hspot
      have c0 := hcell 0 (by omega)
      refine Or.inr ⟨b, off, rfl, World.block_lt_of_cell? _ _ c0, fun j hj => ⟨by rw [← add_plain]; exact hcell j (by omega), ?_⟩⟩
      have hj' : j < zs.length := by omega
      have := hwz (zs.getD j 0) (by rw [List.getD_eq_getElem?_getD, List.getElem?_eq_getElem hj']; exact List.getElem_mem _)
      exact bounds_i64 this
theorem open_vals (hv : Value.okWide Tryz.prog w r b0 23 v) (h : DataW.Trod enc Tryz.prog w base (fun _ => true) held 23 v d p) : ∃ ao len cap z, v = .slice ao len cap ∧ CameV w ao len z := by
  obtain ⟨a0, len, cap, rfl⟩ := okWide_slice Tryz.underlying23 hv
  obtain ⟨fuel, hf⟩ := h
  exact vals_cell (by simpa [Value.cells] using hf)
theorem cellsI : Tryz.prog.cellsOf 22 = 1 := by kernel_rfl
theorem cellsV : Tryz.prog.cellsOf 23 = 1 := by kernel_rfl
/-- which objects were moved, and what all fields have -/
theorem open_begin (hv : Value.okWide Tryz.prog w r b0 25 v) (h : DataW.Trod enc Tryz.prog w base (fun _ => true) held 25 v d p) :
    ∃ ao len cap z ao' len' cap' z', v = .agg #[.slice ao len cap, .slice ao' len' cap'] ∧ CameI w ao len z ∧ CameV w ao' len' z' := by
  obtain ⟨cs, rfl, hsz⟩ := okWide_struct Tryz.underlying25 hv
  have hs2 : cs.size = 2 := hsz.trans (by kernel_rfl)
  obtain ⟨l⟩ := cs
  match l, hs2 with
  | [c0, c1], _ =>
    obtain ⟨fuel, hf⟩ := h
    obtain ⟨xs, m, _, _, _, hlen, hall⟩ := DataW.trod_struct Tryz.underlying25 hf
    have h0 : DataW.trod enc Tryz.prog w base (fun _ => true) held m 22 (((Value.agg #[c0, c1]).cells.toList.drop 0).take (Tryz.prog.cellsOf 22)) = xs[0]? := hall 0 _ rfl
    have h1 : DataW.trod enc Tryz.prog w base (fun _ => true) held m 23 (((Value.agg #[c0, c1]).cells.toList.drop 1).take (Tryz.prog.cellsOf 23)) = xs[1]? := hall 1 _ rfl
    have hl : xs.length = 2 := hlen
    simp only [cellsI, cellsV] at h0 h1
    rw [List.getElem?_eq_getElem (by omega : 0 < xs.length)] at h0
    rw [List.getElem?_eq_getElem (by omega : 1 < xs.length)] at h1
    obtain ⟨a, n, c, z, rfl, hz⟩ := ints_cell (c := c0) (by simpa [Value.cells] using h0)
    obtain ⟨a', n', c', z', rfl, hz'⟩ := vals_cell (c := c1) (by simpa [Value.cells] using h1)
    exact ⟨_, _, _, _, _, _, _, _, rfl, hz, hz'⟩
theorem okWide_arr {n : Nat} {t e : TypeId} (ht : Tryz.prog.underlying t = some (.array n e)) (h : Value.okWide Tryz.prog w r b0 t v) : ∃ cs, v = .agg cs ∧ cs.size = Tryz.prog.cellsOf t := by
  simp only [Value.okWide, ht] at h
  obtain ⟨cs, h1, h2, _⟩ := h
  exact ⟨cs, h1, h2⟩
/-- an access, as the laws have it -/
structure Op7 where
  k : Int
  b : Int
  o : Int
  f : Int
  a : Int
  x : Vl
  y : Vl
structure Op7.Fit (q : Op7) : Prop where
  k : -9223372036854775808 ≤ q.k ∧ q.k ≤ 9223372036854775807
  b : -9223372036854775808 ≤ q.b ∧ q.b ≤ 9223372036854775807
  o : -9223372036854775808 ≤ q.o ∧ q.o ≤ 9223372036854775807
  f : -9223372036854775808 ≤ q.f ∧ q.f ≤ 9223372036854775807
  a : -9223372036854775808 ≤ q.a ∧ q.a ≤ 9223372036854775807
  x : q.x.Fit
  y : q.y.Fit
def Op7.cells (q : Op7) : Array Value := #[.int .i64 q.k, .int .i64 q.b, .int .i64 q.o, .int .i64 q.f, .int .i64 q.a, .int .i64 q.x.k, .int .i64 q.x.n, .int .i64 q.y.k, .int .i64 q.y.n]
theorem open_op {n : Nat} {cs : List Value} {x : DataW H × List MemPlace}
    (h : DataW.trod enc Tryz.prog w base spare held n 47 cs = some x) : ∃ q : Op7, q.Fit ∧ cs[0]? = some (.int .i64 q.k) ∧ cs[1]? = some (.int .i64 q.b) ∧ cs[2]? = some (.int .i64 q.o) ∧ cs[3]? = some (.int .i64 q.f) ∧ cs[4]? = some (.int .i64 q.a) ∧ cs[5]? = some (.int .i64 q.x.k) ∧ cs[6]? = some (.int .i64 q.x.n) ∧ cs[7]? = some (.int .i64 q.y.k) ∧ cs[8]? = some (.int .i64 q.y.n) := by
  obtain ⟨xs, m, _, _, _, hlen, hall⟩ := DataW.trod_struct Tryz.underlying47 h
  have hl : xs.length = 7 := hlen
  have h0 : DataW.trod enc Tryz.prog w base spare held m 3 ((cs.drop 0).take (Tryz.prog.cellsOf 3)) = xs[0]? := hall 0 _ rfl
  have h1 : DataW.trod enc Tryz.prog w base spare held m 3 ((cs.drop 1).take (Tryz.prog.cellsOf 3)) = xs[1]? := hall 1 _ rfl
  have h2 : DataW.trod enc Tryz.prog w base spare held m 3 ((cs.drop 2).take (Tryz.prog.cellsOf 3)) = xs[2]? := hall 2 _ rfl
  have h3 : DataW.trod enc Tryz.prog w base spare held m 3 ((cs.drop 3).take (Tryz.prog.cellsOf 3)) = xs[3]? := hall 3 _ rfl
  have h4 : DataW.trod enc Tryz.prog w base spare held m 3 ((cs.drop 4).take (Tryz.prog.cellsOf 3)) = xs[4]? := hall 4 _ rfl
  have h5 : DataW.trod enc Tryz.prog w base spare held m 45 ((cs.drop 5).take (Tryz.prog.cellsOf 45)) = xs[5]? := hall 5 _ rfl
  have h6 : DataW.trod enc Tryz.prog w base spare held m 45 ((cs.drop 7).take (Tryz.prog.cellsOf 45)) = xs[6]? := hall 6 _ rfl
  simp only [cells1, cells2] at h0 h1 h2 h3 h4 h5 h6
  rw [List.getElem?_eq_getElem (by omega : 0 < xs.length)] at h0
  rw [List.getElem?_eq_getElem (by omega : 1 < xs.length)] at h1
  rw [List.getElem?_eq_getElem (by omega : 2 < xs.length)] at h2
  rw [List.getElem?_eq_getElem (by omega : 3 < xs.length)] at h3
  rw [List.getElem?_eq_getElem (by omega : 4 < xs.length)] at h4
  rw [List.getElem?_eq_getElem (by omega : 5 < xs.length)] at h5
  rw [List.getElem?_eq_getElem (by omega : 6 < xs.length)] at h6
  obtain ⟨k0, e0, b0⟩ := cell_int (o := 0) h0
  obtain ⟨k1, e1, b1⟩ := cell_int (o := 1) h1
  obtain ⟨k2, e2, b2⟩ := cell_int (o := 2) h2
  obtain ⟨k3, e3, b3⟩ := cell_int (o := 3) h3
  obtain ⟨k4, e4, b4⟩ := cell_int (o := 4) h4
  obtain ⟨q1, e5, e6, f1⟩ := part_val (o := 5) h5
  obtain ⟨q2, e7, e8, f2⟩ := part_val (o := 7) h6
  exact ⟨⟨k0, k1, k2, k3, k4, q1, q2⟩, ⟨b0, b1, b2, b3, b4, f1, f2⟩, e0, e1, e2, e3, e4, e5, e6, e7, e8⟩
theorem open_opv (hv : Value.okWide Tryz.prog w r b0 47 v) (h : DataW.Trod enc Tryz.prog w base spare held 47 v d p) :
    ∃ q : Op7, v = .agg q.cells ∧ q.Fit := by
  obtain ⟨cs, rfl, hsz⟩ := okWide_struct Tryz.underlying47 hv
  obtain ⟨fuel, hf⟩ := h
  obtain ⟨q, hq, e0, e1, e2, e3, e4, e5, e6, e7, e8⟩ := open_op hf
  have hs9 : cs.size = 9 := hsz.trans (by kernel_rfl)
  obtain ⟨l⟩ := cs
  match l, hs9 with
  | [c0, c1, c2, c3, c4, c5, c6, c7, c8], _ =>
    simp [Value.cells] at e0 e1 e2 e3 e4 e5 e6 e7 e8
    subst e0 e1 e2 e3 e4 e5 e6 e7 e8
    exact ⟨q, rfl, hq⟩
end
end Go.Proofs.YtgakmpfmckikgaaGreatDoor

namespace Go.Proofs.YtgakmpfmckikgaaGreatDoor
set_option linter.unusedVariables false
set_option linter.unusedSimpArgs false
set_option maxRecDepth 100000
open Go.ChangeShapes Go.WideShapes Go.ChangeAt Go.RowKit Go.Joins Go.Deep

/-- a list of accesses that came in -/
structure OpsO (w : World) (b off len : Nat) (z : Nat → Op7) : Prop where
  lt : b < w.heap.size
  fit : ∀ j, j < len → (z j).Fit
  c0 : ∀ j, j < len → w.cell? ⟨b, off + j * 9, none⟩ = some (.int .i64 (z j).k)
  c1 : ∀ j, j < len → w.cell? ⟨b, off + j * 9 + 1, none⟩ = some (.int .i64 (z j).b)
  c2 : ∀ j, j < len → w.cell? ⟨b, off + j * 9 + 2, none⟩ = some (.int .i64 (z j).o)
  c3 : ∀ j, j < len → w.cell? ⟨b, off + j * 9 + 3, none⟩ = some (.int .i64 (z j).f)
  c4 : ∀ j, j < len → w.cell? ⟨b, off + j * 9 + 4, none⟩ = some (.int .i64 (z j).a)
  c5 : ∀ j, j < len → w.cell? ⟨b, off + j * 9 + 5, none⟩ = some (.int .i64 (z j).x.k)
  c6 : ∀ j, j < len → w.cell? ⟨b, off + j * 9 + 6, none⟩ = some (.int .i64 (z j).x.n)
  c7 : ∀ j, j < len → w.cell? ⟨b, off + j * 9 + 7, none⟩ = some (.int .i64 (z j).y.k)
  c8 : ∀ j, j < len → w.cell? ⟨b, off + j * 9 + 8, none⟩ = some (.int .i64 (z j).y.n)
theorem OpsO.on {w w' : World} {b off len : Nat} {z : Nat → Op7} (h : OpsO w b off len z) (k : Below w.heap.size w w') : OpsO w' b off len z :=
  ⟨Nat.lt_of_lt_of_le h.lt k.size, h.fit, fun j hj => (k.cell h.lt).trans (h.c0 j hj), fun j hj => (k.cell h.lt).trans (h.c1 j hj), fun j hj => (k.cell h.lt).trans (h.c2 j hj), fun j hj => (k.cell h.lt).trans (h.c3 j hj), fun j hj => (k.cell h.lt).trans (h.c4 j hj), fun j hj => (k.cell h.lt).trans (h.c5 j hj), fun j hj => (k.cell h.lt).trans (h.c6 j hj), fun j hj => (k.cell h.lt).trans (h.c7 j hj), fun j hj => (k.cell h.lt).trans (h.c8 j hj)⟩
def CameO (w : World) (ao : Option Addr) (len : Nat) (z : Nat → Op7) : Prop := len = 0 ∨ ∃ b off, ao = some ⟨b, off, none⟩ ∧ OpsO w b off len z
theorem CameO.on {w w' : World} {ao : Option Addr} {len : Nat} {z : Nat → Op7} (h : CameO w ao len z) (k : Below w.heap.size w w') : CameO w' ao len z := by
  rcases h with h | ⟨b, off, rfl, h⟩
  · exact .inl h
  · exact .inr ⟨b, off, rfl, h.on k⟩
theorem cells9 : Tryz.prog.cellsOf 47 = 9 := by kernel_rfl
theorem open_ops {H : Type} {enc : TypeId × Value → H} {w : World} {base : Nat} {held : Bool} {r : Reach} {b0 : Nat} {v : Value} {d : DataW H} {p : List MemPlace}
    (hv : Value.okWide Tryz.prog w r b0 26 v) (h : DataW.Trod enc Tryz.prog w base (fun _ => true) held 26 v d p) :
    ∃ ao len cap z, v = .slice ao len cap ∧ CameO w ao len z := by
  obtain ⟨a0, len, cap, rfl⟩ := okWide_slice Tryz.underlying26 hv
  obtain ⟨fuel, hf⟩ := h
  rcases Deep.open_slice Tryz.underlying26 hf with ⟨hcs, hx⟩ | ⟨a, len', cap', m, n, D, Pl, hcs, _, hl, _, hm, hx, hall⟩
  · simp [Value.cells] at hcs
    obtain ⟨rfl, rfl, rfl⟩ := hcs
    exact ⟨_, _, _, fun _ => ⟨0, 0, 0, 0, 0, Vl.zero, Vl.zero⟩, rfl, Or.inl rfl⟩
  · simp [Value.cells] at hcs
    obtain ⟨rfl, rfl, rfl⟩ := hcs
    rw [cells9] at hall
    simp only [if_true] at hm
    by_cases hl0 : len = 0
    · exact ⟨_, _, _, fun _ => ⟨0, 0, 0, 0, 0, Vl.zero, Vl.zero⟩, rfl, Or.inl hl0⟩
    have each : ∀ i, i < len → ∃ q : Op7, q.Fit ∧ w.cell? (a.add (i * 9 + 0)) = some (.int .i64 q.k) ∧ w.cell? (a.add (i * 9 + 1)) = some (.int .i64 q.b) ∧ w.cell? (a.add (i * 9 + 2)) = some (.int .i64 q.o) ∧ w.cell? (a.add (i * 9 + 3)) = some (.int .i64 q.f) ∧ w.cell? (a.add (i * 9 + 4)) = some (.int .i64 q.a) ∧ w.cell? (a.add (i * 9 + 5)) = some (.int .i64 q.x.k) ∧ w.cell? (a.add (i * 9 + 6)) = some (.int .i64 q.x.n) ∧ w.cell? (a.add (i * 9 + 7)) = some (.int .i64 q.y.k) ∧ w.cell? (a.add (i * 9 + 8)) = some (.int .i64 q.y.n) := by
      intro i hi
      obtain ⟨cs', h1, h2⟩ := hall i (by omega)
      obtain ⟨q, hq, e0, e1, e2, e3, e4, e5, e6, e7, e8⟩ := open_op h2
      have hc := World.cells?_some h1
      simp only [Deep.add_add] at hc
      refine ⟨q, hq, ?_, ?_, ?_, ?_, ?_, ?_, ?_, ?_, ?_⟩
      · rw [hc.2.2 0 (by decide)]; exact e0
      · rw [hc.2.2 1 (by decide)]; exact e1
      · rw [hc.2.2 2 (by decide)]; exact e2
      · rw [hc.2.2 3 (by decide)]; exact e3
      · rw [hc.2.2 4 (by decide)]; exact e4
      · rw [hc.2.2 5 (by decide)]; exact e5
      · rw [hc.2.2 6 (by decide)]; exact e6
      · rw [hc.2.2 7 (by decide)]; exact e7
      · rw [hc.2.2 8 (by decide)]; exact e8
    haveI : Inhabited Op7 := ⟨⟨0, 0, 0, 0, 0, Vl.zero, Vl.zero⟩⟩
    obtain ⟨z, hz⟩ := Deep.choose_lt each
    obtain ⟨b, off, spot⟩ := a
    have hspot : spot = none := by simpa [Addr.add] using World.cell?_spot (hz 0 (by omega)).2.1
    subst hspot
    simp only [add_plain] at hz
    refine ⟨_, _, _, z, rfl, Or.inr ⟨b, off, rfl, ⟨World.block_lt_of_cell? _ _ (hz 0 (by omega)).2.1, fun j hj => (hz j hj).1, fun j hj => (hz j hj).2.1, fun j hj => ?_, fun j hj => ?_, fun j hj => ?_, fun j hj => ?_, fun j hj => ?_, fun j hj => ?_, fun j hj => ?_, fun j hj => ?_⟩⟩⟩
    · rw [Nat.add_assoc]; exact (hz j hj).2.2.1
    · rw [Nat.add_assoc]; exact (hz j hj).2.2.2.1
    · rw [Nat.add_assoc]; exact (hz j hj).2.2.2.2.1
    · rw [Nat.add_assoc]; exact (hz j hj).2.2.2.2.2.1
    · rw [Nat.add_assoc]; exact (hz j hj).2.2.2.2.2.2.1
    · rw [Nat.add_assoc]; exact (hz j hj).2.2.2.2.2.2.2.1
    · rw [Nat.add_assoc]; exact (hz j hj).2.2.2.2.2.2.2.2.1
    · rw [Nat.add_assoc]; exact (hz j hj).2.2.2.2.2.2.2.2.2
end Go.Proofs.YtgakmpfmckikgaaGreatDoor
