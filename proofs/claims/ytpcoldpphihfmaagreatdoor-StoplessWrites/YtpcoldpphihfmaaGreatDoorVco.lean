/-
  What came in, opened: values, lists of values, which objects were moved, an access.
-/
import Derived.Test.YtpcoldpphihfmaaGreatDoorCv
import Derived.Lib.SmallJoins
import Derived.Carry
import Derived.ChangeOld
import Derived.Deep.Slices
import Derived.ProofKit
namespace Go.Proofs.YtpcoldpphihfmaaGreatDoor
set_option linter.unusedVariables false
set_option linter.unusedSimpArgs false
set_option maxRecDepth 100000
open Go.ChangeShapes Go.WideShapes Go.ChangeAt Go.RowKit Go.Joins Go.Deep

section
variable {H : Type} {enc : TypeId × Value → H} {w : World} {base : Nat} {spare : Nat → Bool} {held : Bool} {r : Reach} {b0 : Nat} {v : Value} {d : DataW H} {p : List MemPlace}
theorem cell_int {n o : Nat} {cs : List Value} {y : DataW H × List MemPlace} (h : DataW.trod enc Tryz.prog w base spare held n 3 ((cs.drop o).take 1) = some y) : ∃ k, cs[o]? = some (.int .i64 k) ∧ -9223372036854775808 ≤ k ∧ k ≤ 9223372036854775807 := by
  obtain ⟨k, e, _, wf⟩ := DataW.trod_int Tryz.underlying3 h
  refine ⟨k, ?_, (bounds_i64 wf).1, (bounds_i64 wf).2⟩
  have := congrArg (fun l => l[0]?) e
  simpa using this
theorem cells2 : Tryz.prog.cellsOf 38 = 2 := by kernel_rfl
theorem part_val {n o : Nat} {cs : List Value} {y : DataW H × List MemPlace} (h : DataW.trod enc Tryz.prog w base spare held n 38 ((cs.drop o).take 2) = some y) :
    ∃ q : Vl, cs[o]? = some (.int .i64 q.k) ∧ cs[o + 1]? = some (.int .i64 q.n) ∧ q.Fit := by
  obtain ⟨xs, m, _, _, _, hlen, hall⟩ := DataW.trod_struct Tryz.underlying38 h
  have h0 : DataW.trod enc Tryz.prog w base spare held m 3 ((((cs.drop o).take 2).drop 0).take (Tryz.prog.cellsOf 3)) = xs[0]? := hall 0 _ rfl
  have h1 : DataW.trod enc Tryz.prog w base spare held m 3 ((((cs.drop o).take 2).drop 1).take (Tryz.prog.cellsOf 3)) = xs[1]? := hall 1 _ rfl
  have hl : xs.length = 2 := hlen
  simp only [cells1] at h0 h1
  rw [List.getElem?_eq_getElem (by omega : 0 < xs.length)] at h0
  rw [List.getElem?_eq_getElem (by omega : 1 < xs.length)] at h1
  obtain ⟨k0, e0, b0⟩ := cell_int (o := 0) h0
  obtain ⟨k1, e1, b1⟩ := cell_int (o := 1) h1
  exact ⟨⟨k0, k1⟩, by simpa using e0, by simpa using e1, ⟨b0.1, b0.2, b1.1, b1.2⟩⟩
theorem open_val (hv : Value.okWide Tryz.prog w r b0 38 v) (h : DataW.Trod enc Tryz.prog w base spare held 38 v d p) : ∃ q : Vl, v = .agg #[.int .i64 q.k, .int .i64 q.n] ∧ q.Fit := by
  obtain ⟨cs, rfl, hsz⟩ := okWide_struct Tryz.underlying38 hv
  have hs2 : cs.size = 2 := hsz.trans (by kernel_rfl)
  obtain ⟨l⟩ := cs
  match l, hs2 with
  | [c0, c1], _ =>
    obtain ⟨fuel, hf⟩ := h
    obtain ⟨q, e0, e1, f⟩ := part_val (cs := [c0, c1]) (o := 0) (by simpa [Value.cells] using hf)
    simp at e0 e1
    subst e0 e1
    exact ⟨q, rfl, f⟩
/-- a list of values, out of its one cell -/
theorem vals_cell {n : Nat} {c : Value} {x : DataW H × List MemPlace} (hf : DataW.trod enc Tryz.prog w base (fun _ => true) held n 23 [c] = some x) : ∃ ao len cap z, c = .slice ao len cap ∧ CameV w ao len z := by
  rcases Deep.open_slice Tryz.underlying23 hf with ⟨hcs, hx⟩ | ⟨a, len, cap, m, n, D, Pl, hcs, _, hl, _, hm, hx, hall⟩
  · simp at hcs
    exact ⟨_, _, _, fun _ => Vl.zero, hcs, Or.inl rfl⟩
  · simp at hcs
    rw [cells2] at hall
    simp only [if_true] at hm
    by_cases hl0 : len = 0
    · exact ⟨_, _, _, fun _ => Vl.zero, hcs, Or.inl hl0⟩
    have each : ∀ i, i < len → ∃ q : Vl, w.cell? (a.add (i * 2 + 0)) = some (.int .i64 q.k) ∧ w.cell? (a.add (i * 2 + 1)) = some (.int .i64 q.n) ∧ q.Fit := by
      intro i hi
      obtain ⟨cs', h1, h2⟩ := hall i (by omega)
      have hc := World.cells?_some h1
      have hlen : cs'.length = 2 := by obtain ⟨_, _, _, _, hq, _⟩ := DataW.trod_struct Tryz.underlying38 h2; exact hq.trans cells2
      obtain ⟨q, e0, e1, f⟩ := part_val (cs := cs') (o := 0) (by simpa [List.take_of_length_le (Nat.le_of_eq hlen)] using h2)
      simp only [Deep.add_add] at hc
      refine ⟨q, ?_, ?_, f⟩
      · rw [hc.2.2 0 (by decide)]; exact e0
      · rw [hc.2.2 1 (by decide)]; exact e1
    haveI : Inhabited Vl := ⟨⟨0, 0⟩⟩
    obtain ⟨z, hz⟩ := Deep.choose_lt each
    obtain ⟨b, off, spot⟩ := a
    have hspot : spot = none := by simpa [Addr.add] using World.cell?_spot (hz 0 (by omega)).1
    subst hspot
    simp only [add_plain] at hz
    exact ⟨_, _, _, z, hcs, Or.inr ⟨b, off, rfl, World.block_lt_of_cell? _ _ (hz 0 (by omega)).1, fun j hj => ⟨(hz j hj).1, (hz j hj).2.1, (hz j hj).2.2⟩⟩⟩
theorem ints_cell {n : Nat} {c : Value} {x : DataW H × List MemPlace} (hf : DataW.trod enc Tryz.prog w base (fun _ => true) held n 22 [c] = some x) : ∃ ao len cap z, c = .slice ao len cap ∧ CameI w ao len z := by
  rcases open_ints Tryz.underlying22 Tryz.underlying3 cells1 hf with ⟨hcs, hx⟩ | ⟨a, len, cap, zs, hcs, _, hl, hm, hz, hx, hcell, hwz⟩
  · simp at hcs
    exact ⟨_, _, _, fun _ => 0, hcs, Or.inl rfl⟩
  · simp at hcs
    simp only [if_true] at hz
    refine ⟨_, _, _, fun j => zs.getD j 0, hcs, ?_⟩
    by_cases hl0 : len = 0
    · exact Or.inl hl0
    · obtain ⟨b, off, spot⟩ := a
      have hspot : spot = none := by simpa [Addr.add] using World.cell?_spot (hcell 0 (by omega))
      subst hspot
      have c0 := hcell 0 (by omega)
      refine Or.inr ⟨b, off, rfl, World.block_lt_of_cell? _ _ c0, fun j hj => ⟨by rw [← add_plain]; exact hcell j (by omega), ?_⟩⟩
      have hj' : j < zs.length := by omega
      have := hwz (zs.getD j 0) (by rw [List.getD_eq_getElem?_getD, List.getElem?_eq_getElem hj']; exact List.getElem_mem _)
      exact bounds_i64 this
theorem open_vals (hv : Value.okWide Tryz.prog w r b0 23 v) (h : DataW.Trod enc Tryz.prog w base (fun _ => true) held 23 v d p) : ∃ ao len cap z, v = .slice ao len cap ∧ CameV w ao len z := by
  obtain ⟨a0, len, cap, rfl⟩ := okWide_slice Tryz.underlying23 hv
  obtain ⟨fuel, hf⟩ := h
  exact vals_cell (by simpa [Value.cells] using hf)
theorem cellsI : Tryz.prog.cellsOf 22 = 1 := by kernel_rfl
theorem cellsV : Tryz.prog.cellsOf 23 = 1 := by kernel_rfl
/-- the tag, the statuses, and what the fields have -/
theorem open_begin (hv : Value.okWide Tryz.prog w r b0 25 v) (h : DataW.Trod enc Tryz.prog w base (fun _ => true) held 25 v d p) :
    ∃ a ao len cap z ao' len' cap' z', v = .agg #[.int .i64 a, .slice ao len cap, .slice ao' len' cap'] ∧ (-9223372036854775808 ≤ a ∧ a ≤ 9223372036854775807) ∧ CameI w ao len z ∧ CameV w ao' len' z' := by
  obtain ⟨cs, rfl, hsz⟩ := okWide_struct Tryz.underlying25 hv
  have hs2 : cs.size = 3 := hsz.trans (by kernel_rfl)
  obtain ⟨l⟩ := cs
  match l, hs2 with
  | [c0, c1, c2], _ =>
    obtain ⟨fuel, hf⟩ := h
    obtain ⟨xs, m, _, _, _, hlen, hall⟩ := DataW.trod_struct Tryz.underlying25 hf
    have h0 : DataW.trod enc Tryz.prog w base (fun _ => true) held m 3 (((Value.agg #[c0, c1, c2]).cells.toList.drop 0).take (Tryz.prog.cellsOf 3)) = xs[0]? := hall 0 _ rfl
    have h1 : DataW.trod enc Tryz.prog w base (fun _ => true) held m 22 (((Value.agg #[c0, c1, c2]).cells.toList.drop 1).take (Tryz.prog.cellsOf 22)) = xs[1]? := hall 1 _ rfl
    have h2 : DataW.trod enc Tryz.prog w base (fun _ => true) held m 23 (((Value.agg #[c0, c1, c2]).cells.toList.drop 2).take (Tryz.prog.cellsOf 23)) = xs[2]? := hall 2 _ rfl
    have hl : xs.length = 3 := hlen
    simp only [cells1, cellsI, cellsV] at h0 h1 h2
    rw [List.getElem?_eq_getElem (by omega : 0 < xs.length)] at h0
    rw [List.getElem?_eq_getElem (by omega : 1 < xs.length)] at h1
    rw [List.getElem?_eq_getElem (by omega : 2 < xs.length)] at h2
    obtain ⟨k0, e0, b0⟩ := cell_int (o := 0) h0
    obtain ⟨a, n, c, z, rfl, hz⟩ := ints_cell (c := c1) (by simpa [Value.cells] using h1)
    obtain ⟨a', n', c', z', rfl, hz'⟩ := vals_cell (c := c2) (by simpa [Value.cells] using h2)
    simp [Value.cells] at e0
    subst e0
    exact ⟨_, _, _, _, _, _, _, _, _, rfl, b0, hz, hz'⟩
/-- two numbers -/
theorem okWide_arr' {n : Nat} {t e : TypeId} (ht : Tryz.prog.underlying t = some (.array n e)) (h : Value.okWide Tryz.prog w r b0 t v) : ∃ cs, v = .agg cs ∧ cs.size = Tryz.prog.cellsOf t := by
  simp only [Value.okWide, ht] at h
  obtain ⟨cs, h1, h2, _⟩ := h
  exact ⟨cs, h1, h2⟩
theorem open_itwo (hv : Value.okWide Tryz.prog w r b0 79 v) (h : DataW.Trod enc Tryz.prog w base spare held 79 v d p) :
    ∃ x y : Int, v = .agg #[.int .i64 x, .int .i64 y] ∧ (-9223372036854775808 ≤ x ∧ x ≤ 9223372036854775807) ∧ (-9223372036854775808 ≤ y ∧ y ≤ 9223372036854775807) := by
  obtain ⟨cs, rfl, hsz⟩ := okWide_arr' Tryz.underlying79 hv
  have h2 : cs.size = 2 := hsz.trans (by kernel_rfl)
  obtain ⟨l⟩ := cs
  match l, h2 with
  | [c0, c1], _ =>
    obtain ⟨fuel, hf⟩ := h
    obtain ⟨xs, m, _, _, hlen, _, hel⟩ := DataW.trod_array Tryz.underlying79 hf
    have g0 := hel 0 (by decide)
    have g1 := hel 1 (by decide)
    rw [List.getElem?_eq_getElem (by omega : 0 < xs.length), cells1] at g0
    rw [List.getElem?_eq_getElem (by omega : 1 < xs.length), cells1] at g1
    obtain ⟨k0, e0, b0⟩ := cell_int (o := 0) (by simpa using g0)
    obtain ⟨k1, e1, b1⟩ := cell_int (o := 1) (by simpa using g1)
    simp [Value.cells] at e0 e1
    subst e0 e1
    exact ⟨_, _, rfl, b0, b1⟩
theorem okWide_arr {n : Nat} {t e : TypeId} (ht : Tryz.prog.underlying t = some (.array n e)) (h : Value.okWide Tryz.prog w r b0 t v) : ∃ cs, v = .agg cs ∧ cs.size = Tryz.prog.cellsOf t := by
  simp only [Value.okWide, ht] at h
  obtain ⟨cs, h1, h2, _⟩ := h
  exact ⟨cs, h1, h2⟩
theorem open_two (hv : Value.okWide Tryz.prog w r b0 81 v) (h : DataW.Trod enc Tryz.prog w base spare held 81 v d p) :
    ∃ x y : Vl, v = .agg #[.int .i64 x.k, .int .i64 x.n, .int .i64 y.k, .int .i64 y.n] ∧ x.Fit ∧ y.Fit := by
  obtain ⟨cs, rfl, hsz⟩ := okWide_arr Tryz.underlying81 hv
  have h2 : cs.size = 4 := hsz.trans (by kernel_rfl)
  obtain ⟨l⟩ := cs
  match l, h2 with
  | [c0, c1, c2, c3], _ =>
    obtain ⟨fuel, hf⟩ := h
    obtain ⟨xs, m, _, _, hlen, _, hel⟩ := DataW.trod_array Tryz.underlying81 hf
    have g0 := hel 0 (by decide)
    have g1 := hel 1 (by decide)
    rw [List.getElem?_eq_getElem (by omega : 0 < xs.length), cells2] at g0
    rw [List.getElem?_eq_getElem (by omega : 1 < xs.length), cells2] at g1
    obtain ⟨x, e0, e1, f⟩ := part_val (o := 0) g0
    obtain ⟨y, e2, e3, f'⟩ := part_val (o := 2) g1
    simp [Value.cells] at e0 e1 e2 e3
    subst e0 e1 e2 e3
    exact ⟨x, y, rfl, f, f'⟩
/-- an access, or a header, as the laws have it -/
structure Op15 where
  ob : Int
  fd : Int
  ac : Int
  md : Int
  x : Vl
  y : Vl
  hS : Int
  hC : Int
  hN : Int
  hM : Int
  hG : Int
  hT : Int
  hL : Int
structure Op15.Fit (q : Op15) : Prop where
  ob : -9223372036854775808 ≤ q.ob ∧ q.ob ≤ 9223372036854775807
  fd : -9223372036854775808 ≤ q.fd ∧ q.fd ≤ 9223372036854775807
  ac : -9223372036854775808 ≤ q.ac ∧ q.ac ≤ 9223372036854775807
  md : -9223372036854775808 ≤ q.md ∧ q.md ≤ 9223372036854775807
  x : q.x.Fit
  y : q.y.Fit
  hS : -9223372036854775808 ≤ q.hS ∧ q.hS ≤ 9223372036854775807
  hC : -9223372036854775808 ≤ q.hC ∧ q.hC ≤ 9223372036854775807
  hN : -9223372036854775808 ≤ q.hN ∧ q.hN ≤ 9223372036854775807
  hM : -9223372036854775808 ≤ q.hM ∧ q.hM ≤ 9223372036854775807
  hG : -9223372036854775808 ≤ q.hG ∧ q.hG ≤ 9223372036854775807
  hT : -9223372036854775808 ≤ q.hT ∧ q.hT ≤ 9223372036854775807
  hL : -9223372036854775808 ≤ q.hL ∧ q.hL ≤ 9223372036854775807
def Op15.cells (q : Op15) : Array Value := #[.int .i64 q.ob, .int .i64 q.fd, .int .i64 q.ac, .int .i64 q.md, .int .i64 q.x.k, .int .i64 q.x.n, .int .i64 q.y.k, .int .i64 q.y.n, .int .i64 q.hS, .int .i64 q.hC, .int .i64 q.hN, .int .i64 q.hM, .int .i64 q.hG, .int .i64 q.hT, .int .i64 q.hL]
theorem part_head {n o : Nat} {cs : List Value} {y : DataW H × List MemPlace} (h : DataW.trod enc Tryz.prog w base spare held n 40 ((cs.drop o).take 7) = some y) :
    ∃ k0 k1 k2 k3 k4 k5 k6 : Int, cs[o + 0]? = some (.int .i64 k0) ∧ cs[o + 1]? = some (.int .i64 k1) ∧ cs[o + 2]? = some (.int .i64 k2) ∧ cs[o + 3]? = some (.int .i64 k3) ∧ cs[o + 4]? = some (.int .i64 k4) ∧ cs[o + 5]? = some (.int .i64 k5) ∧ cs[o + 6]? = some (.int .i64 k6) ∧ (-9223372036854775808 ≤ k0 ∧ k0 ≤ 9223372036854775807) ∧ (-9223372036854775808 ≤ k1 ∧ k1 ≤ 9223372036854775807) ∧ (-9223372036854775808 ≤ k2 ∧ k2 ≤ 9223372036854775807) ∧ (-9223372036854775808 ≤ k3 ∧ k3 ≤ 9223372036854775807) ∧ (-9223372036854775808 ≤ k4 ∧ k4 ≤ 9223372036854775807) ∧ (-9223372036854775808 ≤ k5 ∧ k5 ≤ 9223372036854775807) ∧ (-9223372036854775808 ≤ k6 ∧ k6 ≤ 9223372036854775807) := by
  obtain ⟨xs, m, _, _, _, hlen, hall⟩ := DataW.trod_struct Tryz.underlying40 h
  have hl : xs.length = 7 := hlen
  have h0 : DataW.trod enc Tryz.prog w base spare held m 3 ((((cs.drop o).take 7).drop 0).take (Tryz.prog.cellsOf 3)) = xs[0]? := hall 0 _ rfl
  simp only [cells1] at h0
  rw [List.getElem?_eq_getElem (by omega : 0 < xs.length)] at h0
  obtain ⟨k0, e0, b0⟩ := cell_int (o := 0) h0
  have h1 : DataW.trod enc Tryz.prog w base spare held m 3 ((((cs.drop o).take 7).drop 1).take (Tryz.prog.cellsOf 3)) = xs[1]? := hall 1 _ rfl
  simp only [cells1] at h1
  rw [List.getElem?_eq_getElem (by omega : 1 < xs.length)] at h1
  obtain ⟨k1, e1, b1⟩ := cell_int (o := 1) h1
  have h2 : DataW.trod enc Tryz.prog w base spare held m 3 ((((cs.drop o).take 7).drop 2).take (Tryz.prog.cellsOf 3)) = xs[2]? := hall 2 _ rfl
  simp only [cells1] at h2
  rw [List.getElem?_eq_getElem (by omega : 2 < xs.length)] at h2
  obtain ⟨k2, e2, b2⟩ := cell_int (o := 2) h2
  have h3 : DataW.trod enc Tryz.prog w base spare held m 3 ((((cs.drop o).take 7).drop 3).take (Tryz.prog.cellsOf 3)) = xs[3]? := hall 3 _ rfl
  simp only [cells1] at h3
  rw [List.getElem?_eq_getElem (by omega : 3 < xs.length)] at h3
  obtain ⟨k3, e3, b3⟩ := cell_int (o := 3) h3
  have h4 : DataW.trod enc Tryz.prog w base spare held m 3 ((((cs.drop o).take 7).drop 4).take (Tryz.prog.cellsOf 3)) = xs[4]? := hall 4 _ rfl
  simp only [cells1] at h4
  rw [List.getElem?_eq_getElem (by omega : 4 < xs.length)] at h4
  obtain ⟨k4, e4, b4⟩ := cell_int (o := 4) h4
  have h5 : DataW.trod enc Tryz.prog w base spare held m 3 ((((cs.drop o).take 7).drop 5).take (Tryz.prog.cellsOf 3)) = xs[5]? := hall 5 _ rfl
  simp only [cells1] at h5
  rw [List.getElem?_eq_getElem (by omega : 5 < xs.length)] at h5
  obtain ⟨k5, e5, b5⟩ := cell_int (o := 5) h5
  have h6 : DataW.trod enc Tryz.prog w base spare held m 3 ((((cs.drop o).take 7).drop 6).take (Tryz.prog.cellsOf 3)) = xs[6]? := hall 6 _ rfl
  simp only [cells1] at h6
  rw [List.getElem?_eq_getElem (by omega : 6 < xs.length)] at h6
  obtain ⟨k6, e6, b6⟩ := cell_int (o := 6) h6
  exact ⟨k0, k1, k2, k3, k4, k5, k6, by simpa using e0, by simpa using e1, by simpa using e2, by simpa using e3, by simpa using e4, by simpa using e5, by simpa using e6, b0, b1, b2, b3, b4, b5, b6⟩
theorem cells7 : Tryz.prog.cellsOf 40 = 7 := by kernel_rfl
theorem open_op {n : Nat} {cs : List Value} {x : DataW H × List MemPlace}
    (h : DataW.trod enc Tryz.prog w base spare held n 42 cs = some x) : ∃ q : Op15, q.Fit ∧ cs[0]? = some (.int .i64 q.ob) ∧ cs[1]? = some (.int .i64 q.fd) ∧ cs[2]? = some (.int .i64 q.ac) ∧ cs[3]? = some (.int .i64 q.md) ∧ cs[4]? = some (.int .i64 q.x.k) ∧ cs[5]? = some (.int .i64 q.x.n) ∧ cs[6]? = some (.int .i64 q.y.k) ∧ cs[7]? = some (.int .i64 q.y.n) ∧ cs[8]? = some (.int .i64 q.hS) ∧ cs[9]? = some (.int .i64 q.hC) ∧ cs[10]? = some (.int .i64 q.hN) ∧ cs[11]? = some (.int .i64 q.hM) ∧ cs[12]? = some (.int .i64 q.hG) ∧ cs[13]? = some (.int .i64 q.hT) ∧ cs[14]? = some (.int .i64 q.hL) := by
  obtain ⟨xs, m, _, _, _, hlen, hall⟩ := DataW.trod_struct Tryz.underlying42 h
  have hl : xs.length = 7 := hlen
  have h0 : DataW.trod enc Tryz.prog w base spare held m 3 ((cs.drop 0).take (Tryz.prog.cellsOf 3)) = xs[0]? := hall 0 _ rfl
  have h1 : DataW.trod enc Tryz.prog w base spare held m 3 ((cs.drop 1).take (Tryz.prog.cellsOf 3)) = xs[1]? := hall 1 _ rfl
  have h2 : DataW.trod enc Tryz.prog w base spare held m 3 ((cs.drop 2).take (Tryz.prog.cellsOf 3)) = xs[2]? := hall 2 _ rfl
  have h3 : DataW.trod enc Tryz.prog w base spare held m 3 ((cs.drop 3).take (Tryz.prog.cellsOf 3)) = xs[3]? := hall 3 _ rfl
  have h4 : DataW.trod enc Tryz.prog w base spare held m 38 ((cs.drop 4).take (Tryz.prog.cellsOf 38)) = xs[4]? := hall 4 _ rfl
  have h5 : DataW.trod enc Tryz.prog w base spare held m 38 ((cs.drop 6).take (Tryz.prog.cellsOf 38)) = xs[5]? := hall 5 _ rfl
  have h6 : DataW.trod enc Tryz.prog w base spare held m 40 ((cs.drop 8).take (Tryz.prog.cellsOf 40)) = xs[6]? := hall 6 _ rfl
  simp only [cells1, cells2, cells7] at h0 h1 h2 h3 h4 h5 h6
  rw [List.getElem?_eq_getElem (by omega : 0 < xs.length)] at h0
  rw [List.getElem?_eq_getElem (by omega : 1 < xs.length)] at h1
  rw [List.getElem?_eq_getElem (by omega : 2 < xs.length)] at h2
  rw [List.getElem?_eq_getElem (by omega : 3 < xs.length)] at h3
  rw [List.getElem?_eq_getElem (by omega : 4 < xs.length)] at h4
  rw [List.getElem?_eq_getElem (by omega : 5 < xs.length)] at h5
  rw [List.getElem?_eq_getElem (by omega : 6 < xs.length)] at h6
  obtain ⟨k0, e0, b0⟩ := cell_int (o := 0) h0
  obtain ⟨k1, e1, b1⟩ := cell_int (o := 1) h1
  obtain ⟨k2, e2, b2⟩ := cell_int (o := 2) h2
  obtain ⟨k3, e3, b3⟩ := cell_int (o := 3) h3
  obtain ⟨q1, e4, e5, f1⟩ := part_val (o := 4) h4
  obtain ⟨q2, e6, e7, f2⟩ := part_val (o := 6) h5
  obtain ⟨m0, m1, m2, m3, m4, m5, m6, e8, e9, e10, e11, e12, e13, e14, c0, c1, c2, c3, c4, c5, c6⟩ := part_head (o := 8) h6
  exact ⟨⟨k0, k1, k2, k3, q1, q2, m0, m1, m2, m3, m4, m5, m6⟩, ⟨b0, b1, b2, b3, f1, f2, c0, c1, c2, c3, c4, c5, c6⟩, e0, e1, e2, e3, e4, e5, e6, e7, e8, e9, e10, e11, e12, e13, e14⟩
theorem open_opv (hv : Value.okWide Tryz.prog w r b0 42 v) (h : DataW.Trod enc Tryz.prog w base spare held 42 v d p) :
    ∃ q : Op15, v = .agg q.cells ∧ q.Fit := by
  obtain ⟨cs, rfl, hsz⟩ := okWide_struct Tryz.underlying42 hv
  obtain ⟨fuel, hf⟩ := h
  obtain ⟨q, hq, e0, e1, e2, e3, e4, e5, e6, e7, e8, e9, e10, e11, e12, e13, e14⟩ := open_op hf
  have hs9 : cs.size = 15 := hsz.trans (by kernel_rfl)
  obtain ⟨l⟩ := cs
  match l, hs9 with
  | [c0, c1, c2, c3, c4, c5, c6, c7, c8, c9, c10, c11, c12, c13, c14], _ =>
    simp [Value.cells] at e0 e1 e2 e3 e4 e5 e6 e7 e8 e9 e10 e11 e12 e13 e14
    subst e0 e1 e2 e3 e4 e5 e6 e7 e8 e9 e10 e11 e12 e13 e14
    exact ⟨q, rfl, hq⟩
end
end Go.Proofs.YtpcoldpphihfmaaGreatDoor
