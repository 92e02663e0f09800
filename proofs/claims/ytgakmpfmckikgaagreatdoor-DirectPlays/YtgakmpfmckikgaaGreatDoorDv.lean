/-
  A list of values that came in; what the laws make of a value.
-/
import Derived.Test.YtgakmpfmckikgaaGreatDoorHCalls
import Derived.Test.YtgakmpfmckikgaaGreatDoorTie
import Derived.Lib.SmallJoins
import Derived.LaidMore
import Derived.Carry
import Derived.ChangeOld
import Derived.Deep.Slices
import Derived.ProofKit
import Derived.Test.YtgakmpfmckikgaaGreatDoorDd
namespace Go.Proofs.YtgakmpfmckikgaaGreatDoor
set_option maxRecDepth 100000
open Go.ChangeShapes Go.WideShapes Go.ChangeAt Go.RowKit Go.Joins Go.Deep

theorem own : ownKnob Tryz.prog.godebug = none := by kernel_rfl
theorem laidOut : laidOutB Tryz.prog = true := by kernel_rfl

theorem gWidths : Tryz.prog.globalNamed "flit/head.widths" = some 0 := by kernel_rfl
theorem tWidths : (Tryz.prog.globals[0]?).map (·.type) = some 128 := by kernel_rfl

/-- the heap that the door's own run leaves meets the condition -/
theorem door_met (os : Os) (args : Array Value) : laidMetH Tryz.prog [("flit/head.widths", Rows.laid_flit_head_widths)] ((World.doorLaid Tryz.prog 14 os).forCall (fun _ _ => 0) ⟨#[], args, []⟩).memory :=
  laidMetH_of_parts3 (fuel := 8) (laidMet_of_run' 8 (by kernel_rfl) (by kernel_rfl)) (by kernel_rfl) (by kernel_rfl)

/-- what the condition gives the walks: the table's seven cells -/
theorem of_laid {W : World} (h : laidMetH Tryz.prog [("flit/head.widths", Rows.laid_flit_head_widths)] W) : H.Wid W := by
  rw [MakeChecks.laidMetH_plain _ _ _ (by kernel_rfl)] at h
  obtain ⟨ps, ⟨g0, t0, cs0, f0, p0, q0, hg0, ht0, hv0, hd0, _, _⟩, _, _⟩ := h
  obtain rfl := Option.some.inj (gWidths.symm.trans hg0)
  obtain rfl := Option.some.inj (tWidths.symm.trans ht0)
  obtain ⟨xs, m1, rfl, hx1, hlen, hn3, hel⟩ := DataW.trod_array Tryz.underlying128 hd0
  have c3 : Tryz.prog.cellsOf 3 = 1 := by kernel_rfl
  simp only [Prod.mk.injEq, Rows.laid_flit_head_widths, DataW.agg.injEq] at hx1
  have key : ∀ (i : Nat) (k : Int), i < 7 → ([.lit (.int .i64 2), .lit (.int .i64 2), .lit (.int .i64 3), .lit (.int .i64 1), .lit (.int .i64 1), .lit (.int .i64 3), .lit (.int .i64 12)] : List (DataW Unit))[i]? = some (.lit (.int .i64 k)) → W.cell? ⟨0, i, none⟩ = some (.int .i64 k) := by
    intro i k hi hk
    have h0 := hel i hi
    have hlt : i < xs.length := by omega
    rw [List.getElem?_eq_getElem hlt, c3, Nat.mul_one] at h0
    obtain ⟨k', e1, e2, _⟩ := DataW.trod_int Tryz.underlying3 h0
    rw [hx1.1, List.getElem?_map, List.getElem?_eq_getElem hlt, e2] at hk
    simp at hk
    subst hk
    rw [World.var?_cell hg0 hv0 i]
    have := congrArg (fun l => l[0]?) e1
    simpa using this
  have a0 := key 0 2 (by decide) rfl
  exact ⟨World.block_lt_of_cell? _ _ a0, a0, key 1 2 (by decide) rfl, key 2 3 (by decide) rfl, key 3 1 (by decide) rfl, key 4 1 (by decide) rfl, key 5 3 (by decide) rfl, key 6 12 (by decide) rfl⟩
theorem field_int {H : Type} {enc : TypeId × Value → H} {P : Program} {w : World} {base : Nat} {spare : Nat → Bool} {held : Bool} {n : Nat} {fs : Array Field} {cs : List Value} {xs : List (DataW H × List MemPlace)}
    (hone : oneCellFields P fs = true) (hlen : xs.length = fs.size)
    (hf : ∀ (i : Nat) (f : Field), fs[i]? = some f → DataW.trod enc P w base spare held n f.type ((cs.drop f.offset).take (P.cellsOf f.type)) = xs[i]?)
    (i : Nat) (f : Field) (hi : fs[i]? = some f) (ht : P.underlying f.type = some (.int .i64)) : ∃ k, cs[i]? = some (.int .i64 k) := by
  obtain ⟨o, c1⟩ := hone_of hone i f hi
  have hlt : i < xs.length := by rw [hlen]; exact (Array.getElem?_eq_some_iff.1 hi).1
  have h := hf i f hi
  rw [o, c1, List.getElem?_eq_getElem hlt] at h
  obtain ⟨k, e, _, _⟩ := DataW.trod_int ht h
  refine ⟨k, ?_⟩
  have := congrArg (fun l => l[0]?) e
  simpa using this

end Go.Proofs.YtgakmpfmckikgaaGreatDoor

namespace Go.Proofs.YtgakmpfmckikgaaGreatDoor
set_option linter.unusedVariables false
open Go.ChangeShapes Go.WideShapes Go.ChangeAt Go.RowKit Go.Joins Go.Deep

theorem cells1 : Tryz.prog.cellsOf 3 = 1 := by kernel_rfl
/-- a list of numbers that came in -/
def CameI (w : World) (ao : Option Addr) (len : Nat) (z : Nat → Int) : Prop := len = 0 ∨ ∃ b off, ao = some ⟨b, off, none⟩ ∧ b < w.heap.size ∧ ∀ j, j < len → w.cell? ⟨b, off + j, none⟩ = some (.int .i64 (z j)) ∧ -9223372036854775808 ≤ z j ∧ z j ≤ 9223372036854775807
theorem CameI.on {w w' : World} {ao : Option Addr} {len : Nat} {z : Nat → Int} (h : CameI w ao len z) (k : Below w.heap.size w w') : CameI w' ao len z := by
  rcases h with h | ⟨b, off, rfl, hb, h⟩
  · exact .inl h
  · exact .inr ⟨b, off, rfl, Nat.lt_of_lt_of_le hb k.size, fun j hj => ⟨(k.cell hb).trans (h j hj).1, (h j hj).2⟩⟩
set_option maxRecDepth 100000 in
theorem open_slice {H : Type} {enc : TypeId × Value → H} {w : World} {base : Nat} {held : Bool} {r : Reach} {b0 : Nat} {v : Value} {d : DataW H} {p : List MemPlace}
    (hv : Value.okWide Tryz.prog w r b0 22 v) (h : DataW.Trod enc Tryz.prog w base (fun _ => true) held 22 v d p) (lt : ∀ x ∈ p, x.block < w.heap.size) :
    ∃ ao len cap z, v = .slice ao len cap ∧ CameI w ao len z := by
  obtain ⟨a0, len, cap, rfl⟩ := okWide_slice Tryz.underlying22 hv
  obtain ⟨fuel, hf⟩ := h
  rcases open_ints Tryz.underlying22 Tryz.underlying3 cells1 hf with ⟨hcs, hx⟩ | ⟨a, len', cap', zs, hcs, _, hl, hm, hz, hx, hcell, hwz⟩
  · simp [Value.cells] at hcs
    obtain ⟨rfl, rfl, rfl⟩ := hcs
    exact ⟨_, _, _, fun _ => 0, rfl, Or.inl rfl⟩
  · simp [Value.cells] at hcs
    obtain ⟨rfl, rfl, rfl⟩ := hcs
    simp only [Prod.mk.injEq] at hx
    obtain ⟨rfl, rfl⟩ := hx
    simp only [if_true] at hz
    refine ⟨_, _, _, fun j => zs.getD j 0, rfl, ?_⟩
    by_cases hl0 : len = 0
    · exact Or.inl hl0
    · obtain ⟨b, off, spot⟩ := a
      have hspot : spot = none := by simpa [Addr.add] using World.cell?_spot (hcell 0 (by omega))
      subst hspot
      refine Or.inr ⟨b, off, rfl, lt (.cell b off) (MemPlace.mem_row.2 ⟨0, by omega, by simp⟩), fun j hj => ⟨by rw [← add_plain]; exact hcell j (by omega), ?_⟩⟩
      have hj' : j < zs.length := by omega
      have := hwz (zs.getD j 0) (by rw [List.getD_eq_getElem?_getD, List.getElem?_eq_getElem hj']; exact List.getElem_mem _)
      exact bounds_i64 this
end Go.Proofs.YtgakmpfmckikgaaGreatDoor

namespace Go.Proofs.YtgakmpfmckikgaaGreatDoor
set_option linter.unusedVariables false
set_option maxRecDepth 100000
open Go.ChangeShapes Go.WideShapes Go.RowKit

/-- its numbers are an int's -/
structure Vl.Fit (v : Vl) : Prop where
  k0 : -9223372036854775808 ≤ v.k
  k1 : v.k ≤ 9223372036854775807
  n0 : -9223372036854775808 ≤ v.n
  n1 : v.n ≤ 9223372036854775807
/-- a list of values that came in -/
def CameV (w : World) (ao : Option Addr) (len : Nat) (z : Nat → Vl) : Prop := len = 0 ∨ ∃ b off, ao = some ⟨b, off, none⟩ ∧ b < w.heap.size ∧ ∀ j, j < len → w.cell? ⟨b, off + j * 2, none⟩ = some (.int .i64 (z j).k) ∧ w.cell? ⟨b, off + (j * 2 + 1), none⟩ = some (.int .i64 (z j).n) ∧ (z j).Fit
theorem CameV.on {w w' : World} {ao : Option Addr} {len : Nat} {z : Nat → Vl} (h : CameV w ao len z) (k : Below w.heap.size w w') : CameV w' ao len z := by
  rcases h with h | ⟨b, off, rfl, hb, h⟩
  · exact .inl h
  · exact .inr ⟨b, off, rfl, Nat.lt_of_lt_of_le hb k.size, fun j hj => ⟨(k.cell hb).trans (h j hj).1, (k.cell hb).trans (h j hj).2.1, (h j hj).2.2⟩⟩
theorem kd_lt (c n : Int) (h : 0 < n) : 0 ≤ kd c n ∧ kd c n < n := by
  unfold kd
  exact ⟨Int.emod_nonneg _ (by omega), Int.emod_lt_of_pos _ h⟩
/-- the value that the laws make of one -/
def valP (v : Vl) : Vl := if kd v.k 2 = 0 then ⟨0, kd v.n 1000⟩ else if kd v.n 17 = 16 then ⟨1, 0⟩ else ⟨1, 96 + 4 * kd v.n 17⟩
set_option maxHeartbeats 400000 in
theorem cVal (v : Vl) (f : v.Fit) (w : World) : Calls Tryz.prog 25 #[.agg #[.int .i64 v.k, .int .i64 v.n]] w fun e w' => e = .returned (.agg #[.int .i64 (valP v).k, .int .i64 (valP v).n]) ∧ Below w.heap.size w w' := by
  have a1 := kd_lt v.k 2 (by decide)
  have a2 := kd_lt v.n 1000 (by decide)
  have a3 := kd_lt v.n 17 (by decide)
  unfold valP
  obtain ⟨x, hx⟩ : ∃ x, kd v.k 2 = x := ⟨_, rfl⟩
  obtain ⟨y, hy⟩ : ∃ y, kd v.n 1000 = y := ⟨_, rfl⟩
  obtain ⟨u, hu⟩ : ∃ u, kd v.n 17 = u := ⟨_, rfl⟩
  rw [hx, hy, hu]
  rw [hx] at a1
  rw [hu] at a3
  clear a2
  by_cases h1 : x = 0
  · rw [if_pos h1]
    have q1 : (x == 0) = true := by simp [h1]
    clear h1 a1
    go_enter Tryz.func25, Tryz.ntmps25
    go_wp2_with (first
      | (go_at_call_of 6 (Value.int .i64 v.k); refine (cKind _ v.k 2 f.k0 f.k1 (by decide)).mono ?_; rintro e w1 ⟨rfl, hw1⟩; rw [hw1, hx]; clear hw1 w1)
      | (go_at_call 6; refine (cKind _ v.n 1000 f.n0 f.n1 (by decide)).mono ?_; rintro e w1 ⟨rfl, hw1⟩; rw [hw1, hy]; clear hw1 w1))
    exact bodyPost_ret (v := .agg #[.int .i64 0, .int .i64 y]) (by simp [results, Tryz.results25, go_sem]) rfl ⟨rfl, by go_grown⟩
  · rw [if_neg h1]
    have q1 : (x == 0) = false := by simpa using h1
    clear h1 a1
    by_cases h2 : u = 16
    · rw [if_pos h2]
      have q2 : (u == 16) = true := by simp [h2]
      clear h2 a3
      go_enter Tryz.func25, Tryz.ntmps25
      go_wp2_with (first
        | (go_at_call_of 6 (Value.int .i64 v.k); refine (cKind _ v.k 2 f.k0 f.k1 (by decide)).mono ?_; rintro e w1 ⟨rfl, hw1⟩; rw [hw1, hx]; clear hw1 w1)
        | (go_at_call 6; refine (cKind _ v.n 17 f.n0 f.n1 (by decide)).mono ?_; rintro e w1 ⟨rfl, hw1⟩; rw [hw1, hu]; clear hw1 w1))
      exact bodyPost_ret (v := .agg #[.int .i64 1, .int .i64 0]) (by simp [results, Tryz.results25, go_sem]) rfl ⟨rfl, by go_grown⟩
    · rw [if_neg h2]
      have q2 : (u == 16) = false := by simpa using h2
      clear h2
      go_enter Tryz.func25, Tryz.ntmps25
      go_wp2_with (first
        | (go_at_call_of 6 (Value.int .i64 v.k); refine (cKind _ v.k 2 f.k0 f.k1 (by decide)).mono ?_; rintro e w1 ⟨rfl, hw1⟩; rw [hw1, hx]; clear hw1 w1)
        | (go_at_call 6; refine (cKind _ v.n 17 f.n0 f.n1 (by decide)).mono ?_; rintro e w1 ⟨rfl, hw1⟩; rw [hw1, hu]; clear hw1 w1))
      exact bodyPost_ret (v := .agg #[.int .i64 1, .int .i64 (96 + 4 * u)]) (by simp [results, Tryz.results25, go_sem]) rfl ⟨rfl, by go_grown⟩
end Go.Proofs.YtgakmpfmckikgaaGreatDoor
