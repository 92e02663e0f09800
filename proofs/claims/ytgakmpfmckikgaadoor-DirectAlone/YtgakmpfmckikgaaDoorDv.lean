/-
  A list of values that came in; what the laws make of a value.
-/
import Derived.Test.YtgakmpfmckikgaaDoorDd
import Derived.Test.YtgakmpfmckikgaaDoorOi
namespace Go.Proofs.YtgakmpfmckikgaaDoor
set_option linter.unusedVariables false
set_option maxRecDepth 100000
open Go.ChangeShapes Go.WideShapes Go.RowKit

/-- its numbers are an int's -/
structure Vl.Fit (v : Vl) : Prop where
  k0 : -9223372036854775808 ≤ v.k
  k1 : v.k ≤ 9223372036854775807
  n0 : -9223372036854775808 ≤ v.n
  n1 : v.n ≤ 9223372036854775807
/-- a list of values that came in -/
def CameV (w : World) (ao : Option Addr) (len : Nat) (z : Nat → Vl) : Prop := len = 0 ∨ ∃ b off, ao = some ⟨b, off, none⟩ ∧ b < w.heap.size ∧ ∀ j, j < len → w.cell? ⟨b, off + j * 2, none⟩ = some (.int .i64 (z j).k) ∧ w.cell? ⟨b, off + (j * 2 + 1), none⟩ = some (.int .i64 (z j).n) ∧ (z j).Fit
theorem CameV.on {w w' : World} {ao : Option Addr} {len : Nat} {z : Nat → Vl} (h : CameV w ao len z) (k : Below w.heap.size w w') : CameV w' ao len z := by
  rcases h with h | ⟨b, off, rfl, hb, h⟩
  · exact .inl h
  · exact .inr ⟨b, off, rfl, Nat.lt_of_lt_of_le hb k.size, fun j hj => ⟨(k.cell hb).trans (h j hj).1, (k.cell hb).trans (h j hj).2.1, (h j hj).2.2⟩⟩
theorem kd_lt (c n : Int) (h : 0 < n) : 0 ≤ kd c n ∧ kd c n < n := by
  unfold kd
  exact ⟨Int.emod_nonneg _ (by omega), Int.emod_lt_of_pos _ h⟩
/-- the value that the laws make of one -/
def valP (v : Vl) : Vl := if kd v.k 2 = 0 then ⟨0, kd v.n 1000⟩ else if kd v.n 17 = 16 then ⟨1, 0⟩ else ⟨1, 96 + 4 * kd v.n 17⟩
set_option maxHeartbeats 400000 in
theorem cVal (v : Vl) (f : v.Fit) (w : World) : Calls Tryd.prog 18 #[.agg #[.int .i64 v.k, .int .i64 v.n]] w fun e w' => e = .returned (.agg #[.int .i64 (valP v).k, .int .i64 (valP v).n]) ∧ Below w.heap.size w w' := by
  have a1 := kd_lt v.k 2 (by decide)
  have a2 := kd_lt v.n 1000 (by decide)
  have a3 := kd_lt v.n 17 (by decide)
  unfold valP
  obtain ⟨x, hx⟩ : ∃ x, kd v.k 2 = x := ⟨_, rfl⟩
  obtain ⟨y, hy⟩ : ∃ y, kd v.n 1000 = y := ⟨_, rfl⟩
  obtain ⟨u, hu⟩ : ∃ u, kd v.n 17 = u := ⟨_, rfl⟩
  rw [hx, hy, hu]
  rw [hx] at a1
  rw [hu] at a3
  clear a2
  by_cases h1 : x = 0
  · rw [if_pos h1]
    have q1 : (x == 0) = true := by simp [h1]
    clear h1 a1
    go_enter Tryd.func18, Tryd.ntmps18
    go_wp2_with (first
      | (go_at_call_of 10 (Value.int .i64 v.k); refine (cKind _ v.k 2 f.k0 f.k1 (by decide)).mono ?_; rintro e w1 ⟨rfl, hw1⟩; rw [hw1, hx]; clear hw1 w1)
      | (go_at_call 10; refine (cKind _ v.n 1000 f.n0 f.n1 (by decide)).mono ?_; rintro e w1 ⟨rfl, hw1⟩; rw [hw1, hy]; clear hw1 w1))
    exact bodyPost_ret (v := .agg #[.int .i64 0, .int .i64 y]) (by simp [results, Tryd.results18, go_sem]) rfl ⟨rfl, by go_grown⟩
  · rw [if_neg h1]
    have q1 : (x == 0) = false := by simpa using h1
    clear h1 a1
    by_cases h2 : u = 16
    · rw [if_pos h2]
      have q2 : (u == 16) = true := by simp [h2]
      clear h2 a3
      go_enter Tryd.func18, Tryd.ntmps18
      go_wp2_with (first
        | (go_at_call_of 10 (Value.int .i64 v.k); refine (cKind _ v.k 2 f.k0 f.k1 (by decide)).mono ?_; rintro e w1 ⟨rfl, hw1⟩; rw [hw1, hx]; clear hw1 w1)
        | (go_at_call 10; refine (cKind _ v.n 17 f.n0 f.n1 (by decide)).mono ?_; rintro e w1 ⟨rfl, hw1⟩; rw [hw1, hu]; clear hw1 w1))
      exact bodyPost_ret (v := .agg #[.int .i64 1, .int .i64 0]) (by simp [results, Tryd.results18, go_sem]) rfl ⟨rfl, by go_grown⟩
    · rw [if_neg h2]
      have q2 : (u == 16) = false := by simpa using h2
      clear h2
      go_enter Tryd.func18, Tryd.ntmps18
      go_wp2_with (first
        | (go_at_call_of 10 (Value.int .i64 v.k); refine (cKind _ v.k 2 f.k0 f.k1 (by decide)).mono ?_; rintro e w1 ⟨rfl, hw1⟩; rw [hw1, hx]; clear hw1 w1)
        | (go_at_call 10; refine (cKind _ v.n 17 f.n0 f.n1 (by decide)).mono ?_; rintro e w1 ⟨rfl, hw1⟩; rw [hw1, hu]; clear hw1 w1))
      exact bodyPost_ret (v := .agg #[.int .i64 1, .int .i64 (96 + 4 * u)]) (by simp [results, Tryd.results18, go_sem]) rfl ⟨rfl, by go_grown⟩
end Go.Proofs.YtgakmpfmckikgaaDoor
