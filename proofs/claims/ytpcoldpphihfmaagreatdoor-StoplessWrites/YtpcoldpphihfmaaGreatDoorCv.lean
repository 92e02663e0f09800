/-
  A list of values that came in; what the laws make of a value.
-/
import Derived.Test.YtpcoldpphihfmaaGreatDoorDm
import Derived.Test.YtpcoldpphihfmaaGreatDoorOwn
import Derived.Test.YtpcoldpphihfmaaGreatDoorOi
namespace Go.Proofs.YtpcoldpphihfmaaGreatDoor
set_option linter.unusedVariables false
set_option maxRecDepth 100000
open Go.ChangeShapes Go.WideShapes Go.RowKit

/-- its numbers are an int's -/
structure Vl.Fit (v : Vl) : Prop where
  k0 : -9223372036854775808 ≤ v.k
  k1 : v.k ≤ 9223372036854775807
  n0 : -9223372036854775808 ≤ v.n
  n1 : v.n ≤ 9223372036854775807
/-- a list of values that came in -/
def CameV (w : World) (ao : Option Addr) (len : Nat) (z : Nat → Vl) : Prop := len = 0 ∨ ∃ b off, ao = some ⟨b, off, none⟩ ∧ b < w.heap.size ∧ ∀ j, j < len → w.cell? ⟨b, off + j * 2, none⟩ = some (.int .i64 (z j).k) ∧ w.cell? ⟨b, off + (j * 2 + 1), none⟩ = some (.int .i64 (z j).n) ∧ (z j).Fit
theorem CameV.on {w w' : World} {ao : Option Addr} {len : Nat} {z : Nat → Vl} (h : CameV w ao len z) (k : Below w.heap.size w w') : CameV w' ao len z := by
  rcases h with h | ⟨b, off, rfl, hb, h⟩
  · exact .inl h
  · exact .inr ⟨b, off, rfl, Nat.lt_of_lt_of_le hb k.size, fun j hj => ⟨(k.cell hb).trans (h j hj).1, (k.cell hb).trans (h j hj).2.1, (h j hj).2.2⟩⟩
theorem kd_lt (c n : Int) (h : 0 < n) : 0 ≤ kd c n ∧ kd c n < n := by
  unfold kd
  exact ⟨Int.emod_nonneg _ (by omega), Int.emod_lt_of_pos _ h⟩
/-- which object, of three -/
def obP (u : Int) : Int := if u = 0 then 96 else if u = 1 then 100 else 112
/-- the value that the laws make of one -/
def valP (v : Vl) : Vl := if kd v.k 3 = 0 then ⟨0, kd v.n 10⟩ else if kd v.k 3 = 1 then ⟨1, 0⟩ else ⟨1, obP (kd v.n 3)⟩
set_option maxHeartbeats 1000000 in
theorem cVal (v : Vl) (f : v.Fit) (w : World) : Calls Tryz.prog 28 #[.agg #[.int .i64 v.k, .int .i64 v.n]] w fun e w' => e = .returned (.agg #[.int .i64 (valP v).k, .int .i64 (valP v).n]) ∧ Below w.heap.size w w' := by
  have a3 := kd_lt v.n 3 (by decide)
  unfold valP
  obtain ⟨x, hx⟩ : ∃ x, kd v.k 3 = x := ⟨_, rfl⟩
  obtain ⟨y, hy⟩ : ∃ y, kd v.n 10 = y := ⟨_, rfl⟩
  obtain ⟨u, hu⟩ : ∃ u, kd v.n 3 = u := ⟨_, rfl⟩
  rw [hx, hy, hu]
  rw [hu] at a3
  by_cases h1 : x = 0
  · rw [if_pos h1]
    have q1 : (x == 0) = true := by simp [h1]
    clear h1 a3
    go_enter Tryz.func28, Tryz.ntmps28
    go_wp2_with (first
      | (go_at_call_of 11 (Value.int .i64 v.k); refine (cKind _ v.k 3 f.k0 f.k1 (by decide)).mono ?_; rintro e w1 ⟨rfl, hw1⟩; rw [hw1, hx]; clear hw1 w1)
      | (go_at_call 11; refine (cKind _ v.n 10 f.n0 f.n1 (by decide)).mono ?_; rintro e w1 ⟨rfl, hw1⟩; rw [hw1, hy]; clear hw1 w1))
    exact bodyPost_ret (v := .agg #[.int .i64 0, .int .i64 y]) (by simp [results, Tryz.results28, go_sem]) rfl ⟨rfl, by go_grown⟩
  · rw [if_neg h1]
    have q1 : (x == 0) = false := by simpa using h1
    clear h1
    by_cases h2 : x = 1
    · rw [if_pos h2]
      have q2 : (x == 1) = true := by simp [h2]
      clear h2 a3
      go_enter Tryz.func28, Tryz.ntmps28
      go_wp2_with (go_at_call_of 11 (Value.int .i64 v.k); refine (cKind _ v.k 3 f.k0 f.k1 (by decide)).mono ?_; rintro e w1 ⟨rfl, hw1⟩; rw [hw1, hx]; clear hw1 w1)
      exact bodyPost_ret (v := .agg #[.int .i64 1, .int .i64 0]) (by simp [results, Tryz.results28, go_sem]) rfl ⟨rfl, by go_grown⟩
    · rw [if_neg h2]
      have q2 : (x == 1) = false := by simpa using h2
      clear h2
      rcases (show u = 0 ∨ u = 1 ∨ u = 2 by omega) with rfl | rfl | rfl
      · rw [show obP 0 = 96 from rfl]
        go_enter Tryz.func28, Tryz.ntmps28
        go_wp2_with (first
          | (go_at_call_of 11 (Value.int .i64 v.k); refine (cKind _ v.k 3 f.k0 f.k1 (by decide)).mono ?_; rintro e w1 ⟨rfl, hw1⟩; rw [hw1, hx]; clear hw1 w1)
          | (go_at_call 11; refine (cKind _ v.n 3 f.n0 f.n1 (by decide)).mono ?_; rintro e w1 ⟨rfl, hw1⟩; rw [hw1, hu]; clear hw1 w1))
        exact bodyPost_ret (v := .agg #[.int .i64 1, .int .i64 96]) (by simp [results, Tryz.results28, go_sem]) rfl ⟨rfl, by go_grown⟩
      · rw [show obP 1 = 100 from rfl]
        go_enter Tryz.func28, Tryz.ntmps28
        go_wp2_with (first
          | (go_at_call_of 11 (Value.int .i64 v.k); refine (cKind _ v.k 3 f.k0 f.k1 (by decide)).mono ?_; rintro e w1 ⟨rfl, hw1⟩; rw [hw1, hx]; clear hw1 w1)
          | (go_at_call 11; refine (cKind _ v.n 3 f.n0 f.n1 (by decide)).mono ?_; rintro e w1 ⟨rfl, hw1⟩; rw [hw1, hu]; clear hw1 w1))
        exact bodyPost_ret (v := .agg #[.int .i64 1, .int .i64 100]) (by simp [results, Tryz.results28, go_sem]) rfl ⟨rfl, by go_grown⟩
      · rw [show obP 2 = 112 from rfl]
        go_enter Tryz.func28, Tryz.ntmps28
        go_wp2_with (first
          | (go_at_call_of 11 (Value.int .i64 v.k); refine (cKind _ v.k 3 f.k0 f.k1 (by decide)).mono ?_; rintro e w1 ⟨rfl, hw1⟩; rw [hw1, hx]; clear hw1 w1)
          | (go_at_call 11; refine (cKind _ v.n 3 f.n0 f.n1 (by decide)).mono ?_; rintro e w1 ⟨rfl, hw1⟩; rw [hw1, hu]; clear hw1 w1))
        exact bodyPost_ret (v := .agg #[.int .i64 1, .int .i64 112]) (by simp [results, Tryz.results28, go_sem]) rfl ⟨rfl, by go_grown⟩
/-- what a law's field may have -/
structure Vl.Good (v : Vl) : Prop where
  k : v.k = 0 ∨ v.k = 1
  n0 : 0 ≤ v.n
  n1 : v.n < 1000
  far : v.far = true → v.n = 96 ∨ v.n = 100 ∨ v.n = 112
theorem of_w {v : Vl} (hk : 0 ≤ v.k ∧ v.k < 4) (hn : 0 ≤ v.n ∧ v.n < 2305843009213693952) : Vl.of v.w = v := by
  obtain ⟨k, n⟩ := v
  simp only at hk hn
  simp only [Vl.of, Vl.w, F.Plain.kind, F.Plain.num, F.Plain.word, Vl.mk.injEq]
  constructor <;> omega
theorem Vl.Good.of {v : Vl} (h : v.Good) : Vl.of v.w = v := of_w (by rcases h.k with h | h <;> omega) ⟨h.n0, by have := h.n1; omega⟩
theorem good_zero : Vl.zero.Good := ⟨.inl rfl, by decide, by decide, fun h => by simp [Vl.far, Vl.zero] at h⟩
theorem good_valP (v : Vl) : (valP v).Good := by
  have a2 := kd_lt v.n 10 (by decide)
  have a3 := kd_lt v.n 3 (by decide)
  unfold valP
  split
  · exact ⟨.inl rfl, a2.1, by simp only; omega, fun h => by simp [Vl.far] at h⟩
  · split
    · exact ⟨.inr rfl, by simp, by simp, fun h => by simp [Vl.far] at h⟩
    · refine ⟨.inr rfl, ?_, ?_, fun _ => ?_⟩
      · simp only [obP]; split; decide; split <;> decide
      · simp only [obP]; split; decide; split <;> decide
      · simp only [obP]; split; exact .inl rfl; split; exact .inr (.inl rfl); exact .inr (.inr rfl)
end Go.Proofs.YtpcoldpphihfmaaGreatDoor
