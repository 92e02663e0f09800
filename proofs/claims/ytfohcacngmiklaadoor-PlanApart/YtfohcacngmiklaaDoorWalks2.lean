/-
  A plan that New made, by its letters; the walk of the law on whose an address is: it returns true, and writes nothing that was there.
-/
import Derived.Test.YtfohcacngmiklaaDoorCalls2
namespace Go.Proofs.YtfohcacngmiklaaDoor
set_option linter.unusedVariables false
open Go.ChangeShapes Go.WideShapes Go.ChangeAt Go.RowKit
open Plain

/-- the numbers of a plan fit together -/
structure Fits (T B D H S : Int) : Prop where
  t0 : 1 ≤ T
  t1 : T ≤ 64
  b0 : 1 ≤ B
  b1 : B ≤ 64
  d0 : 10 + T ≤ D
  d1 : D ≤ 10 + T
  h0 : D + B ≤ H
  h1 : H ≤ 160
  h2 : H % 32 = 0
  s0 : H + 32 * B ≤ S
  s1 : S ≤ H + 32 * B

theorem gNew (x y : Int) (x0 : 0 ≤ x) (x1 : x ≤ 63) (y0 : 0 ≤ y) (y1 : y ≤ 63) (w : World) :
    Calls Tryd.prog 10 #[.int .i64 (1 + x), .int .i64 (1 + y)] w fun e w' => ∃ T B D H S, e = .returned (.tuple #[.agg #[.int .i64 T, .int .i64 B, .int .i64 D, .int .i64 H, .int .i64 S], .int .i64 0]) ∧ Fits T B D H S ∧ w' = w.alloc (.cells #[.int .i64 T, .int .i64 B, .int .i64 D, .int .i64 H, .int .i64 S] 24) :=
  (cNew (1 + x) (1 + y) (by omega) (by omega) (by omega) (by omega) w).mono fun e w' ⟨he, hw⟩ =>
    ⟨_, _, _, _, _, he, by
      obtain ⟨g1, g2, g3, g4, g5⟩ := hp_bounds (t := 1 + x) (b := 1 + y) (by omega) (by omega) (by omega) (by omega)
      exact ⟨by omega, by omega, by omega, by omega, by omega, by omega, g1, g5, g3, by omega, by omega⟩, hw⟩

theorem gBlockI (T B D H S a : Int) (F : Fits T B D H S) (h : H ≤ a) (h' : a < S) (w : World) :
    Calls Tryd.prog 18 #[.agg #[.int .i64 T, .int .i64 B, .int .i64 D, .int .i64 H, .int .i64 S], .int .i64 a] w fun e w' => ∃ q, e = .returned (.int .i64 q) ∧ 0 ≤ q ∧ q < B ∧ H + 32 * q ≤ a ∧ a < H + 32 * q + 32 ∧ w' = w.alloc (.cells #[.int .i64 T, .int .i64 B, .int .i64 D, .int .i64 H, .int .i64 S] 24) := by
  obtain ⟨t0, t1, b0, b1, d0, d1, g0, g1, g2, s0, s1⟩ := F
  exact (cBlockI T B D H S a (by omega) (by omega) (by omega) (by omega) h h' w).mono fun e w' ⟨he, hw⟩ => ⟨_, he, by omega, by omega, by omega, by omega, hw⟩
theorem gBlockO (T B D H S a : Int) (F : Fits T B D H S) (h : a < H ∨ S ≤ a) (w : World) :
    Calls Tryd.prog 18 #[.agg #[.int .i64 T, .int .i64 B, .int .i64 D, .int .i64 H, .int .i64 S], .int .i64 a] w fun e w' => e = .returned (.int .i64 (-1)) ∧ w' = w.alloc (.cells #[.int .i64 T, .int .i64 B, .int .i64 D, .int .i64 H, .int .i64 S] 24) := by
  obtain ⟨t0, t1, b0, b1, d0, d1, g0, g1, g2, s0, s1⟩ := F
  rcases h with h | h
  · exact cBlockL T B D H S a (by omega) (by omega) (by omega) (by omega) h w
  · exact cBlockH T B D H S a (by omega) (by omega) (by omega) (by omega) (by omega) h w

theorem gCell0 (T B D H S q : Int) (F : Fits T B D H S) (h : 0 ≤ q) (h' : q < B) (w : World) (W : Wid w) :
    Calls Tryd.prog 24 #[.agg #[.int .i64 T, .int .i64 B, .int .i64 D, .int .i64 H, .int .i64 S], .int .i64 q, .int .i64 0, .int .i64 0] w fun e w' => e = .returned (.int .i64 (H + 32 * q)) ∧ Below w.heap.size w w' := by
  obtain ⟨t0, t1, b0, b1, d0, d1, g0, g1, g2, s0, s1⟩ := F
  exact (cCell T B D H S q 0 0 (by omega) (by omega) h (by omega) (by omega) (by omega) w W).mono fun e w' ⟨he, hw⟩ => ⟨by rw [he, Int.zero_mul, Int.add_zero], hw⟩

/-- the masked number -/
theorem mask (t : Int) : ∃ x, bits BinOp.and IntKind.i64 t 63 = x ∧ 0 ≤ x ∧ x ≤ 63 := ⟨_, and63 t, by omega, by omega⟩

set_option maxHeartbeats 800000 in
theorem wBlocks (t b a : Int) (w : World) (W : Wid w) :
    Calls Tryd.prog 8 #[.int .i64 t, .int .i64 b, .int .i64 a] w fun e w' => e = .returned (.bool true) ∧ Below w.heap.size w w' := by
  obtain ⟨x, hx, x0, x1⟩ := mask t
  obtain ⟨y, hy, y0, y1⟩ := mask b
  go_enter Tryd.func8, Tryd.ntmps8
  go_wp2_with (first
    | (go_at_call 9; refine (cShown _ W).mono ?_; rintro e w1 ⟨rfl, hb1⟩; have W1 := W.on hb1; clear W)
    | (go_at_call 10; refine (gNew x y x0 x1 y0 y1 _).mono ?_; rintro e w2 ⟨T, B, D, H, S, rfl, F, rfl⟩))
  have F' := F
  obtain ⟨t0, t1, b0, b1, d0, d1, g0, g1, g2, s0, s1⟩ := F'
  by_cases ha : a < H
  case pos =>
    go_wp2_with (go_at_call 18; refine (gBlockO T B D H S a F (.inl ha) _).mono ?_; rintro e w3 ⟨rfl, rfl⟩)
    go_ret
    exact ⟨rfl, bal (bal (bal hb1 _) _) _⟩
  case neg =>
    have ha' : H ≤ a := by omega
    by_cases hb : S ≤ a
    case pos =>
      go_wp2_with (go_at_call 18; refine (gBlockO T B D H S a F (.inr hb) _).mono ?_; rintro e w3 ⟨rfl, rfl⟩)
      go_ret
      exact ⟨rfl, bal (bal (bal hb1 _) _) _⟩
    case neg =>
      have hb' : a < S := by omega
      have hS : (S == H + B * 32) = true := by simp; omega
      go_wp2_with (first
        | (go_at_call 18; refine (gBlockI T B D H S a F ha' hb' _).mono ?_; rintro e w3 ⟨q, rfl, q0, q1, q2, q3, rfl⟩)
        | (go_at_call 24; refine (gCell0 T B D H S q F q0 q1 _ (W1.on (bal (bal (bal (Below.refl _ _) _) _) _))).mono ?_; rintro e w4 ⟨rfl, hb4⟩; obtain ⟨hz, c0, c1, c2, c3, c4⟩ : PAt w4 (w1.heap.size + 1) T B D H S := PAt.on ⟨by simp, by go_cell, by go_cell, by go_cell, by go_cell, by go_cell⟩ hb4; have hB := bt (bal (bal (bal hb1 _) _) _) hb4; clear hb4))
      go_ret
      exact ⟨rfl, hB⟩
end Go.Proofs.YtfohcacngmiklaaDoor
