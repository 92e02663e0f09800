/-
  Contracts of the reference: Swap.
-/
import Derived.Test.YtbihdkdefopijaaYc5
namespace Go.Proofs.Ytbihdkdefopijaa
set_option linter.unusedVariables false
set_option linter.unusedSimpArgs false
open Go.ChangeShapes Go.WideShapes Go.ChangeAt Go.RowKit

set_option maxRecDepth 100000 in
set_option maxHeartbeats 400000 in
theorem ySwapBad0 {w : World} {L : YLoc} {g : Gr} (hg : YAt w L g) (f : g.Fit) (t i k a b c d : Int) (hT : g.isT t = false) :
    Calls Try.prog 22 #[.pointer (some ⟨L.b, 0, none⟩), .int .i64 t, .int .i64 i, .int .i64 k, .agg #[.int .i64 a, .int .i64 b], .agg #[.int .i64 c, .int .i64 d]] w fun e w' => e = .returned (.tuple #[.bool false, .int .i64 1]) ∧ Below w.heap.size w w' := by
  have hg1 := (hg.alloc (.cells #[.int .i64 a, .int .i64 b] 32)).alloc (.cells #[.int .i64 c, .int .i64 d] 32)
  have hB0 := bal (bal (Below.refl w.heap.size w) (.cells #[.int .i64 a, .int .i64 b] 32)) (.cells #[.int .i64 c, .int .i64 d] 32)
  have vs : ((w.alloc (.cells #[.int .i64 a, .int .i64 b] 32)).alloc (.cells #[.int .i64 c, .int .i64 d] 32)).heap[w.heap.size + 1]? = some (.cells #[.int .i64 c, .int .i64 d] 32 (0, 0)) := by have := heap_alloc_new (w.alloc (.cells #[.int .i64 a, .int .i64 b] 32)) (.cells #[.int .i64 c, .int .i64 d] 32); rw [World.size_alloc] at this; exact this
  go_enter Try.func22, Try.ntmps22
  go_wp2_with (go_at_call 38; refine (yIs hg1 f t).mono ?_; rintro e w9 ⟨rfl, hw⟩; rw [hw, hT]; clear hw w9)
  go_ret2
  exact ⟨rfl, hB0⟩
set_option maxRecDepth 100000 in
set_option maxHeartbeats 400000 in
theorem ySwapBad1 {w : World} {L : YLoc} {g : Gr} (hg : YAt w L g) (f : g.Fit) (n : Nat) (h : n < g.ts.length) (r : List Int) (hr : g.ts.getD n [] = r) (h8 : r.length ≤ 8) (i k : Int) (a b c d x y x2 y2 E1 E2 : Int) (hV : nmV r (a, b) = (x, y)) (hN : nmE r (a, b) = E1) (hV2 : nmV r (c, d) = (x2, y2)) (hN2 : nmE r (c, d) = E2) (h1 : (E1 == 1) = true) :
    Calls Try.prog 22 #[.pointer (some ⟨L.b, 0, none⟩), .int .i64 n, .int .i64 i, .int .i64 k, .agg #[.int .i64 a, .int .i64 b], .agg #[.int .i64 c, .int .i64 d]] w fun e w' => e = .returned (.tuple #[.bool false, .int .i64 1]) ∧ Below w.heap.size w w' := by
  have hg1 := (hg.alloc (.cells #[.int .i64 a, .int .i64 b] 32)).alloc (.cells #[.int .i64 c, .int .i64 d] 32)
  have hB0 := bal (bal (Below.refl w.heap.size w) (.cells #[.int .i64 a, .int .i64 b] 32)) (.cells #[.int .i64 c, .int .i64 d] 32)
  have vs : ((w.alloc (.cells #[.int .i64 a, .int .i64 b] 32)).alloc (.cells #[.int .i64 c, .int .i64 d] 32)).heap[w.heap.size + 1]? = some (.cells #[.int .i64 c, .int .i64 d] 32 (0, 0)) := by have := heap_alloc_new (w.alloc (.cells #[.int .i64 a, .int .i64 b] 32)) (.cells #[.int .i64 c, .int .i64 d] 32); rw [World.size_alloc] at this; exact this
  have hT : g.isT n = true := by simp [Gr.isT, h]
  have t64 := f.t64
  have ob := f.ob
  go_enter Try.func22, Try.ntmps22
  go_wp2_with (first
    | (go_at_call 38; refine (yIs hg1 f n).mono ?_; rintro e w9 ⟨rfl, hw⟩; rw [hw, hT]; clear hw w9)
    | (go_at_call_of 43 (Value.agg #[.int .i64 a, .int .i64 b]); refine (yNamed hg1 f n h r hr h8 a b).mono ?_; rintro e w1 ⟨rfl, hb1⟩; rw [hV, hN]; have hB1 := bt hB0 hb1; have hA1 := (hg.below hB1).alloc (.cells #[.int .i64 x, .int .i64 y] 37); have hBA1 := bal hB1 (.cells #[.int .i64 x, .int .i64 y] 37); have vA1 := heap_alloc_new w1 (.cells #[.int .i64 x, .int .i64 y] 37); have vs0 := (hb1.block _ (lt_of_block vs)).trans vs; have vs1 := (Below.heap_alloc w1 (.cells #[.int .i64 x, .int .i64 y] 37) _ (lt_of_block vs0)).trans vs0; have s0 : (w1.alloc (.cells #[.int .i64 x, .int .i64 y] 37)).cell? ⟨w.heap.size + 1, 0, none⟩ = some (.int .i64 c) := (by rw [cell_of_row _ _ _ _ _ _ vs1]; rfl); have s1 : (w1.alloc (.cells #[.int .i64 x, .int .i64 y] 37)).cell? ⟨w.heap.size + 1, 1, none⟩ = some (.int .i64 d) := (by rw [cell_of_row _ _ _ _ _ _ vs1]; rfl))
    | (go_at_call_of 43 (Value.agg #[.int .i64 c, .int .i64 d]); refine (yNamed hA1 f n h r hr h8 c d).mono ?_; rintro e w2 ⟨rfl, hb2⟩; rw [hV2, hN2]; have hB2 := bt hBA1 hb2; have hA2 := (hg.below hB2).alloc (.cells #[.int .i64 x2, .int .i64 y2] 37); have hBA2 := bal hB2 (.cells #[.int .i64 x2, .int .i64 y2] 37); have vA2 := heap_alloc_new w2 (.cells #[.int .i64 x2, .int .i64 y2] 37); have va0 := (hb2.block _ (lt_of_block vA1)).trans vA1; have va1 := (Below.heap_alloc w2 (.cells #[.int .i64 x2, .int .i64 y2] 37) _ (lt_of_block va0)).trans va0))
  go_ret2
  exact ⟨rfl, hBA2⟩
set_option maxRecDepth 100000 in
set_option maxHeartbeats 400000 in
theorem ySwapBad2 {w : World} {L : YLoc} {g : Gr} (hg : YAt w L g) (f : g.Fit) (n : Nat) (h : n < g.ts.length) (r : List Int) (hr : g.ts.getD n [] = r) (h8 : r.length ≤ 8) (i k : Int) (a b c d x y x2 y2 E1 E2 : Int) (hV : nmV r (a, b) = (x, y)) (hN : nmE r (a, b) = E1) (hV2 : nmV r (c, d) = (x2, y2)) (hN2 : nmE r (c, d) = E2) (h1 : (E1 == 1) = false) (h2 : (E2 == 1) = true) :
    Calls Try.prog 22 #[.pointer (some ⟨L.b, 0, none⟩), .int .i64 n, .int .i64 i, .int .i64 k, .agg #[.int .i64 a, .int .i64 b], .agg #[.int .i64 c, .int .i64 d]] w fun e w' => e = .returned (.tuple #[.bool false, .int .i64 1]) ∧ Below w.heap.size w w' := by
  have hg1 := (hg.alloc (.cells #[.int .i64 a, .int .i64 b] 32)).alloc (.cells #[.int .i64 c, .int .i64 d] 32)
  have hB0 := bal (bal (Below.refl w.heap.size w) (.cells #[.int .i64 a, .int .i64 b] 32)) (.cells #[.int .i64 c, .int .i64 d] 32)
  have vs : ((w.alloc (.cells #[.int .i64 a, .int .i64 b] 32)).alloc (.cells #[.int .i64 c, .int .i64 d] 32)).heap[w.heap.size + 1]? = some (.cells #[.int .i64 c, .int .i64 d] 32 (0, 0)) := by have := heap_alloc_new (w.alloc (.cells #[.int .i64 a, .int .i64 b] 32)) (.cells #[.int .i64 c, .int .i64 d] 32); rw [World.size_alloc] at this; exact this
  have hT : g.isT n = true := by simp [Gr.isT, h]
  have t64 := f.t64
  have ob := f.ob
  go_enter Try.func22, Try.ntmps22
  go_wp2_with (first
    | (go_at_call 38; refine (yIs hg1 f n).mono ?_; rintro e w9 ⟨rfl, hw⟩; rw [hw, hT]; clear hw w9)
    | (go_at_call_of 43 (Value.agg #[.int .i64 a, .int .i64 b]); refine (yNamed hg1 f n h r hr h8 a b).mono ?_; rintro e w1 ⟨rfl, hb1⟩; rw [hV, hN]; have hB1 := bt hB0 hb1; have hA1 := (hg.below hB1).alloc (.cells #[.int .i64 x, .int .i64 y] 37); have hBA1 := bal hB1 (.cells #[.int .i64 x, .int .i64 y] 37); have vA1 := heap_alloc_new w1 (.cells #[.int .i64 x, .int .i64 y] 37); have vs0 := (hb1.block _ (lt_of_block vs)).trans vs; have vs1 := (Below.heap_alloc w1 (.cells #[.int .i64 x, .int .i64 y] 37) _ (lt_of_block vs0)).trans vs0; have s0 : (w1.alloc (.cells #[.int .i64 x, .int .i64 y] 37)).cell? ⟨w.heap.size + 1, 0, none⟩ = some (.int .i64 c) := (by rw [cell_of_row _ _ _ _ _ _ vs1]; rfl); have s1 : (w1.alloc (.cells #[.int .i64 x, .int .i64 y] 37)).cell? ⟨w.heap.size + 1, 1, none⟩ = some (.int .i64 d) := (by rw [cell_of_row _ _ _ _ _ _ vs1]; rfl))
    | (go_at_call_of 43 (Value.agg #[.int .i64 c, .int .i64 d]); refine (yNamed hA1 f n h r hr h8 c d).mono ?_; rintro e w2 ⟨rfl, hb2⟩; rw [hV2, hN2]; have hB2 := bt hBA1 hb2; have hA2 := (hg.below hB2).alloc (.cells #[.int .i64 x2, .int .i64 y2] 37); have hBA2 := bal hB2 (.cells #[.int .i64 x2, .int .i64 y2] 37); have vA2 := heap_alloc_new w2 (.cells #[.int .i64 x2, .int .i64 y2] 37); have va0 := (hb2.block _ (lt_of_block vA1)).trans vA1; have va1 := (Below.heap_alloc w2 (.cells #[.int .i64 x2, .int .i64 y2] 37) _ (lt_of_block va0)).trans va0))
  go_ret2
  exact ⟨rfl, hBA2⟩
set_option maxRecDepth 100000 in
set_option maxHeartbeats 400000 in
theorem ySwapBad3 {w : World} {L : YLoc} {g : Gr} (hg : YAt w L g) (f : g.Fit) (n : Nat) (h : n < g.ts.length) (r : List Int) (hr : g.ts.getD n [] = r) (h8 : r.length ≤ 8) (i k : Int) (a b c d x y x2 y2 E1 E2 : Int) (hV : nmV r (a, b) = (x, y)) (hN : nmE r (a, b) = E1) (hV2 : nmV r (c, d) = (x2, y2)) (hN2 : nmE r (c, d) = E2) (h1 : (E1 == 1) = false) (h2 : (E2 == 1) = false) (h3 : (E1 != 0) = true) :
    Calls Try.prog 22 #[.pointer (some ⟨L.b, 0, none⟩), .int .i64 n, .int .i64 i, .int .i64 k, .agg #[.int .i64 a, .int .i64 b], .agg #[.int .i64 c, .int .i64 d]] w fun e w' => e = .returned (.tuple #[.bool false, .int .i64 E1]) ∧ Below w.heap.size w w' := by
  have hg1 := (hg.alloc (.cells #[.int .i64 a, .int .i64 b] 32)).alloc (.cells #[.int .i64 c, .int .i64 d] 32)
  have hB0 := bal (bal (Below.refl w.heap.size w) (.cells #[.int .i64 a, .int .i64 b] 32)) (.cells #[.int .i64 c, .int .i64 d] 32)
  have vs : ((w.alloc (.cells #[.int .i64 a, .int .i64 b] 32)).alloc (.cells #[.int .i64 c, .int .i64 d] 32)).heap[w.heap.size + 1]? = some (.cells #[.int .i64 c, .int .i64 d] 32 (0, 0)) := by have := heap_alloc_new (w.alloc (.cells #[.int .i64 a, .int .i64 b] 32)) (.cells #[.int .i64 c, .int .i64 d] 32); rw [World.size_alloc] at this; exact this
  have hT : g.isT n = true := by simp [Gr.isT, h]
  have t64 := f.t64
  have ob := f.ob
  go_enter Try.func22, Try.ntmps22
  go_wp2_with (first
    | (go_at_call 38; refine (yIs hg1 f n).mono ?_; rintro e w9 ⟨rfl, hw⟩; rw [hw, hT]; clear hw w9)
    | (go_at_call_of 43 (Value.agg #[.int .i64 a, .int .i64 b]); refine (yNamed hg1 f n h r hr h8 a b).mono ?_; rintro e w1 ⟨rfl, hb1⟩; rw [hV, hN]; have hB1 := bt hB0 hb1; have hA1 := (hg.below hB1).alloc (.cells #[.int .i64 x, .int .i64 y] 37); have hBA1 := bal hB1 (.cells #[.int .i64 x, .int .i64 y] 37); have vA1 := heap_alloc_new w1 (.cells #[.int .i64 x, .int .i64 y] 37); have vs0 := (hb1.block _ (lt_of_block vs)).trans vs; have vs1 := (Below.heap_alloc w1 (.cells #[.int .i64 x, .int .i64 y] 37) _ (lt_of_block vs0)).trans vs0; have s0 : (w1.alloc (.cells #[.int .i64 x, .int .i64 y] 37)).cell? ⟨w.heap.size + 1, 0, none⟩ = some (.int .i64 c) := (by rw [cell_of_row _ _ _ _ _ _ vs1]; rfl); have s1 : (w1.alloc (.cells #[.int .i64 x, .int .i64 y] 37)).cell? ⟨w.heap.size + 1, 1, none⟩ = some (.int .i64 d) := (by rw [cell_of_row _ _ _ _ _ _ vs1]; rfl))
    | (go_at_call_of 43 (Value.agg #[.int .i64 c, .int .i64 d]); refine (yNamed hA1 f n h r hr h8 c d).mono ?_; rintro e w2 ⟨rfl, hb2⟩; rw [hV2, hN2]; have hB2 := bt hBA1 hb2; have hA2 := (hg.below hB2).alloc (.cells #[.int .i64 x2, .int .i64 y2] 37); have hBA2 := bal hB2 (.cells #[.int .i64 x2, .int .i64 y2] 37); have vA2 := heap_alloc_new w2 (.cells #[.int .i64 x2, .int .i64 y2] 37); have va0 := (hb2.block _ (lt_of_block vA1)).trans vA1; have va1 := (Below.heap_alloc w2 (.cells #[.int .i64 x2, .int .i64 y2] 37) _ (lt_of_block va0)).trans va0))
  go_ret2
  exact ⟨rfl, hBA2⟩
set_option maxRecDepth 100000 in
set_option maxHeartbeats 400000 in
theorem ySwapBad4 {w : World} {L : YLoc} {g : Gr} (hg : YAt w L g) (f : g.Fit) (n : Nat) (h : n < g.ts.length) (r : List Int) (hr : g.ts.getD n [] = r) (h8 : r.length ≤ 8) (i k : Int) (a b c d x y x2 y2 E1 E2 : Int) (hV : nmV r (a, b) = (x, y)) (hN : nmE r (a, b) = E1) (hV2 : nmV r (c, d) = (x2, y2)) (hN2 : nmE r (c, d) = E2) (h1 : (E1 == 1) = false) (h2 : (E2 == 1) = false) (h3 : (E1 != 0) = false) (h4 : (E2 != 0) = true) :
    Calls Try.prog 22 #[.pointer (some ⟨L.b, 0, none⟩), .int .i64 n, .int .i64 i, .int .i64 k, .agg #[.int .i64 a, .int .i64 b], .agg #[.int .i64 c, .int .i64 d]] w fun e w' => e = .returned (.tuple #[.bool false, .int .i64 E2]) ∧ Below w.heap.size w w' := by
  have hg1 := (hg.alloc (.cells #[.int .i64 a, .int .i64 b] 32)).alloc (.cells #[.int .i64 c, .int .i64 d] 32)
  have hB0 := bal (bal (Below.refl w.heap.size w) (.cells #[.int .i64 a, .int .i64 b] 32)) (.cells #[.int .i64 c, .int .i64 d] 32)
  have vs : ((w.alloc (.cells #[.int .i64 a, .int .i64 b] 32)).alloc (.cells #[.int .i64 c, .int .i64 d] 32)).heap[w.heap.size + 1]? = some (.cells #[.int .i64 c, .int .i64 d] 32 (0, 0)) := by have := heap_alloc_new (w.alloc (.cells #[.int .i64 a, .int .i64 b] 32)) (.cells #[.int .i64 c, .int .i64 d] 32); rw [World.size_alloc] at this; exact this
  have hT : g.isT n = true := by simp [Gr.isT, h]
  have t64 := f.t64
  have ob := f.ob
  go_enter Try.func22, Try.ntmps22
  go_wp2_with (first
    | (go_at_call 38; refine (yIs hg1 f n).mono ?_; rintro e w9 ⟨rfl, hw⟩; rw [hw, hT]; clear hw w9)
    | (go_at_call_of 43 (Value.agg #[.int .i64 a, .int .i64 b]); refine (yNamed hg1 f n h r hr h8 a b).mono ?_; rintro e w1 ⟨rfl, hb1⟩; rw [hV, hN]; have hB1 := bt hB0 hb1; have hA1 := (hg.below hB1).alloc (.cells #[.int .i64 x, .int .i64 y] 37); have hBA1 := bal hB1 (.cells #[.int .i64 x, .int .i64 y] 37); have vA1 := heap_alloc_new w1 (.cells #[.int .i64 x, .int .i64 y] 37); have vs0 := (hb1.block _ (lt_of_block vs)).trans vs; have vs1 := (Below.heap_alloc w1 (.cells #[.int .i64 x, .int .i64 y] 37) _ (lt_of_block vs0)).trans vs0; have s0 : (w1.alloc (.cells #[.int .i64 x, .int .i64 y] 37)).cell? ⟨w.heap.size + 1, 0, none⟩ = some (.int .i64 c) := (by rw [cell_of_row _ _ _ _ _ _ vs1]; rfl); have s1 : (w1.alloc (.cells #[.int .i64 x, .int .i64 y] 37)).cell? ⟨w.heap.size + 1, 1, none⟩ = some (.int .i64 d) := (by rw [cell_of_row _ _ _ _ _ _ vs1]; rfl))
    | (go_at_call_of 43 (Value.agg #[.int .i64 c, .int .i64 d]); refine (yNamed hA1 f n h r hr h8 c d).mono ?_; rintro e w2 ⟨rfl, hb2⟩; rw [hV2, hN2]; have hB2 := bt hBA1 hb2; have hA2 := (hg.below hB2).alloc (.cells #[.int .i64 x2, .int .i64 y2] 37); have hBA2 := bal hB2 (.cells #[.int .i64 x2, .int .i64 y2] 37); have vA2 := heap_alloc_new w2 (.cells #[.int .i64 x2, .int .i64 y2] 37); have va0 := (hb2.block _ (lt_of_block vA1)).trans vA1; have va1 := (Below.heap_alloc w2 (.cells #[.int .i64 x2, .int .i64 y2] 37) _ (lt_of_block va0)).trans va0))
  go_ret2
  exact ⟨rfl, hBA2⟩
set_option maxRecDepth 100000 in
set_option maxHeartbeats 400000 in
theorem ySwapBad5 {w : World} {L : YLoc} {g : Gr} (hg : YAt w L g) (f : g.Fit) (n : Nat) (h : n < g.ts.length) (r : List Int) (hr : g.ts.getD n [] = r) (h8 : r.length ≤ 8) (i k : Int) (a b c d x y x2 y2 : Int) (hV : nmV r (a, b) = (x, y)) (hN : nmE r (a, b) = 0) (hV2 : nmV r (c, d) = (x2, y2)) (hN2 : nmE r (c, d) = 0) (p q E : Int) (hLV : g.lookV n i k = (p, q)) (hLE : g.lookE n i k = E) (hE : (E != 0) = true) :
    Calls Try.prog 22 #[.pointer (some ⟨L.b, 0, none⟩), .int .i64 n, .int .i64 i, .int .i64 k, .agg #[.int .i64 a, .int .i64 b], .agg #[.int .i64 c, .int .i64 d]] w fun e w' => e = .returned (.tuple #[.bool false, .int .i64 E]) ∧ Below w.heap.size w w' := by
  have hg1 := (hg.alloc (.cells #[.int .i64 a, .int .i64 b] 32)).alloc (.cells #[.int .i64 c, .int .i64 d] 32)
  have hB0 := bal (bal (Below.refl w.heap.size w) (.cells #[.int .i64 a, .int .i64 b] 32)) (.cells #[.int .i64 c, .int .i64 d] 32)
  have vs : ((w.alloc (.cells #[.int .i64 a, .int .i64 b] 32)).alloc (.cells #[.int .i64 c, .int .i64 d] 32)).heap[w.heap.size + 1]? = some (.cells #[.int .i64 c, .int .i64 d] 32 (0, 0)) := by have := heap_alloc_new (w.alloc (.cells #[.int .i64 a, .int .i64 b] 32)) (.cells #[.int .i64 c, .int .i64 d] 32); rw [World.size_alloc] at this; exact this
  have hT : g.isT n = true := by simp [Gr.isT, h]
  have t64 := f.t64
  have ob := f.ob
  go_enter Try.func22, Try.ntmps22
  go_wp2_with (first
    | (go_at_call 38; refine (yIs hg1 f n).mono ?_; rintro e w9 ⟨rfl, hw⟩; rw [hw, hT]; clear hw w9)
    | (go_at_call_of 43 (Value.agg #[.int .i64 a, .int .i64 b]); refine (yNamed hg1 f n h r hr h8 a b).mono ?_; rintro e w1 ⟨rfl, hb1⟩; rw [hV, hN]; have hB1 := bt hB0 hb1; have hA1 := (hg.below hB1).alloc (.cells #[.int .i64 x, .int .i64 y] 37); have hBA1 := bal hB1 (.cells #[.int .i64 x, .int .i64 y] 37); have vA1 := heap_alloc_new w1 (.cells #[.int .i64 x, .int .i64 y] 37); have vs0 := (hb1.block _ (lt_of_block vs)).trans vs; have vs1 := (Below.heap_alloc w1 (.cells #[.int .i64 x, .int .i64 y] 37) _ (lt_of_block vs0)).trans vs0; have s0 : (w1.alloc (.cells #[.int .i64 x, .int .i64 y] 37)).cell? ⟨w.heap.size + 1, 0, none⟩ = some (.int .i64 c) := (by rw [cell_of_row _ _ _ _ _ _ vs1]; rfl); have s1 : (w1.alloc (.cells #[.int .i64 x, .int .i64 y] 37)).cell? ⟨w.heap.size + 1, 1, none⟩ = some (.int .i64 d) := (by rw [cell_of_row _ _ _ _ _ _ vs1]; rfl))
    | (go_at_call_of 43 (Value.agg #[.int .i64 c, .int .i64 d]); refine (yNamed hA1 f n h r hr h8 c d).mono ?_; rintro e w2 ⟨rfl, hb2⟩; rw [hV2, hN2]; have hB2 := bt hBA1 hb2; have hA2 := (hg.below hB2).alloc (.cells #[.int .i64 x2, .int .i64 y2] 37); have hBA2 := bal hB2 (.cells #[.int .i64 x2, .int .i64 y2] 37); have vA2 := heap_alloc_new w2 (.cells #[.int .i64 x2, .int .i64 y2] 37); have va0 := (hb2.block _ (lt_of_block vA1)).trans vA1; have va1 := (Below.heap_alloc w2 (.cells #[.int .i64 x2, .int .i64 y2] 37) _ (lt_of_block va0)).trans va0)
    | (go_at_call 16; refine (yLook hA2 f n i k).mono ?_; rintro e w3 ⟨rfl, hb3⟩; rw [hLV, hLE]; have hB3 := bt hBA2 hb3; have hA3 := (hg.below hB3).alloc (.cells #[.int .i64 p, .int .i64 q] 37); have hBA3 := bal hB3 (.cells #[.int .i64 p, .int .i64 q] 37); have vb0 := (hb3.block _ (lt_of_block va1)).trans va1; have vb1 := (Below.heap_alloc w3 (.cells #[.int .i64 p, .int .i64 q] 37) _ (lt_of_block vb0)).trans vb0; have vc0 := (hb3.block _ (lt_of_block vA2)).trans vA2; have vc1 := (Below.heap_alloc w3 (.cells #[.int .i64 p, .int .i64 q] 37) _ (lt_of_block vc0)).trans vc0; have m0 : (w3.alloc (.cells #[.int .i64 p, .int .i64 q] 37)).cell? ⟨w1.heap.size, 0, none⟩ = some (.int .i64 x) := (by rw [cell_of_row _ _ _ _ _ _ vb1]; rfl); have m1 : (w3.alloc (.cells #[.int .i64 p, .int .i64 q] 37)).cell? ⟨w1.heap.size, 1, none⟩ = some (.int .i64 y) := (by rw [cell_of_row _ _ _ _ _ _ vb1]; rfl); have q0 := hA3.cell0; obtain ⟨p0, p1, p2, p3, p4, p5, p6, p7, p8⟩ := hA3.t9 n h; rw [hr] at p0 p1 p2 p3 p4 p5 p6 p7 p8))
  go_ret2
  exact ⟨rfl, hBA3⟩
set_option maxRecDepth 100000 in
set_option maxHeartbeats 400000 in
theorem ySwapBad6 {w : World} {L : YLoc} {g : Gr} (hg : YAt w L g) (f : g.Fit) (n : Nat) (h : n < g.ts.length) (r : List Int) (hr : g.ts.getD n [] = r) (h8 : r.length ≤ 8) (i k : Int) (a b c d x y x2 y2 : Int) (hV : nmV r (a, b) = (x, y)) (hN : nmE r (a, b) = 0) (hV2 : nmV r (c, d) = (x2, y2)) (hN2 : nmE r (c, d) = 0) (p q : Int) (hLV : g.lookV n i k = (p, q)) (hLE : g.lookE n i k = 0) (hne : decide ((p, q) = (x, y)) = false) :
    Calls Try.prog 22 #[.pointer (some ⟨L.b, 0, none⟩), .int .i64 n, .int .i64 i, .int .i64 k, .agg #[.int .i64 a, .int .i64 b], .agg #[.int .i64 c, .int .i64 d]] w fun e w' => e = .returned (.tuple #[.bool false, .int .i64 0]) ∧ Below w.heap.size w w' := by
  have hg1 := (hg.alloc (.cells #[.int .i64 a, .int .i64 b] 32)).alloc (.cells #[.int .i64 c, .int .i64 d] 32)
  have hB0 := bal (bal (Below.refl w.heap.size w) (.cells #[.int .i64 a, .int .i64 b] 32)) (.cells #[.int .i64 c, .int .i64 d] 32)
  have vs : ((w.alloc (.cells #[.int .i64 a, .int .i64 b] 32)).alloc (.cells #[.int .i64 c, .int .i64 d] 32)).heap[w.heap.size + 1]? = some (.cells #[.int .i64 c, .int .i64 d] 32 (0, 0)) := by have := heap_alloc_new (w.alloc (.cells #[.int .i64 a, .int .i64 b] 32)) (.cells #[.int .i64 c, .int .i64 d] 32); rw [World.size_alloc] at this; exact this
  have hT : g.isT n = true := by simp [Gr.isT, h]
  have t64 := f.t64
  have ob := f.ob
  have hQ := neqV (p, q) (x, y) false hne
  go_enter Try.func22, Try.ntmps22
  go_wp2_with (first
    | (go_at_call 38; refine (yIs hg1 f n).mono ?_; rintro e w9 ⟨rfl, hw⟩; rw [hw, hT]; clear hw w9)
    | (go_at_call_of 43 (Value.agg #[.int .i64 a, .int .i64 b]); refine (yNamed hg1 f n h r hr h8 a b).mono ?_; rintro e w1 ⟨rfl, hb1⟩; rw [hV, hN]; have hB1 := bt hB0 hb1; have hA1 := (hg.below hB1).alloc (.cells #[.int .i64 x, .int .i64 y] 37); have hBA1 := bal hB1 (.cells #[.int .i64 x, .int .i64 y] 37); have vA1 := heap_alloc_new w1 (.cells #[.int .i64 x, .int .i64 y] 37); have vs0 := (hb1.block _ (lt_of_block vs)).trans vs; have vs1 := (Below.heap_alloc w1 (.cells #[.int .i64 x, .int .i64 y] 37) _ (lt_of_block vs0)).trans vs0; have s0 : (w1.alloc (.cells #[.int .i64 x, .int .i64 y] 37)).cell? ⟨w.heap.size + 1, 0, none⟩ = some (.int .i64 c) := (by rw [cell_of_row _ _ _ _ _ _ vs1]; rfl); have s1 : (w1.alloc (.cells #[.int .i64 x, .int .i64 y] 37)).cell? ⟨w.heap.size + 1, 1, none⟩ = some (.int .i64 d) := (by rw [cell_of_row _ _ _ _ _ _ vs1]; rfl))
    | (go_at_call_of 43 (Value.agg #[.int .i64 c, .int .i64 d]); refine (yNamed hA1 f n h r hr h8 c d).mono ?_; rintro e w2 ⟨rfl, hb2⟩; rw [hV2, hN2]; have hB2 := bt hBA1 hb2; have hA2 := (hg.below hB2).alloc (.cells #[.int .i64 x2, .int .i64 y2] 37); have hBA2 := bal hB2 (.cells #[.int .i64 x2, .int .i64 y2] 37); have vA2 := heap_alloc_new w2 (.cells #[.int .i64 x2, .int .i64 y2] 37); have va0 := (hb2.block _ (lt_of_block vA1)).trans vA1; have va1 := (Below.heap_alloc w2 (.cells #[.int .i64 x2, .int .i64 y2] 37) _ (lt_of_block va0)).trans va0)
    | (go_at_call 16; refine (yLook hA2 f n i k).mono ?_; rintro e w3 ⟨rfl, hb3⟩; rw [hLV, hLE]; have hB3 := bt hBA2 hb3; have hA3 := (hg.below hB3).alloc (.cells #[.int .i64 p, .int .i64 q] 37); have hBA3 := bal hB3 (.cells #[.int .i64 p, .int .i64 q] 37); have vb0 := (hb3.block _ (lt_of_block va1)).trans va1; have vb1 := (Below.heap_alloc w3 (.cells #[.int .i64 p, .int .i64 q] 37) _ (lt_of_block vb0)).trans vb0; have vc0 := (hb3.block _ (lt_of_block vA2)).trans vA2; have vc1 := (Below.heap_alloc w3 (.cells #[.int .i64 p, .int .i64 q] 37) _ (lt_of_block vc0)).trans vc0; have m0 : (w3.alloc (.cells #[.int .i64 p, .int .i64 q] 37)).cell? ⟨w1.heap.size, 0, none⟩ = some (.int .i64 x) := (by rw [cell_of_row _ _ _ _ _ _ vb1]; rfl); have m1 : (w3.alloc (.cells #[.int .i64 p, .int .i64 q] 37)).cell? ⟨w1.heap.size, 1, none⟩ = some (.int .i64 y) := (by rw [cell_of_row _ _ _ _ _ _ vb1]; rfl); have q0 := hA3.cell0; obtain ⟨p0, p1, p2, p3, p4, p5, p6, p7, p8⟩ := hA3.t9 n h; rw [hr] at p0 p1 p2 p3 p4 p5 p6 p7 p8))
  go_ret2
  exact ⟨rfl, hBA3⟩
set_option maxRecDepth 100000 in
set_option maxHeartbeats 400000 in
theorem ySwapGood {w : World} {L : YLoc} {g : Gr} (hg : YAt w L g) (f : g.Fit) (n : Nat) (h : n < g.ts.length) (r : List Int) (hr : g.ts.getD n [] = r) (h8 : r.length ≤ 8) (i : Int) (k : Nat) (a b c d x y x2 y2 : Int) (hV : nmV r (a, b) = (x, y)) (hN : nmE r (a, b) = 0) (hV2 : nmV r (c, d) = (x2, y2)) (hN2 : nmE r (c, d) = 0) (p q : Int) (hLV : g.lookV n i k = (p, q)) (hLE : g.lookE n i k = 0) (hne : decide ((p, q) = (x, y)) = true) (m : Nat) (hm : m < g.os.length) (hX : Rw.get r i = (m : Int) + 1) (hY : Rw.getE r i = 0) (o : List (Int × Int)) (ho : g.os.getD m [] = o) (hk : k < o.length) :
    Calls Try.prog 22 #[.pointer (some ⟨L.b, 0, none⟩), .int .i64 n, .int .i64 i, .int .i64 k, .agg #[.int .i64 a, .int .i64 b], .agg #[.int .i64 c, .int .i64 d]] w fun e w' => e = .returned (.tuple #[.bool true, .int .i64 0]) ∧ YAt w' L ⟨g.ts, g.os.set m (o.set k (x2, y2))⟩ ∧ YStep w L w' L := by
  have hg1 := (hg.alloc (.cells #[.int .i64 a, .int .i64 b] 32)).alloc (.cells #[.int .i64 c, .int .i64 d] 32)
  have hB0 := bal (bal (Below.refl w.heap.size w) (.cells #[.int .i64 a, .int .i64 b] 32)) (.cells #[.int .i64 c, .int .i64 d] 32)
  have vs : ((w.alloc (.cells #[.int .i64 a, .int .i64 b] 32)).alloc (.cells #[.int .i64 c, .int .i64 d] 32)).heap[w.heap.size + 1]? = some (.cells #[.int .i64 c, .int .i64 d] 32 (0, 0)) := by have := heap_alloc_new (w.alloc (.cells #[.int .i64 a, .int .i64 b] 32)) (.cells #[.int .i64 c, .int .i64 d] 32); rw [World.size_alloc] at this; exact this
  have hT : g.isT n = true := by simp [Gr.isT, h]
  have t64 := f.t64
  have ob := f.ob
  have hQ := neqV (p, q) (x, y) true hne
  have o7 : o.length ≤ 7 := by have := f.obj7 ((m : Int) + 1); rw [obj_nat, ho] at this; exact this
  have hmi : (m : Int) < (g.os.length : Int) := by omega
  have hki : (k : Int) < (o.length : Int) := by omega
  have hk0 : (0 : Int) ≤ (k : Int) := by omega
  obtain ⟨vx, vy, hvo⟩ : ∃ vx vy, o.getD k (0, 0) = (vx, vy) := ⟨_, _, rfl⟩
  have hv2 := vcells_at o k (vx, vy) (by rw [← hvo, List.getD_eq_getElem?_getD, List.getElem?_eq_getElem hk]; rfl)
  go_enter Try.func22, Try.ntmps22
  go_wp2_with (first
    | (go_at_call 38; refine (yIs hg1 f n).mono ?_; rintro e w9 ⟨rfl, hw⟩; rw [hw, hT]; clear hw w9)
    | (go_at_call_of 43 (Value.agg #[.int .i64 a, .int .i64 b]); refine (yNamed hg1 f n h r hr h8 a b).mono ?_; rintro e w1 ⟨rfl, hb1⟩; rw [hV, hN]; have hB1 := bt hB0 hb1; have hA1 := (hg.below hB1).alloc (.cells #[.int .i64 x, .int .i64 y] 37); have hBA1 := bal hB1 (.cells #[.int .i64 x, .int .i64 y] 37); have vA1 := heap_alloc_new w1 (.cells #[.int .i64 x, .int .i64 y] 37); have vs0 := (hb1.block _ (lt_of_block vs)).trans vs; have vs1 := (Below.heap_alloc w1 (.cells #[.int .i64 x, .int .i64 y] 37) _ (lt_of_block vs0)).trans vs0; have s0 : (w1.alloc (.cells #[.int .i64 x, .int .i64 y] 37)).cell? ⟨w.heap.size + 1, 0, none⟩ = some (.int .i64 c) := (by rw [cell_of_row _ _ _ _ _ _ vs1]; rfl); have s1 : (w1.alloc (.cells #[.int .i64 x, .int .i64 y] 37)).cell? ⟨w.heap.size + 1, 1, none⟩ = some (.int .i64 d) := (by rw [cell_of_row _ _ _ _ _ _ vs1]; rfl))
    | (go_at_call_of 43 (Value.agg #[.int .i64 c, .int .i64 d]); refine (yNamed hA1 f n h r hr h8 c d).mono ?_; rintro e w2 ⟨rfl, hb2⟩; rw [hV2, hN2]; have hB2 := bt hBA1 hb2; have hA2 := (hg.below hB2).alloc (.cells #[.int .i64 x2, .int .i64 y2] 37); have hBA2 := bal hB2 (.cells #[.int .i64 x2, .int .i64 y2] 37); have vA2 := heap_alloc_new w2 (.cells #[.int .i64 x2, .int .i64 y2] 37); have va0 := (hb2.block _ (lt_of_block vA1)).trans vA1; have va1 := (Below.heap_alloc w2 (.cells #[.int .i64 x2, .int .i64 y2] 37) _ (lt_of_block va0)).trans va0)
    | (go_at_call 16; refine (yLook hA2 f n i k).mono ?_; rintro e w3 ⟨rfl, hb3⟩; rw [hLV, hLE]; have hB3 := bt hBA2 hb3; have hA3 := (hg.below hB3).alloc (.cells #[.int .i64 p, .int .i64 q] 37); have hBA3 := bal hB3 (.cells #[.int .i64 p, .int .i64 q] 37); have vb0 := (hb3.block _ (lt_of_block va1)).trans va1; have vb1 := (Below.heap_alloc w3 (.cells #[.int .i64 p, .int .i64 q] 37) _ (lt_of_block vb0)).trans vb0; have vc0 := (hb3.block _ (lt_of_block vA2)).trans vA2; have vc1 := (Below.heap_alloc w3 (.cells #[.int .i64 p, .int .i64 q] 37) _ (lt_of_block vc0)).trans vc0; have m0 : (w3.alloc (.cells #[.int .i64 p, .int .i64 q] 37)).cell? ⟨w1.heap.size, 0, none⟩ = some (.int .i64 x) := (by rw [cell_of_row _ _ _ _ _ _ vb1]; rfl); have m1 : (w3.alloc (.cells #[.int .i64 p, .int .i64 q] 37)).cell? ⟨w1.heap.size, 1, none⟩ = some (.int .i64 y) := (by rw [cell_of_row _ _ _ _ _ _ vb1]; rfl); have q0 := hA3.cell0; obtain ⟨p0, p1, p2, p3, p4, p5, p6, p7, p8⟩ := hA3.t9 n h; rw [hr] at p0 p1 p2 p3 p4 p5 p6 p7 p8)
    | (go_at_call 41; refine (rGetR r i h8 _).mono ?_; rintro e w4 ⟨rfl, hb4⟩; rw [hX, hY]; have hB4 := bt hBA3 hb4; have v4 := (hb4.block _ (lt_of_block vc1)).trans vc1; have d0 : w4.cell? ⟨w2.heap.size, 0, none⟩ = some (.int .i64 x2) := (by rw [cell_of_row _ _ _ _ _ _ v4]; rfl); have d1 : w4.cell? ⟨w2.heap.size, 1, none⟩ = some (.int .i64 y2) := (by rw [cell_of_row _ _ _ _ _ _ v4]; rfl); have hg4 := hg.below hB4; obtain ⟨lb, lc, u, hv, hu, cu, ou⟩ := hg4.at hm; have q1 := hg4.cell1; rw [hv] at q1; rw [ho] at ou; obtain ⟨ua, uc, rfl, hup⟩ := own_slice ou; obtain ⟨ub, rfl⟩ := hup (by omega); have z0 := ou.cellAt (k * 2) (by omega); have z1 := ou.cellAt (k * 2 + 1) (by omega); rw [hv2.1] at z0; rw [hv2.2] at z1; have hfz := fun j => ou.frozenAt j; have RR := hg4.setO hm hu (by rw [ho]; exact hk) x2 y2; rw [ho] at RR; clear hg4 ou))
  go_region
  go_wp2
  go_ret2
  exact ⟨rfl, RR.1.drew, ⟨((Kept.of_below hB4).trans RR.2 fun _ h => .inl h).trans (Kept.drew _ _) fun _ h => .inl h, fun _ h => .inl h, rfl⟩⟩
theorem lost_ne (r : List Int) (s : Src) : Src.lost r s ≠ 1 := by
  unfold Src.lost Rw.getE
  split
  · split <;> decide
  · decide
theorem acc2 {g : Gr} {n : Nat} {i k : Int} {s u : Src} (hT : g.isT n = true) : g.swapE n i k s u = if nmE (g.ts.getD n []) s = 1 ∨ nmE (g.ts.getD n []) u = 1 then 1 else if nmE (g.ts.getD n []) s = 0 then (if nmE (g.ts.getD n []) u = 0 then g.lookE n i k else nmE (g.ts.getD n []) u) else nmE (g.ts.getD n []) s := by
  generalize hr : g.ts.getD n [] = r
  have e : Src.err (g.rs n) [s, u] = if nmE r s = 1 ∨ nmE r u = 1 then 1 else if nmE r s = 0 then nmE r u else nmE r s := by
    have er : g.rs n = r := hr
    rw [er]
    unfold nmE Src.err Src.errs Src.errs Src.errs
    have l1 := lost_ne r s
    have l2 := lost_ne r u
    by_cases h1 : Src.ok s = true
    · by_cases h2 : Src.ok u = true
      · simp only [List.all_cons, List.all_nil, h1, h2, Bool.and_true, if_true, l1, l2, or_self, if_false]
        split
        · split
          · next h => rw [h]
          · rfl
        · rfl
      · simp [h1, h2]
    · simp [h1]
  rw [acc0 hT, hr]
  unfold Gr.swapE Gr.acc
  rw [if_pos hT, e]
  by_cases c1 : nmE r s = 1 ∨ nmE r u = 1
  · rw [if_pos c1, if_neg (by decide)]
    rw [if_pos c1]
  · rw [if_neg c1, if_neg c1]
    by_cases c2 : nmE r s = 0
    · rw [if_pos c2, if_pos c2]
      by_cases c3 : nmE r u = 0
      · rw [if_pos c3, if_pos c3, ← hr]; rfl
      · rw [if_neg c3, if_neg c3]
    · rw [if_neg c2, if_neg c2, if_neg c2]
theorem ySwap {w : World} {L : YLoc} {g : Gr} (hg : YAt w L g) (f : g.Fit) (t i k a b c d : Int) :
    Calls Try.prog 22 #[.pointer (some ⟨L.b, 0, none⟩), .int .i64 t, .int .i64 i, .int .i64 k, .agg #[.int .i64 a, .int .i64 b], .agg #[.int .i64 c, .int .i64 d]] w fun e w' => e = .returned (.tuple #[.bool (g.swapY t i k (a, b) (c, d)), .int .i64 (g.swapE t i k (a, b) (c, d))]) ∧ YAt w' L (g.swap t i k (a, b) (c, d)) ∧ YStep w L w' L := by
  have low : ∀ {w' : World}, Below w.heap.size w w' → YAt w' L g ∧ YStep w L w' L := fun hb => ⟨hg.below hb, YStep.of_below hb⟩
  have bad : g.swapE t i k (a, b) (c, d) ≠ 0 → g.swapY t i k (a, b) (c, d) = false ∧ g.swap t i k (a, b) (c, d) = g := fun h => by
    have h1 : g.swapY t i k (a, b) (c, d) = false := by simp [Gr.swapY, h]
    exact ⟨h1, by simp [Gr.swap, h1]⟩
  rcases hT : g.isT t with _ | _
  case false =>
    have e1 : g.swapE t i k (a, b) (c, d) = 1 := by simp [Gr.swapE, Gr.acc, hT]
    obtain ⟨b1, b2⟩ := bad (by rw [e1]; decide)
    rw [e1, b1, b2]
    refine (ySwapBad0 hg f t i k a b c d hT).mono ?_
    rintro e w' ⟨rfl, hb⟩
    exact ⟨rfl, low hb⟩
  case true =>
    obtain ⟨n, rfl, h⟩ := isT_nat hT
    have h8 : (g.ts.getD n []).length ≤ 8 := f.rs8 n
    have hA := acc2 (i := i) (k := k) (s := (a, b)) (u := (c, d)) hT
    by_cases c1 : nmE (g.ts.getD n []) (a, b) = 1 ∨ nmE (g.ts.getD n []) (c, d) = 1
    case pos =>
      rw [if_pos c1] at hA
      obtain ⟨b1, b2⟩ := bad (by rw [hA]; decide)
      rw [hA, b1, b2]
      by_cases c2 : nmE (g.ts.getD n []) (a, b) = 1
      · refine (ySwapBad1 hg f n h _ rfl h8 i k a b c d _ _ _ _ _ _ rfl rfl rfl rfl (by simpa using c2)).mono ?_
        rintro e w' ⟨rfl, hb⟩
        exact ⟨rfl, low hb⟩
      · refine (ySwapBad2 hg f n h _ rfl h8 i k a b c d _ _ _ _ _ _ rfl rfl rfl rfl (by simpa using c2) (by simpa using c1.resolve_left c2)).mono ?_
        rintro e w' ⟨rfl, hb⟩
        exact ⟨rfl, low hb⟩
    case neg =>
      rw [if_neg c1] at hA
      have c2 : ¬ nmE (g.ts.getD n []) (a, b) = 1 := fun h => c1 (.inl h)
      have c3 : ¬ nmE (g.ts.getD n []) (c, d) = 1 := fun h => c1 (.inr h)
      by_cases d1 : nmE (g.ts.getD n []) (a, b) = 0
      case neg =>
        rw [if_neg d1] at hA
        obtain ⟨b1, b2⟩ := bad (by rw [hA]; exact d1)
        rw [hA, b1, b2]
        refine (ySwapBad3 hg f n h _ rfl h8 i k a b c d _ _ _ _ _ _ rfl rfl rfl rfl (by simpa using c2) (by simpa using c3) (by simpa using d1)).mono ?_
        rintro e w' ⟨rfl, hb⟩
        exact ⟨rfl, low hb⟩
      case pos =>
        rw [if_pos d1] at hA
        by_cases d2 : nmE (g.ts.getD n []) (c, d) = 0
        case neg =>
          rw [if_neg d2] at hA
          obtain ⟨b1, b2⟩ := bad (by rw [hA]; exact d2)
          rw [hA, b1, b2]
          refine (ySwapBad4 hg f n h _ rfl h8 i k a b c d _ _ _ _ _ _ rfl rfl rfl rfl (by simpa using c2) (by simpa using c3) (by simpa using d1) (by simpa using d2)).mono ?_
          rintro e w' ⟨rfl, hb⟩
          exact ⟨rfl, low hb⟩
        case pos =>
          rw [if_pos d2] at hA
          by_cases hW : g.lookE n i k = 0
          case neg =>
            obtain ⟨b1, b2⟩ := bad (by rw [hA]; exact hW)
            rw [hA, b1, b2]
            refine (ySwapBad5 hg f n h _ rfl h8 i k a b c d _ _ _ _ rfl d1 rfl d2 _ _ _ rfl rfl (by simpa using hW)).mono ?_
            rintro e w' ⟨rfl, hb⟩
            exact ⟨rfl, low hb⟩
          case pos =>
            have e0 : g.swapE n i k (a, b) (c, d) = 0 := by rw [hA]; exact hW
            have eV : nmV (g.ts.getD n []) (a, b) = Src.val (g.rs n) (a, b) := by unfold nmV; rw [if_pos d1]; rfl
            have eU : nmV (g.ts.getD n []) (c, d) = Src.val (g.ts.getD n []) (c, d) := by unfold nmV; rw [if_pos d2]
            have eL : g.lookV n i k = g.field n i k := by unfold Gr.lookV; rw [if_pos hW]
            have eY : g.swapY n i k (a, b) (c, d) = decide (g.lookV n i k = nmV (g.ts.getD n []) (a, b)) := by
              unfold Gr.swapY
              rw [eV, eL, e0]
              simp
            rcases hq : decide (g.lookV n i k = nmV (g.ts.getD n []) (a, b)) with _ | _
            case false =>
              have eG : g.swap n i k (a, b) (c, d) = g := by unfold Gr.swap; rw [eY, hq]; rfl
              rw [e0, eG, eY, hq]
              refine (ySwapBad6 hg f n h _ rfl h8 i k a b c d _ _ _ _ rfl d1 rfl d2 _ _ rfl hW hq).mono ?_
              rintro e w' ⟨rfl, hb⟩
              exact ⟨rfl, low hb⟩
            case true =>
              have eG : g.swap n i k (a, b) (c, d) = g.setF n i k (Src.val (g.rs n) (c, d)) := by unfold Gr.swap; rw [eY, hq]; rfl
              rw [e0, eG, eY, hq]
              obtain ⟨n', m, k', en, hn, _, ha, hm, hi, rfl, hk⟩ := acc_good f hW
              obtain rfl : n = n' := by omega
              have eS : g.setF n i k' (Src.val (g.rs n) (c, d)) = ⟨g.ts, g.os.set m ((g.os.getD m []).set k' (nmV (g.ts.getD n []) (c, d)))⟩ := by
                rw [eU]
                unfold Gr.setF Gr.id
                show Gr.mk g.ts (g.os.set (Rw.get (g.ts.getD n []) i - 1).toNat ((g.obj (Rw.get (g.ts.getD n []) i)).set k' (Src.val (g.ts.getD n []) (c, d)))) = _
                rw [hi, obj_nat]
                simp
              rw [eS]
              exact ySwapGood hg f n hn _ rfl h8 i k' a b c d _ _ _ _ rfl d1 rfl d2 _ _ rfl hW hq m hm hi (by unfold Rw.getE; rw [if_pos ha]) _ rfl hk
end Go.Proofs.Ytbihdkdefopijaa
