/-
  Contracts of the reference: Named.
-/
import Derived.Test.YtbihdkdefopijaaYc3
namespace Go.Proofs.Ytbihdkdefopijaa
set_option linter.unusedVariables false
set_option linter.unusedSimpArgs false
open Go.ChangeShapes Go.WideShapes Go.ChangeAt Go.RowKit

set_option maxRecDepth 100000 in
set_option maxHeartbeats 400000 in
theorem yNamed0a {w : World} {L : YLoc} {g : Gr} (hg : YAt w L g) (f : g.Fit) (n b : Int) (hb : b < 0) :
    Calls Try.prog 43 #[.pointer (some ⟨L.b, 0, none⟩), .int .i64 n, .agg #[.int .i64 0, .int .i64 b]] w fun e w' => e = .returned (.tuple #[vv (0, 0), .int .i64 1]) ∧ Below w.heap.size w w' := by
  have R : ∀ o1 o2, Below w.heap.size w ((w.alloc o1).alloc o2) := fun o1 o2 => bal (bal (Below.refl _ _) o1) o2
  have hd : decide (b < 0) = true := decide_eq_true hb
  go_enter Try.func43, Try.ntmps43
  go_wp2
  exact bodyPost_ret (v := .tuple #[vv (0, 0), .int .i64 1]) (by simp [results, Try.results43, go_sem]) rfl ⟨rfl, R _ _⟩
set_option maxRecDepth 100000 in
set_option maxHeartbeats 400000 in
theorem yNamed0b {w : World} {L : YLoc} {g : Gr} (hg : YAt w L g) (f : g.Fit) (n b : Int) (hb : 1099511627776 < b) :
    Calls Try.prog 43 #[.pointer (some ⟨L.b, 0, none⟩), .int .i64 n, .agg #[.int .i64 0, .int .i64 b]] w fun e w' => e = .returned (.tuple #[vv (0, 0), .int .i64 1]) ∧ Below w.heap.size w w' := by
  have R : ∀ o1 o2, Below w.heap.size w ((w.alloc o1).alloc o2) := fun o1 o2 => bal (bal (Below.refl _ _) o1) o2
  have hd : decide (b < 0) = false := decide_eq_false (by omega)
  go_enter Try.func43, Try.ntmps43
  go_wp2
  exact bodyPost_ret (v := .tuple #[vv (0, 0), .int .i64 1]) (by simp [results, Try.results43, go_sem]) rfl ⟨rfl, R _ _⟩
set_option maxRecDepth 100000 in
set_option maxHeartbeats 400000 in
theorem yNamed0c {w : World} {L : YLoc} {g : Gr} (hg : YAt w L g) (f : g.Fit) (n b : Int) (h0 : 0 ≤ b) (hb : b ≤ 1099511627776) :
    Calls Try.prog 43 #[.pointer (some ⟨L.b, 0, none⟩), .int .i64 n, .agg #[.int .i64 0, .int .i64 b]] w fun e w' => e = .returned (.tuple #[vv (0, b), .int .i64 0]) ∧ Below w.heap.size w w' := by
  have R : ∀ o1 o2, Below w.heap.size w ((w.alloc o1).alloc o2) := fun o1 o2 => bal (bal (Below.refl _ _) o1) o2
  have hd : decide (b < 0) = false := decide_eq_false (by omega)
  go_enter Try.func43, Try.ntmps43
  go_wp2
  exact bodyPost_ret (v := .tuple #[vv (0, b), .int .i64 0]) (by simp [results, Try.results43, go_sem]) rfl ⟨rfl, R _ _⟩
set_option maxRecDepth 100000 in
set_option maxHeartbeats 400000 in
theorem yNamed2 {w : World} {L : YLoc} {g : Gr} (hg : YAt w L g) (f : g.Fit) (n b : Int) :
    Calls Try.prog 43 #[.pointer (some ⟨L.b, 0, none⟩), .int .i64 n, .agg #[.int .i64 2, .int .i64 b]] w fun e w' => e = .returned (.tuple #[vv (1, 0), .int .i64 0]) ∧ Below w.heap.size w w' := by
  have R : ∀ o1 o2, Below w.heap.size w ((w.alloc o1).alloc o2) := fun o1 o2 => bal (bal (Below.refl _ _) o1) o2
  go_enter Try.func43, Try.ntmps43
  go_wp2
  exact bodyPost_ret (v := .tuple #[vv (1, 0), .int .i64 0]) (by simp [results, Try.results43, go_sem]) rfl ⟨rfl, R _ _⟩
set_option maxRecDepth 100000 in
set_option maxHeartbeats 400000 in
theorem yNamed3 {w : World} {L : YLoc} {g : Gr} (hg : YAt w L g) (f : g.Fit) (n a b : Int) (h0 : (a == 0) = false) (h1 : (a == 1) = false) (h2 : (a == 2) = false) :
    Calls Try.prog 43 #[.pointer (some ⟨L.b, 0, none⟩), .int .i64 n, .agg #[.int .i64 a, .int .i64 b]] w fun e w' => e = .returned (.tuple #[vv (0, 0), .int .i64 1]) ∧ Below w.heap.size w w' := by
  have R : ∀ o1 o2, Below w.heap.size w ((w.alloc o1).alloc o2) := fun o1 o2 => bal (bal (Below.refl _ _) o1) o2
  go_enter Try.func43, Try.ntmps43
  go_wp2
  exact bodyPost_ret (v := .tuple #[vv (0, 0), .int .i64 1]) (by simp [results, Try.results43, go_sem]) rfl ⟨rfl, R _ _⟩
set_option maxRecDepth 100000 in
set_option maxHeartbeats 400000 in
theorem yNamed1a {w : World} {L : YLoc} {g : Gr} (hg : YAt w L g) (f : g.Fit) (n : Nat) (h : n < g.ts.length) (r : List Int) (hr : g.ts.getD n [] = r) (h8 : r.length ≤ 8) (b : Int) (E : Int) (hX : Rw.get r b = 0) (hY : Rw.getE r b = E) (hE : (E != 0) = true) :
    Calls Try.prog 43 #[.pointer (some ⟨L.b, 0, none⟩), .int .i64 n, .agg #[.int .i64 1, .int .i64 b]] w fun e w' => e = .returned (.tuple #[vv (0, 0), .int .i64 E]) ∧ Below w.heap.size w w' := by
  have t64 := f.t64
  have hni : (n : Int) < (g.ts.length : Int) := by omega
  have hg2 := ((hg.alloc (.cells #[.int .i64 1, .int .i64 b] 32)).alloc (.cells #[.int .i64 0, .int .i64 0] 37)).drew
  have c0 := hg2.cell0
  obtain ⟨d0, d1, d2, d3, d4, d5, d6, d7, d8⟩ := hg2.t9 n h
  rw [hr] at d0 d1 d2 d3 d4 d5 d6 d7 d8
  have hB0 := (bal (bal (Below.refl w.heap.size w) (.cells #[.int .i64 1, .int .i64 b] 32)) (.cells #[.int .i64 0, .int .i64 0] 37)).drew
  have vb : ((w.alloc (.cells #[.int .i64 1, .int .i64 b] 32)).alloc (.cells #[.int .i64 0, .int .i64 0] 37)).drew.heap[w.heap.size]? = some (.cells #[.int .i64 1, .int .i64 b] 32 (0, 0)) := (Below.heap_alloc _ _ _ (by simp)).trans (heap_alloc_new w _)
  have cb : ((w.alloc (.cells #[.int .i64 1, .int .i64 b] 32)).alloc (.cells #[.int .i64 0, .int .i64 0] 37)).drew.cell? ⟨w.heap.size, 1, none⟩ = some (.int .i64 b) := by rw [cell_of_row _ _ _ _ _ _ vb]; rfl
  have held : ∀ {u : World}, Below ((w.alloc (.cells #[.int .i64 1, .int .i64 b] 32)).alloc (.cells #[.int .i64 0, .int .i64 0] 37)).drew.heap.size ((w.alloc (.cells #[.int .i64 1, .int .i64 b] 32)).alloc (.cells #[.int .i64 0, .int .i64 0] 37)).drew u → u.cell? ⟨L.b, 0, none⟩ = some (.slice (some ⟨L.tg, 0, none⟩) g.ts.length L.tc) ∧ u.cell? ⟨L.tg, n * 9, none⟩ = some (.int .i64 r.length) ∧ u.cell? ⟨L.tg, n * 9 + 1, none⟩ = some (.int .i64 (rl r 0)) ∧ u.cell? ⟨L.tg, n * 9 + 2, none⟩ = some (.int .i64 (rl r 1)) ∧ u.cell? ⟨L.tg, n * 9 + 3, none⟩ = some (.int .i64 (rl r 2)) ∧ u.cell? ⟨L.tg, n * 9 + 4, none⟩ = some (.int .i64 (rl r 3)) ∧ u.cell? ⟨L.tg, n * 9 + 5, none⟩ = some (.int .i64 (rl r 4)) ∧ u.cell? ⟨L.tg, n * 9 + 6, none⟩ = some (.int .i64 (rl r 5)) ∧ u.cell? ⟨L.tg, n * 9 + 7, none⟩ = some (.int .i64 (rl r 6)) ∧ u.cell? ⟨L.tg, n * 9 + 8, none⟩ = some (.int .i64 (rl r 7)) ∧ u.cell? ⟨w.heap.size, 1, none⟩ = some (.int .i64 b) := fun {u} hu => by
    have h1 := hg2.below hu
    obtain ⟨p0, p1, p2, p3, p4, p5, p6, p7, p8⟩ := h1.t9 n h
    rw [hr] at p0 p1 p2 p3 p4 p5 p6 p7 p8
    exact ⟨h1.cell0, p0, p1, p2, p3, p4, p5, p6, p7, p8, (hu.cell (p := ⟨w.heap.size, 1, none⟩) (by simp [World.drew]; omega)).trans cb⟩
  go_enter Try.func43, Try.ntmps43
  go_wp2
  refine wp_region_noPanic ?_
  refine wp_region_held_drew (S := fun w' => w'.cell? ⟨L.b, 0, none⟩ = some (.slice (some ⟨L.tg, 0, none⟩) g.ts.length L.tc) ∧ w'.cell? ⟨L.tg, n * 9, none⟩ = some (.int .i64 r.length) ∧ w'.cell? ⟨L.tg, n * 9 + 1, none⟩ = some (.int .i64 (rl r 0)) ∧ w'.cell? ⟨L.tg, n * 9 + 2, none⟩ = some (.int .i64 (rl r 1)) ∧ w'.cell? ⟨L.tg, n * 9 + 3, none⟩ = some (.int .i64 (rl r 2)) ∧ w'.cell? ⟨L.tg, n * 9 + 4, none⟩ = some (.int .i64 (rl r 3)) ∧ w'.cell? ⟨L.tg, n * 9 + 5, none⟩ = some (.int .i64 (rl r 4)) ∧ w'.cell? ⟨L.tg, n * 9 + 6, none⟩ = some (.int .i64 (rl r 5)) ∧ w'.cell? ⟨L.tg, n * 9 + 7, none⟩ = some (.int .i64 (rl r 6)) ∧ w'.cell? ⟨L.tg, n * 9 + 8, none⟩ = some (.int .i64 (rl r 7)) ∧ w'.cell? ⟨w.heap.size, 1, none⟩ = some (.int .i64 b)) (by kernel_rfl) ⟨c0, d0, d1, d2, d3, d4, d5, d6, d7, d8, cb⟩ (fun hHeld => ?_)
  refine takeH (i := 0) 29 (.pointer (some ⟨L.b, 0, none⟩)) rfl rfl (by kernel_rfl) (by kernel_rfl) (by kernel_rfl) (fun _ _ _ h => h) (by rfl) ?_ (by assumption) ?_
  · intro w hSw; (try dsimp only at hSw); go_simp
  simp only [List.setIfInBounds_toArray, List.set_cons_zero, List.set_cons_succ]
  refine takeH (i := 1) 30 (.pointer (some ⟨L.b, 0, none⟩)) rfl rfl (by kernel_rfl) (by kernel_rfl) (by kernel_rfl) (fun _ _ _ h => h) (by rfl) ?_ (by assumption) ?_
  · intro w hSw; (try dsimp only at hSw); go_simp
  simp only [List.setIfInBounds_toArray, List.set_cons_zero, List.set_cons_succ]
  refine takeH (i := 2) 31 (.pointer (some ⟨L.b, 0, none⟩)) rfl rfl (by kernel_rfl) (by kernel_rfl) (by kernel_rfl) (fun _ _ _ h => h) (by rfl) ?_ (by assumption) ?_
  · intro w hSw; (try dsimp only at hSw); go_simp
  simp only [List.setIfInBounds_toArray, List.set_cons_zero, List.set_cons_succ]
  refine takeH (i := 3) 32 (.slice (some ⟨L.tg, 0, none⟩) g.ts.length L.tc) rfl rfl (by kernel_rfl) (by kernel_rfl) (by kernel_rfl) (fun _ _ _ h => h) (by rfl) ?_ (by assumption) ?_
  · intro w hSw; (try dsimp only at hSw); go_simp
  simp only [List.setIfInBounds_toArray, List.set_cons_zero, List.set_cons_succ]
  refine takeH (i := 4) 33 (.int .i64 n) rfl rfl (by kernel_rfl) (by kernel_rfl) (by kernel_rfl) (fun _ _ _ h => h) (by rfl) ?_ (by assumption) ?_
  · intro w hSw; (try dsimp only at hSw); go_simp
  simp only [List.setIfInBounds_toArray, List.set_cons_zero, List.set_cons_succ]
  refine takeH (i := 5) 34 (.pointer (some ⟨L.tg, n * 9, none⟩)) rfl rfl (by kernel_rfl) (by kernel_rfl) (by kernel_rfl) (fun _ _ _ h => h) (by rfl) ?_ (by assumption) ?_
  · intro w hSw; (try dsimp only at hSw); go_simp
  simp only [List.setIfInBounds_toArray, List.set_cons_zero, List.set_cons_succ]
  refine takeH (i := 6) 35 (.agg #[.int .i64 r.length, .int .i64 (rl r 0), .int .i64 (rl r 1), .int .i64 (rl r 2), .int .i64 (rl r 3), .int .i64 (rl r 4), .int .i64 (rl r 5), .int .i64 (rl r 6), .int .i64 (rl r 7)]) rfl rfl (by kernel_rfl) (by kernel_rfl) (by kernel_rfl) (fun _ _ _ h => h) (by rfl) ?_ (by assumption) ?_
  · intro w hSw; (try dsimp only at hSw); go_simp
  simp only [List.setIfInBounds_toArray, List.set_cons_zero, List.set_cons_succ]
  refine takeH (i := 7) 36 (.pointer (some ⟨w.heap.size, 1, none⟩)) rfl rfl (by kernel_rfl) (by kernel_rfl) (by kernel_rfl) (fun _ _ _ h => h) (by rfl) ?_ (by assumption) ?_
  · intro w hSw; (try dsimp only at hSw); go_simp
  simp only [List.setIfInBounds_toArray, List.set_cons_zero, List.set_cons_succ]
  refine takeH (i := 8) 37 (.int .i64 b) rfl rfl (by kernel_rfl) (by kernel_rfl) (by kernel_rfl) (fun _ _ _ h => h) (by rfl) ?_ (by assumption) ?_
  · intro w hSw; (try dsimp only at hSw); go_simp
  simp only [List.setIfInBounds_toArray, List.set_cons_zero, List.set_cons_succ]
  refine wpAnyH_ready (rs := [9]) (by kernel_rfl) (by simp) ?_
  refine AllReadyH.cons rfl (fun K hK => ?_) AllReadyH.nil
  go_simp
  refine (rGetR r b h8 _).mono ?_; rintro e w1 ⟨rfl, hb⟩; rw [hX, hY]; have hh := held hb
  refine hK.out _ _ hh (fun hHeld => ?_)
  clear hK K
  try simp only [Act.put, List.setIfInBounds_toArray, List.set_cons_zero, List.set_cons_succ]
  refine takeH (i := 10) 28 (.tuple #[.int .i64 0, .int .i64 E]) rfl rfl (by kernel_rfl) (by kernel_rfl) (by kernel_rfl) (fun _ _ _ h => h) (by rfl) ?_ (by assumption) ?_
  · intro w hSw; (try dsimp only at hSw); go_simp
  simp only [List.setIfInBounds_toArray, List.set_cons_zero, List.set_cons_succ]
  refine takeH (i := 11) 39 (.int .i64 0) rfl rfl (by kernel_rfl) (by kernel_rfl) (by kernel_rfl) (fun _ _ _ h => h) (by rfl) ?_ (by assumption) ?_
  · intro w hSw; (try dsimp only at hSw); go_simp
  simp only [List.setIfInBounds_toArray, List.set_cons_zero, List.set_cons_succ]
  refine takeH (i := 12) 40 (.int .i64 E) rfl rfl (by kernel_rfl) (by kernel_rfl) (by kernel_rfl) (fun _ _ _ h => h) (by rfl) ?_ (by assumption) ?_
  · intro w hSw; (try dsimp only at hSw); go_simp
  simp only [List.setIfInBounds_toArray, List.set_cons_zero, List.set_cons_succ]
  refine takeH (i := 13) 8 (.int .i64 0) rfl rfl (by kernel_rfl) (by kernel_rfl) (by kernel_rfl) (fun _ _ _ h => h) (by rfl) ?_ (by assumption) ?_
  · intro w hSw; (try dsimp only at hSw); go_simp
  simp only [List.setIfInBounds_toArray, List.set_cons_zero, List.set_cons_succ]
  refine takeH (i := 14) 9 (.int .i64 E) rfl rfl (by kernel_rfl) (by kernel_rfl) (by kernel_rfl) (fun _ _ _ h => h) (by rfl) ?_ (by assumption) ?_
  · intro w hSw; (try dsimp only at hSw); go_simp
  simp only [List.setIfInBounds_toArray, List.set_cons_zero, List.set_cons_succ]
  refine wpAnyH_done (by kernel_rfl) ?_ _
  refine NoPanic.normal ?_
  have hv : w1.heap[w.heap.size + 1]? = some (.cells #[.int .i64 0, .int .i64 0] 37 (0, 0)) := (hb.block (w.heap.size + 1) (by simp [World.drew])).trans (by have := heap_alloc_new (w.alloc (.cells #[.int .i64 1, .int .i64 b] 32)) (.cells #[.int .i64 0, .int .i64 0] 37); rw [World.size_alloc] at this; exact this)
  have d0 : w1.cell? ⟨w.heap.size + 1, 0, none⟩ = some (.int .i64 0) := by rw [cell_of_row _ _ _ _ _ _ hv]; rfl
  have d1 : w1.cell? ⟨w.heap.size + 1, 1, none⟩ = some (.int .i64 0) := by rw [cell_of_row _ _ _ _ _ _ hv]; rfl
  have hf : ∀ j, w1.frozen? ⟨w.heap.size + 1, j, none⟩ = false := fun j => frozen_of_row _ _ _ _ _ hv
  have hB := bt hB0 hb
  go_wp2
  exact bodyPost_ret (v := .tuple #[vv (0, 0), .int .i64 E]) (by simp [results, Try.results43, go_sem, d0, d1]) rfl ⟨rfl, b1 (by omega) (b1 (by omega) hB)⟩
set_option maxRecDepth 100000 in
set_option maxHeartbeats 400000 in
theorem yNamed1b {w : World} {L : YLoc} {g : Gr} (hg : YAt w L g) (f : g.Fit) (n : Nat) (h : n < g.ts.length) (r : List Int) (hr : g.ts.getD n [] = r) (h8 : r.length ≤ 8) (b : Int) (x : Int) (hX : Rw.get r b = x) (hY : Rw.getE r b = 0) :
    Calls Try.prog 43 #[.pointer (some ⟨L.b, 0, none⟩), .int .i64 n, .agg #[.int .i64 1, .int .i64 b]] w fun e w' => e = .returned (.tuple #[vv (1, x), .int .i64 0]) ∧ Below w.heap.size w w' := by
  have t64 := f.t64
  have hni : (n : Int) < (g.ts.length : Int) := by omega
  have hg2 := ((hg.alloc (.cells #[.int .i64 1, .int .i64 b] 32)).alloc (.cells #[.int .i64 0, .int .i64 0] 37)).drew
  have c0 := hg2.cell0
  obtain ⟨d0, d1, d2, d3, d4, d5, d6, d7, d8⟩ := hg2.t9 n h
  rw [hr] at d0 d1 d2 d3 d4 d5 d6 d7 d8
  have hB0 := (bal (bal (Below.refl w.heap.size w) (.cells #[.int .i64 1, .int .i64 b] 32)) (.cells #[.int .i64 0, .int .i64 0] 37)).drew
  have vb : ((w.alloc (.cells #[.int .i64 1, .int .i64 b] 32)).alloc (.cells #[.int .i64 0, .int .i64 0] 37)).drew.heap[w.heap.size]? = some (.cells #[.int .i64 1, .int .i64 b] 32 (0, 0)) := (Below.heap_alloc _ _ _ (by simp)).trans (heap_alloc_new w _)
  have cb : ((w.alloc (.cells #[.int .i64 1, .int .i64 b] 32)).alloc (.cells #[.int .i64 0, .int .i64 0] 37)).drew.cell? ⟨w.heap.size, 1, none⟩ = some (.int .i64 b) := by rw [cell_of_row _ _ _ _ _ _ vb]; rfl
  have held : ∀ {u : World}, Below ((w.alloc (.cells #[.int .i64 1, .int .i64 b] 32)).alloc (.cells #[.int .i64 0, .int .i64 0] 37)).drew.heap.size ((w.alloc (.cells #[.int .i64 1, .int .i64 b] 32)).alloc (.cells #[.int .i64 0, .int .i64 0] 37)).drew u → u.cell? ⟨L.b, 0, none⟩ = some (.slice (some ⟨L.tg, 0, none⟩) g.ts.length L.tc) ∧ u.cell? ⟨L.tg, n * 9, none⟩ = some (.int .i64 r.length) ∧ u.cell? ⟨L.tg, n * 9 + 1, none⟩ = some (.int .i64 (rl r 0)) ∧ u.cell? ⟨L.tg, n * 9 + 2, none⟩ = some (.int .i64 (rl r 1)) ∧ u.cell? ⟨L.tg, n * 9 + 3, none⟩ = some (.int .i64 (rl r 2)) ∧ u.cell? ⟨L.tg, n * 9 + 4, none⟩ = some (.int .i64 (rl r 3)) ∧ u.cell? ⟨L.tg, n * 9 + 5, none⟩ = some (.int .i64 (rl r 4)) ∧ u.cell? ⟨L.tg, n * 9 + 6, none⟩ = some (.int .i64 (rl r 5)) ∧ u.cell? ⟨L.tg, n * 9 + 7, none⟩ = some (.int .i64 (rl r 6)) ∧ u.cell? ⟨L.tg, n * 9 + 8, none⟩ = some (.int .i64 (rl r 7)) ∧ u.cell? ⟨w.heap.size, 1, none⟩ = some (.int .i64 b) := fun {u} hu => by
    have h1 := hg2.below hu
    obtain ⟨p0, p1, p2, p3, p4, p5, p6, p7, p8⟩ := h1.t9 n h
    rw [hr] at p0 p1 p2 p3 p4 p5 p6 p7 p8
    exact ⟨h1.cell0, p0, p1, p2, p3, p4, p5, p6, p7, p8, (hu.cell (p := ⟨w.heap.size, 1, none⟩) (by simp [World.drew]; omega)).trans cb⟩
  go_enter Try.func43, Try.ntmps43
  go_wp2
  refine wp_region_noPanic ?_
  refine wp_region_held_drew (S := fun w' => w'.cell? ⟨L.b, 0, none⟩ = some (.slice (some ⟨L.tg, 0, none⟩) g.ts.length L.tc) ∧ w'.cell? ⟨L.tg, n * 9, none⟩ = some (.int .i64 r.length) ∧ w'.cell? ⟨L.tg, n * 9 + 1, none⟩ = some (.int .i64 (rl r 0)) ∧ w'.cell? ⟨L.tg, n * 9 + 2, none⟩ = some (.int .i64 (rl r 1)) ∧ w'.cell? ⟨L.tg, n * 9 + 3, none⟩ = some (.int .i64 (rl r 2)) ∧ w'.cell? ⟨L.tg, n * 9 + 4, none⟩ = some (.int .i64 (rl r 3)) ∧ w'.cell? ⟨L.tg, n * 9 + 5, none⟩ = some (.int .i64 (rl r 4)) ∧ w'.cell? ⟨L.tg, n * 9 + 6, none⟩ = some (.int .i64 (rl r 5)) ∧ w'.cell? ⟨L.tg, n * 9 + 7, none⟩ = some (.int .i64 (rl r 6)) ∧ w'.cell? ⟨L.tg, n * 9 + 8, none⟩ = some (.int .i64 (rl r 7)) ∧ w'.cell? ⟨w.heap.size, 1, none⟩ = some (.int .i64 b)) (by kernel_rfl) ⟨c0, d0, d1, d2, d3, d4, d5, d6, d7, d8, cb⟩ (fun hHeld => ?_)
  refine takeH (i := 0) 29 (.pointer (some ⟨L.b, 0, none⟩)) rfl rfl (by kernel_rfl) (by kernel_rfl) (by kernel_rfl) (fun _ _ _ h => h) (by rfl) ?_ (by assumption) ?_
  · intro w hSw; (try dsimp only at hSw); go_simp
  simp only [List.setIfInBounds_toArray, List.set_cons_zero, List.set_cons_succ]
  refine takeH (i := 1) 30 (.pointer (some ⟨L.b, 0, none⟩)) rfl rfl (by kernel_rfl) (by kernel_rfl) (by kernel_rfl) (fun _ _ _ h => h) (by rfl) ?_ (by assumption) ?_
  · intro w hSw; (try dsimp only at hSw); go_simp
  simp only [List.setIfInBounds_toArray, List.set_cons_zero, List.set_cons_succ]
  refine takeH (i := 2) 31 (.pointer (some ⟨L.b, 0, none⟩)) rfl rfl (by kernel_rfl) (by kernel_rfl) (by kernel_rfl) (fun _ _ _ h => h) (by rfl) ?_ (by assumption) ?_
  · intro w hSw; (try dsimp only at hSw); go_simp
  simp only [List.setIfInBounds_toArray, List.set_cons_zero, List.set_cons_succ]
  refine takeH (i := 3) 32 (.slice (some ⟨L.tg, 0, none⟩) g.ts.length L.tc) rfl rfl (by kernel_rfl) (by kernel_rfl) (by kernel_rfl) (fun _ _ _ h => h) (by rfl) ?_ (by assumption) ?_
  · intro w hSw; (try dsimp only at hSw); go_simp
  simp only [List.setIfInBounds_toArray, List.set_cons_zero, List.set_cons_succ]
  refine takeH (i := 4) 33 (.int .i64 n) rfl rfl (by kernel_rfl) (by kernel_rfl) (by kernel_rfl) (fun _ _ _ h => h) (by rfl) ?_ (by assumption) ?_
  · intro w hSw; (try dsimp only at hSw); go_simp
  simp only [List.setIfInBounds_toArray, List.set_cons_zero, List.set_cons_succ]
  refine takeH (i := 5) 34 (.pointer (some ⟨L.tg, n * 9, none⟩)) rfl rfl (by kernel_rfl) (by kernel_rfl) (by kernel_rfl) (fun _ _ _ h => h) (by rfl) ?_ (by assumption) ?_
  · intro w hSw; (try dsimp only at hSw); go_simp
  simp only [List.setIfInBounds_toArray, List.set_cons_zero, List.set_cons_succ]
  refine takeH (i := 6) 35 (.agg #[.int .i64 r.length, .int .i64 (rl r 0), .int .i64 (rl r 1), .int .i64 (rl r 2), .int .i64 (rl r 3), .int .i64 (rl r 4), .int .i64 (rl r 5), .int .i64 (rl r 6), .int .i64 (rl r 7)]) rfl rfl (by kernel_rfl) (by kernel_rfl) (by kernel_rfl) (fun _ _ _ h => h) (by rfl) ?_ (by assumption) ?_
  · intro w hSw; (try dsimp only at hSw); go_simp
  simp only [List.setIfInBounds_toArray, List.set_cons_zero, List.set_cons_succ]
  refine takeH (i := 7) 36 (.pointer (some ⟨w.heap.size, 1, none⟩)) rfl rfl (by kernel_rfl) (by kernel_rfl) (by kernel_rfl) (fun _ _ _ h => h) (by rfl) ?_ (by assumption) ?_
  · intro w hSw; (try dsimp only at hSw); go_simp
  simp only [List.setIfInBounds_toArray, List.set_cons_zero, List.set_cons_succ]
  refine takeH (i := 8) 37 (.int .i64 b) rfl rfl (by kernel_rfl) (by kernel_rfl) (by kernel_rfl) (fun _ _ _ h => h) (by rfl) ?_ (by assumption) ?_
  · intro w hSw; (try dsimp only at hSw); go_simp
  simp only [List.setIfInBounds_toArray, List.set_cons_zero, List.set_cons_succ]
  refine wpAnyH_ready (rs := [9]) (by kernel_rfl) (by simp) ?_
  refine AllReadyH.cons rfl (fun K hK => ?_) AllReadyH.nil
  go_simp
  refine (rGetR r b h8 _).mono ?_; rintro e w1 ⟨rfl, hb⟩; rw [hX, hY]; have hh := held hb
  refine hK.out _ _ hh (fun hHeld => ?_)
  clear hK K
  try simp only [Act.put, List.setIfInBounds_toArray, List.set_cons_zero, List.set_cons_succ]
  refine takeH (i := 10) 28 (.tuple #[.int .i64 x, .int .i64 0]) rfl rfl (by kernel_rfl) (by kernel_rfl) (by kernel_rfl) (fun _ _ _ h => h) (by rfl) ?_ (by assumption) ?_
  · intro w hSw; (try dsimp only at hSw); go_simp
  simp only [List.setIfInBounds_toArray, List.set_cons_zero, List.set_cons_succ]
  refine takeH (i := 11) 39 (.int .i64 x) rfl rfl (by kernel_rfl) (by kernel_rfl) (by kernel_rfl) (fun _ _ _ h => h) (by rfl) ?_ (by assumption) ?_
  · intro w hSw; (try dsimp only at hSw); go_simp
  simp only [List.setIfInBounds_toArray, List.set_cons_zero, List.set_cons_succ]
  refine takeH (i := 12) 40 (.int .i64 0) rfl rfl (by kernel_rfl) (by kernel_rfl) (by kernel_rfl) (fun _ _ _ h => h) (by rfl) ?_ (by assumption) ?_
  · intro w hSw; (try dsimp only at hSw); go_simp
  simp only [List.setIfInBounds_toArray, List.set_cons_zero, List.set_cons_succ]
  refine takeH (i := 13) 8 (.int .i64 x) rfl rfl (by kernel_rfl) (by kernel_rfl) (by kernel_rfl) (fun _ _ _ h => h) (by rfl) ?_ (by assumption) ?_
  · intro w hSw; (try dsimp only at hSw); go_simp
  simp only [List.setIfInBounds_toArray, List.set_cons_zero, List.set_cons_succ]
  refine takeH (i := 14) 9 (.int .i64 0) rfl rfl (by kernel_rfl) (by kernel_rfl) (by kernel_rfl) (fun _ _ _ h => h) (by rfl) ?_ (by assumption) ?_
  · intro w hSw; (try dsimp only at hSw); go_simp
  simp only [List.setIfInBounds_toArray, List.set_cons_zero, List.set_cons_succ]
  refine wpAnyH_done (by kernel_rfl) ?_ _
  refine NoPanic.normal ?_
  have hv : w1.heap[w.heap.size + 1]? = some (.cells #[.int .i64 0, .int .i64 0] 37 (0, 0)) := (hb.block (w.heap.size + 1) (by simp [World.drew])).trans (by have := heap_alloc_new (w.alloc (.cells #[.int .i64 1, .int .i64 b] 32)) (.cells #[.int .i64 0, .int .i64 0] 37); rw [World.size_alloc] at this; exact this)
  have d0 : w1.cell? ⟨w.heap.size + 1, 0, none⟩ = some (.int .i64 0) := by rw [cell_of_row _ _ _ _ _ _ hv]; rfl
  have d1 : w1.cell? ⟨w.heap.size + 1, 1, none⟩ = some (.int .i64 0) := by rw [cell_of_row _ _ _ _ _ _ hv]; rfl
  have hf : ∀ j, w1.frozen? ⟨w.heap.size + 1, j, none⟩ = false := fun j => frozen_of_row _ _ _ _ _ hv
  have hB := bt hB0 hb
  go_wp2
  exact bodyPost_ret (v := .tuple #[vv (1, x), .int .i64 0]) (by simp [results, Try.results43, go_sem, d0, d1]) rfl ⟨rfl, b1 (by omega) (b1 (by omega) hB)⟩
/-- what is named, and its error -/
def nmE (r : List Int) (s : Src) : Int := if Src.ok s then Src.lost r s else 1
def nmV (r : List Int) (s : Src) : Int × Int := if nmE r s = 0 then Src.val r s else (0, 0)
theorem yNamed {w : World} {L : YLoc} {g : Gr} (hg : YAt w L g) (f : g.Fit) (n : Nat) (h : n < g.ts.length) (r : List Int) (hr : g.ts.getD n [] = r) (h8 : r.length ≤ 8) (a b : Int) :
    Calls Try.prog 43 #[.pointer (some ⟨L.b, 0, none⟩), .int .i64 n, .agg #[.int .i64 a, .int .i64 b]] w fun e w' => e = .returned (.tuple #[vv (nmV r (a, b)), .int .i64 (nmE r (a, b))]) ∧ Below w.heap.size w w' := by
  by_cases a0 : a = 0
  · subst a0
    by_cases h1 : b < 0
    · have e1 : nmE r (0, b) = 1 := by simp [nmE, Src.ok]; omega
      rw [show nmV r (0, b) = (0, 0) by simp [nmV, e1], e1]
      exact yNamed0a hg f n b h1
    · by_cases h2 : 1099511627776 < b
      · have e1 : nmE r (0, b) = 1 := by simp [nmE, Src.ok]; omega
        rw [show nmV r (0, b) = (0, 0) by simp [nmV, e1], e1]
        exact yNamed0b hg f n b h2
      · have e1 : nmE r (0, b) = 0 := by simp [nmE, Src.ok, Src.lost]; omega
        rw [show nmV r (0, b) = (0, b) by simp [nmV, e1, Src.val], e1]
        exact yNamed0c hg f n b (by omega) (by omega)
  by_cases a1 : a = 1
  · subst a1
    have e1 : nmE r (1, b) = Rw.getE r b := by simp [nmE, Src.ok, Src.lost]
    by_cases hE : Rw.getE r b = 0
    · rw [show nmV r (1, b) = (1, Rw.get r b) by simp [nmV, e1, hE, Src.val], e1, hE]
      exact yNamed1b hg f n h r hr h8 b _ rfl hE
    · rw [show nmV r (1, b) = (0, 0) by simp [nmV, e1, hE], e1]
      have hA : ¬ Rw.isAt r b = true := fun hA => hE (by unfold Rw.getE; rw [if_pos hA])
      exact yNamed1a hg f n h r hr h8 b _ (by unfold Rw.get; rw [if_neg hA]) rfl (by simpa using hE)
  by_cases a2 : a = 2
  · subst a2
    have e1 : nmE r (2, b) = 0 := by simp [nmE, Src.ok, Src.lost]
    rw [show nmV r (2, b) = (1, 0) by simp [nmV, e1, Src.val], e1]
    exact yNamed2 hg f n b
  · have e1 : nmE r (a, b) = 1 := by
      have : Src.ok (a, b) = false := by simp [Src.ok]; omega
      simp [nmE, this]
    rw [show nmV r (a, b) = (0, 0) by simp [nmV, e1], e1]
    exact yNamed3 hg f n a b (by simpa using a0) (by simpa using a1) (by simpa using a2)
end Go.Proofs.Ytbihdkdefopijaa
