/-
  What the reference's machines of layer 11 come to when they are stepped.
-/
import Derived.Test.YtoablodmodnamaaDoorGcq
namespace Go.Proofs.YtoablodmodnamaaDoor
set_option linter.unusedVariables false
set_option maxRecDepth 100000
open Go.ChangeShapes Go.WideShapes Go.RowKit
open S.Plain (t0 t1 tw nx)
open H.Plain (hw pS pC pN pM pG pT pL)

theorem rNewShade (a m : Int) (w : World) :
    Calls Tryd.prog 85 #[.int .i64 a, .int .i64 m] w fun e w' => e = .returned (.pointer (some ⟨w.heap.size, 0, none⟩)) ∧ Made w w' 150 ((ShadeS.new a m).rcells Hd.zero 0) := by
  by_cases h : a = 0
  · have hn : (a == 0) = true := by simp [h]
    go_enter Tryd.func85, Tryd.ntmps85
    go_wp2
    go_ret
    exact ⟨rfl, by subst h; exact heap_alloc_new _ _, by go_grown⟩
  · have hn : (a == 0) = false := by simp [h]
    go_enter Tryd.func85, Tryd.ntmps85
    go_wp2
    go_ret
    exact ⟨rfl, by rw [ShadeS.new, if_neg h]; exact heap_alloc_new _ _, by go_grown⟩
section
variable {w : World} {L : Loc} {s : St} {p : Nat}
set_option maxHeartbeats 1000000 in
theorem rs1a {c m z y1 y2 y3 y4 y5 y6 y7 : Int} (A : At 80 w L s p 150 #[.int .i64 c, .int .i64 m, .int .i64 1, .int .i64 y1, .int .i64 y2, .int .i64 y3, .int .i64 y4, .int .i64 y5, .int .i64 y6, .int .i64 y7, .int .u64 z]) (f : s.Fit) (hc : s.c < 1000000) (r : s.Rng) (h1 : pS (s.got c) ≠ 1) :
    Calls Tryd.prog 53 #[.pointer (some ⟨p, 0, none⟩), .pointer (some ⟨L.b, 0, none⟩)] w fun e w' => e = .returned (.bool true) ∧
      ∃ L', At 80 w' L' (s.load c) p 150 #[.int .i64 c, .int .i64 m, .int .i64 0, .int .i64 (pS (s.got c)), .int .i64 (pC (s.got c)), .int .i64 (pN (s.got c)), .int .i64 (pM (s.got c)), .int .i64 (pG (s.got c)), .int .i64 (pT (s.got c)), .int .i64 (pL (s.got c)), .int .u64 (s.got c)] ∧ Went w L p w' L' := by
  have c0 : w.cell? ⟨p, 0, none⟩ = some (.int .i64 c) := A.cell 0
  have cf0 := A.free 0
  have c2 : w.cell? ⟨p, 2, none⟩ = some (.int .i64 1) := A.cell 2
  have cf2 := A.free 2
  have hr := r.got c
  obtain ⟨v, hv⟩ : ∃ v, s.got c = v := ⟨_, rfl⟩
  rw [hv] at hr h1 ⊢
  have q1 : (pS v != 1) = true := by simpa using h1
  clear h1
  go_enter Tryd.func53, Tryd.ntmps53
  go_wp2_with (first
    | (go_at_call 44; refine (rLoad A.mem f hc c).mono ?_; rintro e w1 ⟨rfl, L1, hm1, st⟩; rw [hv]; have A1 := A.step hm1 st; have d10 : w1.cell? ⟨p, 10, none⟩ = some (.int .u64 z) := A1.cell 10; have df10 := A1.free 10)
    | (go_at_call 27; refine (H.rOf v hr.1 hr.2 _).mono ?_; rintro e w2 ⟨rfl, hw2⟩; have hb2 : Below (w1.setCell ⟨p, 10, none⟩ (.int .u64 v)).heap.size (w1.setCell ⟨p, 10, none⟩ (.int .u64 v)) w2 := (by rw [hw2]; go_grown); clear hw2; have A2 : At 80 w2 L1 (s.load c) p 150 #[.int .i64 c, .int .i64 m, .int .i64 1, .int .i64 y1, .int .i64 y2, .int .i64 y3, .int .i64 y4, .int .i64 y5, .int .i64 y6, .int .i64 y7, .int .u64 v] := (A1.set 10 (.int .u64 v)).below hb2; have g2 : Went w L p w2 L1 := ((Went.of_step st p).trans (Went.set _ _ _ _ _)).trans (Went.of_below hb2 _ _); clear hb2; have x0 : w2.cell? ⟨p, 0, none⟩ = some (.int .i64 c) := A2.cell 0; have xf0 := A2.free 0; have x1 : w2.cell? ⟨p, 1, none⟩ = some (.int .i64 m) := A2.cell 1; have xf1 := A2.free 1; have x2 : w2.cell? ⟨p, 2, none⟩ = some (.int .i64 1) := A2.cell 2; have xf2 := A2.free 2; have x3 : w2.cell? ⟨p, 3, none⟩ = some (.int .i64 y1) := A2.cell 3; have xf3 := A2.free 3; have x4 : w2.cell? ⟨p, 4, none⟩ = some (.int .i64 y2) := A2.cell 4; have xf4 := A2.free 4; have x5 : w2.cell? ⟨p, 5, none⟩ = some (.int .i64 y3) := A2.cell 5; have xf5 := A2.free 5; have x6 : w2.cell? ⟨p, 6, none⟩ = some (.int .i64 y4) := A2.cell 6; have xf6 := A2.free 6; have x7 : w2.cell? ⟨p, 7, none⟩ = some (.int .i64 y5) := A2.cell 7; have xf7 := A2.free 7; have x8 : w2.cell? ⟨p, 8, none⟩ = some (.int .i64 y6) := A2.cell 8; have xf8 := A2.free 8; have x9 : w2.cell? ⟨p, 9, none⟩ = some (.int .i64 y7) := A2.cell 9; have xf9 := A2.free 9; have x10 : w2.cell? ⟨p, 10, none⟩ = some (.int .u64 v) := A2.cell 10; have xf10 := A2.free 10; have A3 := A2.putR (.int .i64 (pS v)) (.int .i64 (pC v)) (.int .i64 (pN v)) (.int .i64 (pM v)) (.int .i64 (pG v)) (.int .i64 (pT v)) (.int .i64 (pL v)); have g3 := g2.trans (Went.head3 w2 L1 p (.int .i64 (pS v)) (.int .i64 (pC v)) (.int .i64 (pN v)) (.int .i64 (pM v)) (.int .i64 (pG v)) (.int .i64 (pT v)) (.int .i64 (pL v)))))
  clear x0 xf0 x1 xf1 x2 xf2 x3 xf3 x4 xf4 x5 xf5 x6 xf6 x7 xf7 x8 xf8 x9 xf9 x10 xf10
  have A4 : At 80 ((((((((w2.setCell ⟨p, 3, none⟩ (.int .i64 (pS v))).setCell ⟨p, 4, none⟩ (.int .i64 (pC v))).setCell ⟨p, 5, none⟩ (.int .i64 (pN v))).setCell ⟨p, 6, none⟩ (.int .i64 (pM v))).setCell ⟨p, 7, none⟩ (.int .i64 (pG v))).setCell ⟨p, 8, none⟩ (.int .i64 (pT v))).setCell ⟨p, 9, none⟩ (.int .i64 (pL v))).setCell ⟨p, 2, none⟩ (.int .i64 2)) L1 (s.load c) p 150 #[.int .i64 c, .int .i64 m, .int .i64 2, .int .i64 (pS v), .int .i64 (pC v), .int .i64 (pN v), .int .i64 (pM v), .int .i64 (pG v), .int .i64 (pT v), .int .i64 (pL v), .int .u64 v] := A3.set 2 (.int .i64 2)
  have g4 := g3.trans (Went.set (((((((w2.setCell ⟨p, 3, none⟩ (.int .i64 (pS v))).setCell ⟨p, 4, none⟩ (.int .i64 (pC v))).setCell ⟨p, 5, none⟩ (.int .i64 (pN v))).setCell ⟨p, 6, none⟩ (.int .i64 (pM v))).setCell ⟨p, 7, none⟩ (.int .i64 (pG v))).setCell ⟨p, 8, none⟩ (.int .i64 (pT v))).setCell ⟨p, 9, none⟩ (.int .i64 (pL v))) L1 p 2 (.int .i64 2))
  clear A3 g3
  generalize (((((((w2.setCell ⟨p, 3, none⟩ (.int .i64 (pS v))).setCell ⟨p, 4, none⟩ (.int .i64 (pC v))).setCell ⟨p, 5, none⟩ (.int .i64 (pN v))).setCell ⟨p, 6, none⟩ (.int .i64 (pM v))).setCell ⟨p, 7, none⟩ (.int .i64 (pG v))).setCell ⟨p, 8, none⟩ (.int .i64 (pT v))).setCell ⟨p, 9, none⟩ (.int .i64 (pL v))).setCell ⟨p, 2, none⟩ (.int .i64 2) = wa at A4 g4 ⊢
  have u0 : wa.cell? ⟨p, 0, none⟩ = some (.int .i64 c) := A4.cell 0
  have uf0 := A4.free 0
  have u1 : wa.cell? ⟨p, 1, none⟩ = some (.int .i64 m) := A4.cell 1
  have uf1 := A4.free 1
  have u2 : wa.cell? ⟨p, 2, none⟩ = some (.int .i64 2) := A4.cell 2
  have uf2 := A4.free 2
  have u3 : wa.cell? ⟨p, 3, none⟩ = some (.int .i64 (pS v)) := A4.cell 3
  have uf3 := A4.free 3
  have u4 : wa.cell? ⟨p, 4, none⟩ = some (.int .i64 (pC v)) := A4.cell 4
  have uf4 := A4.free 4
  have u5 : wa.cell? ⟨p, 5, none⟩ = some (.int .i64 (pN v)) := A4.cell 5
  have uf5 := A4.free 5
  have u6 : wa.cell? ⟨p, 6, none⟩ = some (.int .i64 (pM v)) := A4.cell 6
  have uf6 := A4.free 6
  have u7 : wa.cell? ⟨p, 7, none⟩ = some (.int .i64 (pG v)) := A4.cell 7
  have uf7 := A4.free 7
  have u8 : wa.cell? ⟨p, 8, none⟩ = some (.int .i64 (pT v)) := A4.cell 8
  have uf8 := A4.free 8
  have u9 : wa.cell? ⟨p, 9, none⟩ = some (.int .i64 (pL v)) := A4.cell 9
  have uf9 := A4.free 9
  have u10 : wa.cell? ⟨p, 10, none⟩ = some (.int .u64 v) := A4.cell 10
  have uf10 := A4.free 10
  go_quiet (fail)
  go_wp2
  go_ret
  exact ⟨rfl, L1, (A4.below (S.bdr (Below.refl _ _) _)).set 2 (.int .i64 0), (g4.trans (Went.of_below (S.bdr (Below.refl _ _) _) _ _)).trans (Went.set _ _ _ _ _)⟩
set_option maxHeartbeats 1000000 in
theorem rs1b {c m z y1 y2 y3 y4 y5 y6 y7 : Int} (A : At 80 w L s p 150 #[.int .i64 c, .int .i64 m, .int .i64 1, .int .i64 y1, .int .i64 y2, .int .i64 y3, .int .i64 y4, .int .i64 y5, .int .i64 y6, .int .i64 y7, .int .u64 z]) (f : s.Fit) (hc : s.c < 1000000) (r : s.Rng) (h1 : pS (s.got c) = 1) (h2 : pM (s.got c) = m) :
    Calls Tryd.prog 53 #[.pointer (some ⟨p, 0, none⟩), .pointer (some ⟨L.b, 0, none⟩)] w fun e w' => e = .returned (.bool true) ∧
      ∃ L', At 80 w' L' (s.load c) p 150 #[.int .i64 c, .int .i64 m, .int .i64 0, .int .i64 (pS (s.got c)), .int .i64 (pC (s.got c)), .int .i64 (pN (s.got c)), .int .i64 (pM (s.got c)), .int .i64 (pG (s.got c)), .int .i64 (pT (s.got c)), .int .i64 (pL (s.got c)), .int .u64 (s.got c)] ∧ Went w L p w' L' := by
  have c0 : w.cell? ⟨p, 0, none⟩ = some (.int .i64 c) := A.cell 0
  have cf0 := A.free 0
  have c2 : w.cell? ⟨p, 2, none⟩ = some (.int .i64 1) := A.cell 2
  have cf2 := A.free 2
  have hr := r.got c
  obtain ⟨v, hv⟩ : ∃ v, s.got c = v := ⟨_, rfl⟩
  rw [hv] at hr h1 h2 ⊢
  have q1 : (pS v != 1) = false := by simp [h1]
  have q2 : (pM v == m) = true := by simp [h2]
  clear h1 h2
  go_enter Tryd.func53, Tryd.ntmps53
  go_wp2_with (first
    | (go_at_call 44; refine (rLoad A.mem f hc c).mono ?_; rintro e w1 ⟨rfl, L1, hm1, st⟩; rw [hv]; have A1 := A.step hm1 st; have d10 : w1.cell? ⟨p, 10, none⟩ = some (.int .u64 z) := A1.cell 10; have df10 := A1.free 10)
    | (go_at_call 27; refine (H.rOf v hr.1 hr.2 _).mono ?_; rintro e w2 ⟨rfl, hw2⟩; have hb2 : Below (w1.setCell ⟨p, 10, none⟩ (.int .u64 v)).heap.size (w1.setCell ⟨p, 10, none⟩ (.int .u64 v)) w2 := (by rw [hw2]; go_grown); clear hw2; have A2 : At 80 w2 L1 (s.load c) p 150 #[.int .i64 c, .int .i64 m, .int .i64 1, .int .i64 y1, .int .i64 y2, .int .i64 y3, .int .i64 y4, .int .i64 y5, .int .i64 y6, .int .i64 y7, .int .u64 v] := (A1.set 10 (.int .u64 v)).below hb2; have g2 : Went w L p w2 L1 := ((Went.of_step st p).trans (Went.set _ _ _ _ _)).trans (Went.of_below hb2 _ _); clear hb2; have x0 : w2.cell? ⟨p, 0, none⟩ = some (.int .i64 c) := A2.cell 0; have xf0 := A2.free 0; have x1 : w2.cell? ⟨p, 1, none⟩ = some (.int .i64 m) := A2.cell 1; have xf1 := A2.free 1; have x2 : w2.cell? ⟨p, 2, none⟩ = some (.int .i64 1) := A2.cell 2; have xf2 := A2.free 2; have x3 : w2.cell? ⟨p, 3, none⟩ = some (.int .i64 y1) := A2.cell 3; have xf3 := A2.free 3; have x4 : w2.cell? ⟨p, 4, none⟩ = some (.int .i64 y2) := A2.cell 4; have xf4 := A2.free 4; have x5 : w2.cell? ⟨p, 5, none⟩ = some (.int .i64 y3) := A2.cell 5; have xf5 := A2.free 5; have x6 : w2.cell? ⟨p, 6, none⟩ = some (.int .i64 y4) := A2.cell 6; have xf6 := A2.free 6; have x7 : w2.cell? ⟨p, 7, none⟩ = some (.int .i64 y5) := A2.cell 7; have xf7 := A2.free 7; have x8 : w2.cell? ⟨p, 8, none⟩ = some (.int .i64 y6) := A2.cell 8; have xf8 := A2.free 8; have x9 : w2.cell? ⟨p, 9, none⟩ = some (.int .i64 y7) := A2.cell 9; have xf9 := A2.free 9; have x10 : w2.cell? ⟨p, 10, none⟩ = some (.int .u64 v) := A2.cell 10; have xf10 := A2.free 10; have A3 := A2.putR (.int .i64 (pS v)) (.int .i64 (pC v)) (.int .i64 (pN v)) (.int .i64 (pM v)) (.int .i64 (pG v)) (.int .i64 (pT v)) (.int .i64 (pL v)); have g3 := g2.trans (Went.head3 w2 L1 p (.int .i64 (pS v)) (.int .i64 (pC v)) (.int .i64 (pN v)) (.int .i64 (pM v)) (.int .i64 (pG v)) (.int .i64 (pT v)) (.int .i64 (pL v)))))
  clear x0 xf0 x1 xf1 x2 xf2 x3 xf3 x4 xf4 x5 xf5 x6 xf6 x7 xf7 x8 xf8 x9 xf9 x10 xf10
  have A4 : At 80 ((((((((w2.setCell ⟨p, 3, none⟩ (.int .i64 (pS v))).setCell ⟨p, 4, none⟩ (.int .i64 (pC v))).setCell ⟨p, 5, none⟩ (.int .i64 (pN v))).setCell ⟨p, 6, none⟩ (.int .i64 (pM v))).setCell ⟨p, 7, none⟩ (.int .i64 (pG v))).setCell ⟨p, 8, none⟩ (.int .i64 (pT v))).setCell ⟨p, 9, none⟩ (.int .i64 (pL v))).setCell ⟨p, 2, none⟩ (.int .i64 2)) L1 (s.load c) p 150 #[.int .i64 c, .int .i64 m, .int .i64 2, .int .i64 (pS v), .int .i64 (pC v), .int .i64 (pN v), .int .i64 (pM v), .int .i64 (pG v), .int .i64 (pT v), .int .i64 (pL v), .int .u64 v] := A3.set 2 (.int .i64 2)
  have g4 := g3.trans (Went.set (((((((w2.setCell ⟨p, 3, none⟩ (.int .i64 (pS v))).setCell ⟨p, 4, none⟩ (.int .i64 (pC v))).setCell ⟨p, 5, none⟩ (.int .i64 (pN v))).setCell ⟨p, 6, none⟩ (.int .i64 (pM v))).setCell ⟨p, 7, none⟩ (.int .i64 (pG v))).setCell ⟨p, 8, none⟩ (.int .i64 (pT v))).setCell ⟨p, 9, none⟩ (.int .i64 (pL v))) L1 p 2 (.int .i64 2))
  clear A3 g3
  generalize (((((((w2.setCell ⟨p, 3, none⟩ (.int .i64 (pS v))).setCell ⟨p, 4, none⟩ (.int .i64 (pC v))).setCell ⟨p, 5, none⟩ (.int .i64 (pN v))).setCell ⟨p, 6, none⟩ (.int .i64 (pM v))).setCell ⟨p, 7, none⟩ (.int .i64 (pG v))).setCell ⟨p, 8, none⟩ (.int .i64 (pT v))).setCell ⟨p, 9, none⟩ (.int .i64 (pL v))).setCell ⟨p, 2, none⟩ (.int .i64 2) = wa at A4 g4 ⊢
  have u0 : wa.cell? ⟨p, 0, none⟩ = some (.int .i64 c) := A4.cell 0
  have uf0 := A4.free 0
  have u1 : wa.cell? ⟨p, 1, none⟩ = some (.int .i64 m) := A4.cell 1
  have uf1 := A4.free 1
  have u2 : wa.cell? ⟨p, 2, none⟩ = some (.int .i64 2) := A4.cell 2
  have uf2 := A4.free 2
  have u3 : wa.cell? ⟨p, 3, none⟩ = some (.int .i64 (pS v)) := A4.cell 3
  have uf3 := A4.free 3
  have u4 : wa.cell? ⟨p, 4, none⟩ = some (.int .i64 (pC v)) := A4.cell 4
  have uf4 := A4.free 4
  have u5 : wa.cell? ⟨p, 5, none⟩ = some (.int .i64 (pN v)) := A4.cell 5
  have uf5 := A4.free 5
  have u6 : wa.cell? ⟨p, 6, none⟩ = some (.int .i64 (pM v)) := A4.cell 6
  have uf6 := A4.free 6
  have u7 : wa.cell? ⟨p, 7, none⟩ = some (.int .i64 (pG v)) := A4.cell 7
  have uf7 := A4.free 7
  have u8 : wa.cell? ⟨p, 8, none⟩ = some (.int .i64 (pT v)) := A4.cell 8
  have uf8 := A4.free 8
  have u9 : wa.cell? ⟨p, 9, none⟩ = some (.int .i64 (pL v)) := A4.cell 9
  have uf9 := A4.free 9
  have u10 : wa.cell? ⟨p, 10, none⟩ = some (.int .u64 v) := A4.cell 10
  have uf10 := A4.free 10
  go_quiet (fail)
  go_wp2
  go_ret
  exact ⟨rfl, L1, (A4.below (S.bdr (Below.refl _ _) _)).set 2 (.int .i64 0), (g4.trans (Went.of_below (S.bdr (Below.refl _ _) _) _ _)).trans (Went.set _ _ _ _ _)⟩
set_option maxHeartbeats 1000000 in
theorem rs1c {c m z y1 y2 y3 y4 y5 y6 y7 : Int} (A : At 80 w L s p 150 #[.int .i64 c, .int .i64 m, .int .i64 1, .int .i64 y1, .int .i64 y2, .int .i64 y3, .int .i64 y4, .int .i64 y5, .int .i64 y6, .int .i64 y7, .int .u64 z]) (f : s.Fit) (hc : s.c < 1000000) (r : s.Rng) (h1 : pS (s.got c) = 1) (h2 : pM (s.got c) ≠ m) :
    Calls Tryd.prog 53 #[.pointer (some ⟨p, 0, none⟩), .pointer (some ⟨L.b, 0, none⟩)] w fun e w' => e = .returned (.bool false) ∧
      ∃ L', At 80 w' L' (s.load c) p 150 #[.int .i64 c, .int .i64 m, .int .i64 2, .int .i64 (pS (s.got c)), .int .i64 (pC (s.got c)), .int .i64 (pN (s.got c)), .int .i64 (pM (s.got c)), .int .i64 (pG (s.got c)), .int .i64 (pT (s.got c)), .int .i64 (pL (s.got c)), .int .u64 (s.got c)] ∧ Went w L p w' L' := by
  have c0 : w.cell? ⟨p, 0, none⟩ = some (.int .i64 c) := A.cell 0
  have cf0 := A.free 0
  have c2 : w.cell? ⟨p, 2, none⟩ = some (.int .i64 1) := A.cell 2
  have cf2 := A.free 2
  have hr := r.got c
  obtain ⟨v, hv⟩ : ∃ v, s.got c = v := ⟨_, rfl⟩
  rw [hv] at hr h1 h2 ⊢
  have q1 : (pS v != 1) = false := by simp [h1]
  have q2 : (pM v == m) = false := by simpa using h2
  clear h1 h2
  go_enter Tryd.func53, Tryd.ntmps53
  go_wp2_with (first
    | (go_at_call 44; refine (rLoad A.mem f hc c).mono ?_; rintro e w1 ⟨rfl, L1, hm1, st⟩; rw [hv]; have A1 := A.step hm1 st; have d10 : w1.cell? ⟨p, 10, none⟩ = some (.int .u64 z) := A1.cell 10; have df10 := A1.free 10)
    | (go_at_call 27; refine (H.rOf v hr.1 hr.2 _).mono ?_; rintro e w2 ⟨rfl, hw2⟩; have hb2 : Below (w1.setCell ⟨p, 10, none⟩ (.int .u64 v)).heap.size (w1.setCell ⟨p, 10, none⟩ (.int .u64 v)) w2 := (by rw [hw2]; go_grown); clear hw2; have A2 : At 80 w2 L1 (s.load c) p 150 #[.int .i64 c, .int .i64 m, .int .i64 1, .int .i64 y1, .int .i64 y2, .int .i64 y3, .int .i64 y4, .int .i64 y5, .int .i64 y6, .int .i64 y7, .int .u64 v] := (A1.set 10 (.int .u64 v)).below hb2; have g2 : Went w L p w2 L1 := ((Went.of_step st p).trans (Went.set _ _ _ _ _)).trans (Went.of_below hb2 _ _); clear hb2; have x0 : w2.cell? ⟨p, 0, none⟩ = some (.int .i64 c) := A2.cell 0; have xf0 := A2.free 0; have x1 : w2.cell? ⟨p, 1, none⟩ = some (.int .i64 m) := A2.cell 1; have xf1 := A2.free 1; have x2 : w2.cell? ⟨p, 2, none⟩ = some (.int .i64 1) := A2.cell 2; have xf2 := A2.free 2; have x3 : w2.cell? ⟨p, 3, none⟩ = some (.int .i64 y1) := A2.cell 3; have xf3 := A2.free 3; have x4 : w2.cell? ⟨p, 4, none⟩ = some (.int .i64 y2) := A2.cell 4; have xf4 := A2.free 4; have x5 : w2.cell? ⟨p, 5, none⟩ = some (.int .i64 y3) := A2.cell 5; have xf5 := A2.free 5; have x6 : w2.cell? ⟨p, 6, none⟩ = some (.int .i64 y4) := A2.cell 6; have xf6 := A2.free 6; have x7 : w2.cell? ⟨p, 7, none⟩ = some (.int .i64 y5) := A2.cell 7; have xf7 := A2.free 7; have x8 : w2.cell? ⟨p, 8, none⟩ = some (.int .i64 y6) := A2.cell 8; have xf8 := A2.free 8; have x9 : w2.cell? ⟨p, 9, none⟩ = some (.int .i64 y7) := A2.cell 9; have xf9 := A2.free 9; have x10 : w2.cell? ⟨p, 10, none⟩ = some (.int .u64 v) := A2.cell 10; have xf10 := A2.free 10; have A3 := A2.putR (.int .i64 (pS v)) (.int .i64 (pC v)) (.int .i64 (pN v)) (.int .i64 (pM v)) (.int .i64 (pG v)) (.int .i64 (pT v)) (.int .i64 (pL v)); have g3 := g2.trans (Went.head3 w2 L1 p (.int .i64 (pS v)) (.int .i64 (pC v)) (.int .i64 (pN v)) (.int .i64 (pM v)) (.int .i64 (pG v)) (.int .i64 (pT v)) (.int .i64 (pL v)))))
  clear x0 xf0 x1 xf1 x2 xf2 x3 xf3 x4 xf4 x5 xf5 x6 xf6 x7 xf7 x8 xf8 x9 xf9 x10 xf10
  have A4 : At 80 ((((((((w2.setCell ⟨p, 3, none⟩ (.int .i64 (pS v))).setCell ⟨p, 4, none⟩ (.int .i64 (pC v))).setCell ⟨p, 5, none⟩ (.int .i64 (pN v))).setCell ⟨p, 6, none⟩ (.int .i64 (pM v))).setCell ⟨p, 7, none⟩ (.int .i64 (pG v))).setCell ⟨p, 8, none⟩ (.int .i64 (pT v))).setCell ⟨p, 9, none⟩ (.int .i64 (pL v))).setCell ⟨p, 2, none⟩ (.int .i64 2)) L1 (s.load c) p 150 #[.int .i64 c, .int .i64 m, .int .i64 2, .int .i64 (pS v), .int .i64 (pC v), .int .i64 (pN v), .int .i64 (pM v), .int .i64 (pG v), .int .i64 (pT v), .int .i64 (pL v), .int .u64 v] := A3.set 2 (.int .i64 2)
  have g4 := g3.trans (Went.set (((((((w2.setCell ⟨p, 3, none⟩ (.int .i64 (pS v))).setCell ⟨p, 4, none⟩ (.int .i64 (pC v))).setCell ⟨p, 5, none⟩ (.int .i64 (pN v))).setCell ⟨p, 6, none⟩ (.int .i64 (pM v))).setCell ⟨p, 7, none⟩ (.int .i64 (pG v))).setCell ⟨p, 8, none⟩ (.int .i64 (pT v))).setCell ⟨p, 9, none⟩ (.int .i64 (pL v))) L1 p 2 (.int .i64 2))
  clear A3 g3
  generalize (((((((w2.setCell ⟨p, 3, none⟩ (.int .i64 (pS v))).setCell ⟨p, 4, none⟩ (.int .i64 (pC v))).setCell ⟨p, 5, none⟩ (.int .i64 (pN v))).setCell ⟨p, 6, none⟩ (.int .i64 (pM v))).setCell ⟨p, 7, none⟩ (.int .i64 (pG v))).setCell ⟨p, 8, none⟩ (.int .i64 (pT v))).setCell ⟨p, 9, none⟩ (.int .i64 (pL v))).setCell ⟨p, 2, none⟩ (.int .i64 2) = wa at A4 g4 ⊢
  have u0 : wa.cell? ⟨p, 0, none⟩ = some (.int .i64 c) := A4.cell 0
  have uf0 := A4.free 0
  have u1 : wa.cell? ⟨p, 1, none⟩ = some (.int .i64 m) := A4.cell 1
  have uf1 := A4.free 1
  have u2 : wa.cell? ⟨p, 2, none⟩ = some (.int .i64 2) := A4.cell 2
  have uf2 := A4.free 2
  have u3 : wa.cell? ⟨p, 3, none⟩ = some (.int .i64 (pS v)) := A4.cell 3
  have uf3 := A4.free 3
  have u4 : wa.cell? ⟨p, 4, none⟩ = some (.int .i64 (pC v)) := A4.cell 4
  have uf4 := A4.free 4
  have u5 : wa.cell? ⟨p, 5, none⟩ = some (.int .i64 (pN v)) := A4.cell 5
  have uf5 := A4.free 5
  have u6 : wa.cell? ⟨p, 6, none⟩ = some (.int .i64 (pM v)) := A4.cell 6
  have uf6 := A4.free 6
  have u7 : wa.cell? ⟨p, 7, none⟩ = some (.int .i64 (pG v)) := A4.cell 7
  have uf7 := A4.free 7
  have u8 : wa.cell? ⟨p, 8, none⟩ = some (.int .i64 (pT v)) := A4.cell 8
  have uf8 := A4.free 8
  have u9 : wa.cell? ⟨p, 9, none⟩ = some (.int .i64 (pL v)) := A4.cell 9
  have uf9 := A4.free 9
  have u10 : wa.cell? ⟨p, 10, none⟩ = some (.int .u64 v) := A4.cell 10
  have uf10 := A4.free 10
  go_quiet (fail)
  go_wp2
  go_ret
  exact ⟨rfl, L1, A4.below (S.bdr (Below.refl _ _) _), g4.trans (Went.of_below (S.bdr (Below.refl _ _) _) _ _)⟩
set_option maxHeartbeats 1000000 in
theorem rs2t {c m z y1 y2 y3 y4 y5 y6 y7 : Int} (A : At 80 w L s p 150 #[.int .i64 c, .int .i64 m, .int .i64 2, .int .i64 y1, .int .i64 y2, .int .i64 y3, .int .i64 y4, .int .i64 y5, .int .i64 y6, .int .i64 y7, .int .u64 z]) (f : s.Fit) (hc : s.c < 1000000) (r : s.Rng) (hok : s.ok1 c z = true) :
    Calls Tryd.prog 53 #[.pointer (some ⟨p, 0, none⟩), .pointer (some ⟨L.b, 0, none⟩)] w fun e w' => e = .returned (.bool false) ∧
      ∃ L', At 80 w' L' (s.cas c z (hw y1 y2 y3 m 1 y6 0)) p 150 #[.int .i64 c, .int .i64 m, .int .i64 3, .int .i64 y1, .int .i64 y2, .int .i64 y3, .int .i64 m, .int .i64 1, .int .i64 y6, .int .i64 0, .int .u64 z] ∧ Went w L p w' L' := by
  have c1 : w.cell? ⟨p, 1, none⟩ = some (.int .i64 m) := A.cell 1
  have cf1 := A.free 1
  have c2 : w.cell? ⟨p, 2, none⟩ = some (.int .i64 2) := A.cell 2
  have cf2 := A.free 2
  have c6 : w.cell? ⟨p, 6, none⟩ = some (.int .i64 y4) := A.cell 6
  have cf6 := A.free 6
  have c7 : w.cell? ⟨p, 7, none⟩ = some (.int .i64 y5) := A.cell 7
  have cf7 := A.free 7
  have c9 : w.cell? ⟨p, 9, none⟩ = some (.int .i64 y7) := A.cell 9
  have cf9 := A.free 9
  go_enter Tryd.func53, Tryd.ntmps53
  go_wp2
  have bA1 : At 80 (w.setCell ⟨p, 6, none⟩ (.int .i64 m)) L s p 150 #[.int .i64 c, .int .i64 m, .int .i64 2, .int .i64 y1, .int .i64 y2, .int .i64 y3, .int .i64 m, .int .i64 y5, .int .i64 y6, .int .i64 y7, .int .u64 z] := A.set 6 (.int .i64 m)
  have bA2 : At 80 ((w.setCell ⟨p, 6, none⟩ (.int .i64 m)).setCell ⟨p, 7, none⟩ (.int .i64 1)) L s p 150 #[.int .i64 c, .int .i64 m, .int .i64 2, .int .i64 y1, .int .i64 y2, .int .i64 y3, .int .i64 m, .int .i64 1, .int .i64 y6, .int .i64 y7, .int .u64 z] := bA1.set 7 (.int .i64 1)
  have bA3 : At 80 (((w.setCell ⟨p, 6, none⟩ (.int .i64 m)).setCell ⟨p, 7, none⟩ (.int .i64 1)).setCell ⟨p, 9, none⟩ (.int .i64 0)) L s p 150 #[.int .i64 c, .int .i64 m, .int .i64 2, .int .i64 y1, .int .i64 y2, .int .i64 y3, .int .i64 m, .int .i64 1, .int .i64 y6, .int .i64 0, .int .u64 z] := bA2.set 9 (.int .i64 0)
  have bg : Went w L p (((w.setCell ⟨p, 6, none⟩ (.int .i64 m)).setCell ⟨p, 7, none⟩ (.int .i64 1)).setCell ⟨p, 9, none⟩ (.int .i64 0)) L := ((((Went.refl w L p).trans (Went.set _ _ _ _ _)).trans (Went.set _ _ _ _ _)).trans (Went.set _ _ _ _ _))
  clear c1 cf1 c2 cf2 c6 cf6 c7 cf7 c9 cf9
  have Aa := bA3
  have ga := bg
  clear bA1 bA2 bA3 bg
  generalize ((w.setCell ⟨p, 6, none⟩ (.int .i64 m)).setCell ⟨p, 7, none⟩ (.int .i64 1)).setCell ⟨p, 9, none⟩ (.int .i64 0) = wa at Aa ga ⊢
  have keep : ∀ w', Below wa.heap.size wa w' → w'.cell? ⟨p, 0, none⟩ = some (.int .i64 c) ∧ w'.cell? ⟨p, 3, none⟩ = some (.int .i64 y1) ∧ w'.cell? ⟨p, 4, none⟩ = some (.int .i64 y2) ∧ w'.cell? ⟨p, 5, none⟩ = some (.int .i64 y3) ∧ w'.cell? ⟨p, 6, none⟩ = some (.int .i64 m) ∧ w'.cell? ⟨p, 7, none⟩ = some (.int .i64 1) ∧ w'.cell? ⟨p, 8, none⟩ = some (.int .i64 y6) ∧ w'.cell? ⟨p, 9, none⟩ = some (.int .i64 0) ∧ w'.cell? ⟨p, 10, none⟩ = some (.int .u64 z) := fun w' hb => ⟨(Aa.below hb).cell 0, (Aa.below hb).cell 3, (Aa.below hb).cell 4, (Aa.below hb).cell 5, (Aa.below hb).cell 6, (Aa.below hb).cell 7, (Aa.below hb).cell 8, (Aa.below hb).cell 9, (Aa.below hb).cell 10⟩
  have hbd : Below wa.heap.size wa wa.drew := (Below.refl wa.heap.size wa).drew
  have RD := keep _ hbd
  go_region_held3 (fun w' => w'.cell? ⟨p, 0, none⟩ = some (.int .i64 c) ∧ w'.cell? ⟨p, 3, none⟩ = some (.int .i64 y1) ∧ w'.cell? ⟨p, 4, none⟩ = some (.int .i64 y2) ∧ w'.cell? ⟨p, 5, none⟩ = some (.int .i64 y3) ∧ w'.cell? ⟨p, 6, none⟩ = some (.int .i64 m) ∧ w'.cell? ⟨p, 7, none⟩ = some (.int .i64 1) ∧ w'.cell? ⟨p, 8, none⟩ = some (.int .i64 y6) ∧ w'.cell? ⟨p, 9, none⟩ = some (.int .i64 0) ∧ w'.cell? ⟨p, 10, none⟩ = some (.int .u64 z)) (first | assumption | exact RD | exact keep _ (by assumption))
    (first
      | (go_at_call 38; refine (H.rWord y1 y2 y3 m 1 y6 0 _).mono ?_; rintro e w1 ⟨rfl, hw1⟩; have hb1' : Below wa.heap.size wa w1 := (by rw [hw1]; exact bel_trans hbd ((Below.refl _ _).alloc (Nat.le_refl _) _)); clear hw1)
      | (go_at_call 86; refine (rCAS (Aa.below hb1').mem f hc c z (hw y1 y2 y3 m 1 y6 0)).mono ?_; rintro e w2 ⟨rfl, L2, hm2, st2⟩; rw [hok]; have A2 := (Aa.below hb1').step hm2 st2; have S2 : w2.cell? ⟨p, 0, none⟩ = some (.int .i64 c) ∧ w2.cell? ⟨p, 3, none⟩ = some (.int .i64 y1) ∧ w2.cell? ⟨p, 4, none⟩ = some (.int .i64 y2) ∧ w2.cell? ⟨p, 5, none⟩ = some (.int .i64 y3) ∧ w2.cell? ⟨p, 6, none⟩ = some (.int .i64 m) ∧ w2.cell? ⟨p, 7, none⟩ = some (.int .i64 1) ∧ w2.cell? ⟨p, 8, none⟩ = some (.int .i64 y6) ∧ w2.cell? ⟨p, 9, none⟩ = some (.int .i64 0) ∧ w2.cell? ⟨p, 10, none⟩ = some (.int .u64 z) := ⟨A2.cell 0, A2.cell 3, A2.cell 4, A2.cell 5, A2.cell 6, A2.cell 7, A2.cell 8, A2.cell 9, A2.cell 10⟩; have g2 := (ga.trans (Went.of_below hb1' L p)).trans (Went.of_step st2 p); have d2 : w2.cell? ⟨p, 2, none⟩ = some (.int .i64 2) := A2.cell 2; have df2 := A2.free 2))
  go_wp2
  go_ret
  exact ⟨rfl, L2, (A2.set 2 (.int .i64 1)).set 2 (.int .i64 3), (g2.trans (Went.set _ _ _ _ _)).trans (Went.set _ _ _ _ _)⟩
set_option maxHeartbeats 1000000 in
theorem rs2f {c m z y1 y2 y3 y4 y5 y6 y7 : Int} (A : At 80 w L s p 150 #[.int .i64 c, .int .i64 m, .int .i64 2, .int .i64 y1, .int .i64 y2, .int .i64 y3, .int .i64 y4, .int .i64 y5, .int .i64 y6, .int .i64 y7, .int .u64 z]) (f : s.Fit) (hc : s.c < 1000000) (r : s.Rng) (hok : s.ok1 c z = false) :
    Calls Tryd.prog 53 #[.pointer (some ⟨p, 0, none⟩), .pointer (some ⟨L.b, 0, none⟩)] w fun e w' => e = .returned (.bool false) ∧
      ∃ L', At 80 w' L' (s.cas c z (hw y1 y2 y3 m 1 y6 0)) p 150 #[.int .i64 c, .int .i64 m, .int .i64 1, .int .i64 y1, .int .i64 y2, .int .i64 y3, .int .i64 m, .int .i64 1, .int .i64 y6, .int .i64 0, .int .u64 z] ∧ Went w L p w' L' := by
  have c1 : w.cell? ⟨p, 1, none⟩ = some (.int .i64 m) := A.cell 1
  have cf1 := A.free 1
  have c2 : w.cell? ⟨p, 2, none⟩ = some (.int .i64 2) := A.cell 2
  have cf2 := A.free 2
  have c6 : w.cell? ⟨p, 6, none⟩ = some (.int .i64 y4) := A.cell 6
  have cf6 := A.free 6
  have c7 : w.cell? ⟨p, 7, none⟩ = some (.int .i64 y5) := A.cell 7
  have cf7 := A.free 7
  have c9 : w.cell? ⟨p, 9, none⟩ = some (.int .i64 y7) := A.cell 9
  have cf9 := A.free 9
  go_enter Tryd.func53, Tryd.ntmps53
  go_wp2
  have bA1 : At 80 (w.setCell ⟨p, 6, none⟩ (.int .i64 m)) L s p 150 #[.int .i64 c, .int .i64 m, .int .i64 2, .int .i64 y1, .int .i64 y2, .int .i64 y3, .int .i64 m, .int .i64 y5, .int .i64 y6, .int .i64 y7, .int .u64 z] := A.set 6 (.int .i64 m)
  have bA2 : At 80 ((w.setCell ⟨p, 6, none⟩ (.int .i64 m)).setCell ⟨p, 7, none⟩ (.int .i64 1)) L s p 150 #[.int .i64 c, .int .i64 m, .int .i64 2, .int .i64 y1, .int .i64 y2, .int .i64 y3, .int .i64 m, .int .i64 1, .int .i64 y6, .int .i64 y7, .int .u64 z] := bA1.set 7 (.int .i64 1)
  have bA3 : At 80 (((w.setCell ⟨p, 6, none⟩ (.int .i64 m)).setCell ⟨p, 7, none⟩ (.int .i64 1)).setCell ⟨p, 9, none⟩ (.int .i64 0)) L s p 150 #[.int .i64 c, .int .i64 m, .int .i64 2, .int .i64 y1, .int .i64 y2, .int .i64 y3, .int .i64 m, .int .i64 1, .int .i64 y6, .int .i64 0, .int .u64 z] := bA2.set 9 (.int .i64 0)
  have bg : Went w L p (((w.setCell ⟨p, 6, none⟩ (.int .i64 m)).setCell ⟨p, 7, none⟩ (.int .i64 1)).setCell ⟨p, 9, none⟩ (.int .i64 0)) L := ((((Went.refl w L p).trans (Went.set _ _ _ _ _)).trans (Went.set _ _ _ _ _)).trans (Went.set _ _ _ _ _))
  clear c1 cf1 c2 cf2 c6 cf6 c7 cf7 c9 cf9
  have Aa := bA3
  have ga := bg
  clear bA1 bA2 bA3 bg
  generalize ((w.setCell ⟨p, 6, none⟩ (.int .i64 m)).setCell ⟨p, 7, none⟩ (.int .i64 1)).setCell ⟨p, 9, none⟩ (.int .i64 0) = wa at Aa ga ⊢
  have keep : ∀ w', Below wa.heap.size wa w' → w'.cell? ⟨p, 0, none⟩ = some (.int .i64 c) ∧ w'.cell? ⟨p, 3, none⟩ = some (.int .i64 y1) ∧ w'.cell? ⟨p, 4, none⟩ = some (.int .i64 y2) ∧ w'.cell? ⟨p, 5, none⟩ = some (.int .i64 y3) ∧ w'.cell? ⟨p, 6, none⟩ = some (.int .i64 m) ∧ w'.cell? ⟨p, 7, none⟩ = some (.int .i64 1) ∧ w'.cell? ⟨p, 8, none⟩ = some (.int .i64 y6) ∧ w'.cell? ⟨p, 9, none⟩ = some (.int .i64 0) ∧ w'.cell? ⟨p, 10, none⟩ = some (.int .u64 z) := fun w' hb => ⟨(Aa.below hb).cell 0, (Aa.below hb).cell 3, (Aa.below hb).cell 4, (Aa.below hb).cell 5, (Aa.below hb).cell 6, (Aa.below hb).cell 7, (Aa.below hb).cell 8, (Aa.below hb).cell 9, (Aa.below hb).cell 10⟩
  have hbd : Below wa.heap.size wa wa.drew := (Below.refl wa.heap.size wa).drew
  have RD := keep _ hbd
  go_region_held3 (fun w' => w'.cell? ⟨p, 0, none⟩ = some (.int .i64 c) ∧ w'.cell? ⟨p, 3, none⟩ = some (.int .i64 y1) ∧ w'.cell? ⟨p, 4, none⟩ = some (.int .i64 y2) ∧ w'.cell? ⟨p, 5, none⟩ = some (.int .i64 y3) ∧ w'.cell? ⟨p, 6, none⟩ = some (.int .i64 m) ∧ w'.cell? ⟨p, 7, none⟩ = some (.int .i64 1) ∧ w'.cell? ⟨p, 8, none⟩ = some (.int .i64 y6) ∧ w'.cell? ⟨p, 9, none⟩ = some (.int .i64 0) ∧ w'.cell? ⟨p, 10, none⟩ = some (.int .u64 z)) (first | assumption | exact RD | exact keep _ (by assumption))
    (first
      | (go_at_call 38; refine (H.rWord y1 y2 y3 m 1 y6 0 _).mono ?_; rintro e w1 ⟨rfl, hw1⟩; have hb1' : Below wa.heap.size wa w1 := (by rw [hw1]; exact bel_trans hbd ((Below.refl _ _).alloc (Nat.le_refl _) _)); clear hw1)
      | (go_at_call 86; refine (rCAS (Aa.below hb1').mem f hc c z (hw y1 y2 y3 m 1 y6 0)).mono ?_; rintro e w2 ⟨rfl, L2, hm2, st2⟩; rw [hok]; have A2 := (Aa.below hb1').step hm2 st2; have S2 : w2.cell? ⟨p, 0, none⟩ = some (.int .i64 c) ∧ w2.cell? ⟨p, 3, none⟩ = some (.int .i64 y1) ∧ w2.cell? ⟨p, 4, none⟩ = some (.int .i64 y2) ∧ w2.cell? ⟨p, 5, none⟩ = some (.int .i64 y3) ∧ w2.cell? ⟨p, 6, none⟩ = some (.int .i64 m) ∧ w2.cell? ⟨p, 7, none⟩ = some (.int .i64 1) ∧ w2.cell? ⟨p, 8, none⟩ = some (.int .i64 y6) ∧ w2.cell? ⟨p, 9, none⟩ = some (.int .i64 0) ∧ w2.cell? ⟨p, 10, none⟩ = some (.int .u64 z) := ⟨A2.cell 0, A2.cell 3, A2.cell 4, A2.cell 5, A2.cell 6, A2.cell 7, A2.cell 8, A2.cell 9, A2.cell 10⟩; have g2 := (ga.trans (Went.of_below hb1' L p)).trans (Went.of_step st2 p); have d2 : w2.cell? ⟨p, 2, none⟩ = some (.int .i64 2) := A2.cell 2; have df2 := A2.free 2))
  go_wp2
  go_ret
  exact ⟨rfl, L2, A2.set 2 (.int .i64 1), g2.trans (Went.set _ _ _ _ _)⟩
set_option maxHeartbeats 1000000 in
theorem rs3 {c m z y1 y2 y3 y4 y5 y6 y7 : Int} (A : At 80 w L s p 150 #[.int .i64 c, .int .i64 m, .int .i64 3, .int .i64 y1, .int .i64 y2, .int .i64 y3, .int .i64 y4, .int .i64 y5, .int .i64 y6, .int .i64 y7, .int .u64 z]) (f : s.Fit) (hc : s.c < 1000000) (r : s.Rng) :
    Calls Tryd.prog 53 #[.pointer (some ⟨p, 0, none⟩), .pointer (some ⟨L.b, 0, none⟩)] w fun e w' => e = .returned (.bool false) ∧
      ∃ L', At 80 w' L' (s.load 1) p 150 #[.int .i64 c, .int .i64 m, .int .i64 4, .int .i64 y1, .int .i64 y2, .int .i64 y3, .int .i64 y4, .int .i64 y5, .int .i64 y6, .int .i64 y7, .int .u64 (s.got 1)] ∧ Went w L p w' L' := by
  have c2 : w.cell? ⟨p, 2, none⟩ = some (.int .i64 3) := A.cell 2
  have cf2 := A.free 2
  go_enter Tryd.func53, Tryd.ntmps53
  go_wp2_with (go_at_call 44; refine (rLoad A.mem f hc 1).mono ?_; rintro e w1 ⟨rfl, L1, hm1, st⟩; have A1 := A.step hm1 st; have d2 : w1.cell? ⟨p, 2, none⟩ = some (.int .i64 3) := A1.cell 2; have df2 := A1.free 2; have d10 : w1.cell? ⟨p, 10, none⟩ = some (.int .u64 z) := A1.cell 10; have df10 := A1.free 10)
  go_ret
  exact ⟨rfl, L1, (A1.set 10 _).set 2 (.int .i64 4), ((Went.of_step st p).trans (Went.set _ _ _ _ _)).trans (Went.set _ _ _ _ _)⟩
set_option maxHeartbeats 1000000 in
theorem rs4 {c m z y1 y2 y3 y4 y5 y6 y7 : Int} (A : At 80 w L s p 150 #[.int .i64 c, .int .i64 m, .int .i64 4, .int .i64 y1, .int .i64 y2, .int .i64 y3, .int .i64 y4, .int .i64 y5, .int .i64 y6, .int .i64 y7, .int .u64 z]) (f : s.Fit) (hc : s.c < 1000000) (r : s.Rng) (hz : U64 z) :
    Calls Tryd.prog 53 #[.pointer (some ⟨p, 0, none⟩), .pointer (some ⟨L.b, 0, none⟩)] w fun e w' => e = .returned (.bool false) ∧
      ∃ L', At 80 w' L' (s.store c (hw y1 y2 y3 y4 y5 y6 (t0 z))) p 150 #[.int .i64 c, .int .i64 m, .int .i64 5, .int .i64 y1, .int .i64 y2, .int .i64 y3, .int .i64 y4, .int .i64 y5, .int .i64 y6, .int .i64 (t0 z), .int .u64 z] ∧ Went w L p w' L' := by
  have c2 : w.cell? ⟨p, 2, none⟩ = some (.int .i64 4) := A.cell 2
  have cf2 := A.free 2
  have c10 : w.cell? ⟨p, 10, none⟩ = some (.int .u64 z) := A.cell 10
  have cf10 := A.free 10
  have f0 := ftop0 (t0 z) (t1 z)
  go_enter Tryd.func53, Tryd.ntmps53
  go_wp2_with (go_at_call 33; refine (S.rOfTop z hz.1 hz.2 _).mono ?_; rintro e w0 ⟨rfl, hw0⟩; have hb0 : Below w.heap.size w w0 := (by rw [hw0]; go_grown); clear hw0; have A0 := A.below hb0; have d9 : w0.cell? ⟨p, 9, none⟩ = some (.int .i64 y7) := A0.cell 9; have df9 := A0.free 9)
  have Aa : At 80 (w0.setCell ⟨p, 9, none⟩ (.int .i64 (t0 z))) L s p 150 #[.int .i64 c, .int .i64 m, .int .i64 4, .int .i64 y1, .int .i64 y2, .int .i64 y3, .int .i64 y4, .int .i64 y5, .int .i64 y6, .int .i64 (t0 z), .int .u64 z] := A0.set 9 (.int .i64 (t0 z))
  have ga : Went w L p (w0.setCell ⟨p, 9, none⟩ (.int .i64 (t0 z))) L := (Went.of_below hb0 L p).trans (Went.set _ _ _ _ _)
  generalize w0.setCell ⟨p, 9, none⟩ (.int .i64 (t0 z)) = wa at Aa ga ⊢
  have keep : ∀ w', Below wa.heap.size wa w' → w'.cell? ⟨p, 0, none⟩ = some (.int .i64 c) ∧ w'.cell? ⟨p, 3, none⟩ = some (.int .i64 y1) ∧ w'.cell? ⟨p, 4, none⟩ = some (.int .i64 y2) ∧ w'.cell? ⟨p, 5, none⟩ = some (.int .i64 y3) ∧ w'.cell? ⟨p, 6, none⟩ = some (.int .i64 y4) ∧ w'.cell? ⟨p, 7, none⟩ = some (.int .i64 y5) ∧ w'.cell? ⟨p, 8, none⟩ = some (.int .i64 y6) ∧ w'.cell? ⟨p, 9, none⟩ = some (.int .i64 (t0 z)) := fun w' hb => ⟨(Aa.below hb).cell 0, (Aa.below hb).cell 3, (Aa.below hb).cell 4, (Aa.below hb).cell 5, (Aa.below hb).cell 6, (Aa.below hb).cell 7, (Aa.below hb).cell 8, (Aa.below hb).cell 9⟩
  have hbd : Below wa.heap.size wa wa.drew := (Below.refl wa.heap.size wa).drew
  have RD := keep _ hbd
  go_region_held3 (fun w' => w'.cell? ⟨p, 0, none⟩ = some (.int .i64 c) ∧ w'.cell? ⟨p, 3, none⟩ = some (.int .i64 y1) ∧ w'.cell? ⟨p, 4, none⟩ = some (.int .i64 y2) ∧ w'.cell? ⟨p, 5, none⟩ = some (.int .i64 y3) ∧ w'.cell? ⟨p, 6, none⟩ = some (.int .i64 y4) ∧ w'.cell? ⟨p, 7, none⟩ = some (.int .i64 y5) ∧ w'.cell? ⟨p, 8, none⟩ = some (.int .i64 y6) ∧ w'.cell? ⟨p, 9, none⟩ = some (.int .i64 (t0 z))) (first | assumption | exact RD | exact keep _ (by assumption))
    (first
      | (go_at_call 38; refine (H.rWord y1 y2 y3 y4 y5 y6 (t0 z) _).mono ?_; rintro e w1 ⟨rfl, hw1⟩; have hb1' : Below wa.heap.size wa w1 := (by rw [hw1]; exact bel_trans hbd ((Below.refl _ _).alloc (Nat.le_refl _) _)); clear hw1)
      | (go_at_call 39; refine (rStore (Aa.below hb1').mem f hc c (hw y1 y2 y3 y4 y5 y6 (t0 z))).mono ?_; rintro e w2 ⟨rfl, L2, hm2, st2⟩; have A2 := (Aa.below hb1').step hm2 st2; have S2 : w2.cell? ⟨p, 0, none⟩ = some (.int .i64 c) ∧ w2.cell? ⟨p, 3, none⟩ = some (.int .i64 y1) ∧ w2.cell? ⟨p, 4, none⟩ = some (.int .i64 y2) ∧ w2.cell? ⟨p, 5, none⟩ = some (.int .i64 y3) ∧ w2.cell? ⟨p, 6, none⟩ = some (.int .i64 y4) ∧ w2.cell? ⟨p, 7, none⟩ = some (.int .i64 y5) ∧ w2.cell? ⟨p, 8, none⟩ = some (.int .i64 y6) ∧ w2.cell? ⟨p, 9, none⟩ = some (.int .i64 (t0 z)) := ⟨A2.cell 0, A2.cell 3, A2.cell 4, A2.cell 5, A2.cell 6, A2.cell 7, A2.cell 8, A2.cell 9⟩; have g2 := (ga.trans (Went.of_below hb1' L p)).trans (Went.of_step st2 p); have d2 : w2.cell? ⟨p, 2, none⟩ = some (.int .i64 4) := A2.cell 2; have df2 := A2.free 2))
  go_wp2
  go_ret
  exact ⟨rfl, L2, A2.set 2 (.int .i64 5), g2.trans (Went.set _ _ _ _ _)⟩
set_option maxHeartbeats 1000000 in
theorem rs5t {c m z y1 y2 y3 y4 y5 y6 y7 : Int} (A : At 80 w L s p 150 #[.int .i64 c, .int .i64 m, .int .i64 5, .int .i64 y1, .int .i64 y2, .int .i64 y3, .int .i64 y4, .int .i64 y5, .int .i64 y6, .int .i64 y7, .int .u64 z]) (f : s.Fit) (hc : s.c < 1000000) (r : s.Rng) (hz : U64 z) (hok : s.ok1 1 z = true) :
    Calls Tryd.prog 53 #[.pointer (some ⟨p, 0, none⟩), .pointer (some ⟨L.b, 0, none⟩)] w fun e w' => e = .returned (.bool true) ∧
      ∃ L', At 80 w' L' (s.cas 1 z (nx z c)) p 150 #[.int .i64 c, .int .i64 m, .int .i64 0, .int .i64 y1, .int .i64 y2, .int .i64 y3, .int .i64 y4, .int .i64 y5, .int .i64 y6, .int .i64 y7, .int .u64 z] ∧ Went w L p w' L' := by
  have c2 : w.cell? ⟨p, 2, none⟩ = some (.int .i64 5) := A.cell 2
  have cf2 := A.free 2
  go_enter Tryd.func53, Tryd.ntmps53
  go_wp2
  have keep : ∀ w', Below w.heap.size w w' → w'.cell? ⟨p, 0, none⟩ = some (.int .i64 c) ∧ w'.cell? ⟨p, 10, none⟩ = some (.int .u64 z) := fun w' hb => ⟨(A.below hb).cell 0, (A.below hb).cell 10⟩
  have hbd : Below w.heap.size w w.drew := (Below.refl w.heap.size w).drew
  have RD := keep _ hbd
  go_region_held3 (fun w' => w'.cell? ⟨p, 0, none⟩ = some (.int .i64 c) ∧ w'.cell? ⟨p, 10, none⟩ = some (.int .u64 z)) (first | assumption | exact RD | exact keep _ (by assumption))
    (first
      | (go_at_call 87; refine (S.hNext z c hz.1 hz.2 _).mono ?_; rintro e w1 ⟨rfl, hb1⟩; have hb1' := bel_trans hbd hb1)
      | (go_at_call 86; refine (rCAS (A.below hb1').mem f hc 1 z (nx z c)).mono ?_; rintro e w2 ⟨rfl, L2, hm2, st2⟩; rw [hok]; have A2 := (A.below hb1').step hm2 st2; have S2 : w2.cell? ⟨p, 0, none⟩ = some (.int .i64 c) ∧ w2.cell? ⟨p, 10, none⟩ = some (.int .u64 z) := ⟨A2.cell 0, A2.cell 10⟩; have g2 := (Went.of_below hb1' L p).trans (Went.of_step st2 p); have d2 : w2.cell? ⟨p, 2, none⟩ = some (.int .i64 5) := A2.cell 2; have df2 := A2.free 2))
  go_wp2
  go_ret
  exact ⟨rfl, L2, (A2.set 2 (.int .i64 3)).set 2 (.int .i64 0), (g2.trans (Went.set _ _ _ _ _)).trans (Went.set _ _ _ _ _)⟩
set_option maxHeartbeats 1000000 in
theorem rs5f {c m z y1 y2 y3 y4 y5 y6 y7 : Int} (A : At 80 w L s p 150 #[.int .i64 c, .int .i64 m, .int .i64 5, .int .i64 y1, .int .i64 y2, .int .i64 y3, .int .i64 y4, .int .i64 y5, .int .i64 y6, .int .i64 y7, .int .u64 z]) (f : s.Fit) (hc : s.c < 1000000) (r : s.Rng) (hz : U64 z) (hok : s.ok1 1 z = false) :
    Calls Tryd.prog 53 #[.pointer (some ⟨p, 0, none⟩), .pointer (some ⟨L.b, 0, none⟩)] w fun e w' => e = .returned (.bool false) ∧
      ∃ L', At 80 w' L' (s.cas 1 z (nx z c)) p 150 #[.int .i64 c, .int .i64 m, .int .i64 3, .int .i64 y1, .int .i64 y2, .int .i64 y3, .int .i64 y4, .int .i64 y5, .int .i64 y6, .int .i64 y7, .int .u64 z] ∧ Went w L p w' L' := by
  have c2 : w.cell? ⟨p, 2, none⟩ = some (.int .i64 5) := A.cell 2
  have cf2 := A.free 2
  go_enter Tryd.func53, Tryd.ntmps53
  go_wp2
  have keep : ∀ w', Below w.heap.size w w' → w'.cell? ⟨p, 0, none⟩ = some (.int .i64 c) ∧ w'.cell? ⟨p, 10, none⟩ = some (.int .u64 z) := fun w' hb => ⟨(A.below hb).cell 0, (A.below hb).cell 10⟩
  have hbd : Below w.heap.size w w.drew := (Below.refl w.heap.size w).drew
  have RD := keep _ hbd
  go_region_held3 (fun w' => w'.cell? ⟨p, 0, none⟩ = some (.int .i64 c) ∧ w'.cell? ⟨p, 10, none⟩ = some (.int .u64 z)) (first | assumption | exact RD | exact keep _ (by assumption))
    (first
      | (go_at_call 87; refine (S.hNext z c hz.1 hz.2 _).mono ?_; rintro e w1 ⟨rfl, hb1⟩; have hb1' := bel_trans hbd hb1)
      | (go_at_call 86; refine (rCAS (A.below hb1').mem f hc 1 z (nx z c)).mono ?_; rintro e w2 ⟨rfl, L2, hm2, st2⟩; rw [hok]; have A2 := (A.below hb1').step hm2 st2; have S2 : w2.cell? ⟨p, 0, none⟩ = some (.int .i64 c) ∧ w2.cell? ⟨p, 10, none⟩ = some (.int .u64 z) := ⟨A2.cell 0, A2.cell 10⟩; have g2 := (Went.of_below hb1' L p).trans (Went.of_step st2 p); have d2 : w2.cell? ⟨p, 2, none⟩ = some (.int .i64 5) := A2.cell 2; have df2 := A2.free 2))
  go_wp2
  go_ret
  exact ⟨rfl, L2, A2.set 2 (.int .i64 3), g2.trans (Went.set _ _ _ _ _)⟩
set_option maxHeartbeats 1000000 in
theorem rs0 {c m z y1 y2 y3 y4 y5 y6 y7 : Int} (A : At 80 w L s p 150 #[.int .i64 c, .int .i64 m, .int .i64 0, .int .i64 y1, .int .i64 y2, .int .i64 y3, .int .i64 y4, .int .i64 y5, .int .i64 y6, .int .i64 y7, .int .u64 z]) (f : s.Fit) (hc : s.c < 1000000) (r : s.Rng) :
    Calls Tryd.prog 53 #[.pointer (some ⟨p, 0, none⟩), .pointer (some ⟨L.b, 0, none⟩)] w fun e w' => e = .returned (.bool true) ∧
      ∃ L', At 80 w' L' (s) p 150 #[.int .i64 c, .int .i64 m, .int .i64 0, .int .i64 y1, .int .i64 y2, .int .i64 y3, .int .i64 y4, .int .i64 y5, .int .i64 y6, .int .i64 y7, .int .u64 z] ∧ Went w L p w' L' := by
  have c2 : w.cell? ⟨p, 2, none⟩ = some (.int .i64 0) := A.cell 2
  have cf2 := A.free 2
  go_enter Tryd.func53, Tryd.ntmps53
  go_wp2
  go_ret
  exact ⟨rfl, L, A, Went.refl _ _ _⟩
/-- a step of the reference's Shade -/
theorem rShade {x : ShadeS} {h : Hd} {z : Int} (A : At 80 w L s p 150 (x.rcells h z)) (rf : x.Rf h z) (ok : x.Ok) (f : s.Fit) (hc : s.c < 1000000) (r : s.Rng) :
    Calls Tryd.prog 53 #[.pointer (some ⟨p, 0, none⟩), .pointer (some ⟨L.b, 0, none⟩)] w fun e w' => e = .returned (.bool ((x.next s).pc == 0)) ∧
      ∃ L' h' z', At 80 w' L' (x.mem s) p 150 ((x.next s).rcells h' z') ∧ (x.next s).Rf h' z' ∧ Went w L p w' L' := by
  obtain ⟨c, m, pc, q, g, l⟩ := x
  obtain ⟨y1, y2, y3, y4, y5, y6, y7⟩ := h
  rcases pc_cases5 ok.pc with rfl | rfl | rfl | rfl | rfl | rfl
  · refine (rs0 A f hc r).mono ?_
    rintro e w' ⟨rfl, L', A', g'⟩
    exact ⟨rfl, L', _, _, A', rf, g'⟩
  · simp only [ShadeS.next]
    by_cases h1 : pS (s.got c) = 1
    · by_cases h2 : pM (s.got c) = m
      · rw [if_pos (show skips (s.got c) m from Or.inr h2)]
        refine (rs1b A f hc r h1 h2).mono ?_
        rintro e w' ⟨rfl, L', A', g'⟩
        exact ⟨rfl, L', Hd.of (s.got c), _, A', ⟨r.got c, fun h => by simp at h, fun h => by simp at h, fun h => by simp at h⟩, g'⟩
      · rw [if_neg (show ¬ skips (s.got c) m from fun h => h.elim (fun h => h h1) h2)]
        refine (rs1c A f hc r h1 h2).mono ?_
        rintro e w' ⟨rfl, L', A', g'⟩
        exact ⟨rfl, L', Hd.of (s.got c), _, A', ⟨r.got c, fun _ => ⟨rfl, rfl⟩, fun h => by simp at h, fun h => by simp at h⟩, g'⟩
    · rw [if_pos (show skips (s.got c) m from Or.inl h1)]
      refine (rs1a A f hc r h1).mono ?_
      rintro e w' ⟨rfl, L', A', g'⟩
      exact ⟨rfl, L', Hd.of (s.got c), _, A', ⟨r.got c, fun h => by simp at h, fun h => by simp at h, fun h => by simp at h⟩, g'⟩
  · obtain ⟨e1, e2⟩ := rf.two rfl
    simp only at e1 e2
    subst e1 e2
    simp only [ShadeS.next]
    rcases hok : s.ok1 c z with _ | _
    · refine (rs2f A f hc r hok).mono ?_
      rintro e w' ⟨rfl, L', A', g'⟩
      exact ⟨rfl, L', Hd.shade ⟨y1, y2, y3, y4, y5, y6, y7⟩ m, _, A', ⟨rf.u, fun h => by simp at h, fun h => by simp at h, fun h => by simp at h⟩, g'⟩
    · refine (rs2t A f hc r hok).mono ?_
      rintro e w' ⟨rfl, L', A', g'⟩
      exact ⟨rfl, L', Hd.shade ⟨y1, y2, y3, y4, y5, y6, y7⟩ m, _, A', ⟨rf.u, fun h => by simp at h, fun _ => rfl, fun h => by simp at h⟩, g'⟩
  · obtain rfl := rf.three (by simp)
    refine (rs3 A f hc r).mono ?_
    rintro e w' ⟨rfl, L', A', g'⟩
    exact ⟨rfl, L', ⟨y1, y2, y3, y4, y5, y6, y7⟩, _, A', ⟨r.got 1, fun h => by simp [ShadeS.next] at h, fun _ => rfl, fun _ => rfl⟩, g'⟩
  · obtain rfl := rf.three (by simp)
    obtain rfl := rf.four (by simp)
    refine (rs4 A f hc r rf.u).mono ?_
    rintro e w' ⟨rfl, L', A', g'⟩
    exact ⟨rfl, L', Hd.link ⟨y1, y2, y3, y4, y5, y6, y7⟩ (t0 z), _, A', ⟨rf.u, fun h => by simp [ShadeS.next] at h, fun _ => rfl, fun _ => rfl⟩, g'⟩
  · obtain rfl := rf.three (by simp)
    obtain rfl := rf.four (by simp)
    simp only [ShadeS.next]
    rcases hok : s.ok1 1 z with _ | _
    · refine (rs5f A f hc r rf.u hok).mono ?_
      rintro e w' ⟨rfl, L', A', g'⟩
      exact ⟨rfl, L', ⟨y1, y2, y3, y4, y5, y6, y7⟩, _, A', ⟨rf.u, fun h => by simp at h, fun _ => rfl, fun h => by simp at h⟩, g'⟩
    · refine (rs5t A f hc r rf.u hok).mono ?_
      rintro e w' ⟨rfl, L', A', g'⟩
      exact ⟨rfl, L', ⟨y1, y2, y3, y4, y5, y6, y7⟩, _, A', ⟨rf.u, fun h => by simp at h, fun h => by simp at h, fun h => by simp at h⟩, g'⟩
end
end Go.Proofs.YtoablodmodnamaaDoor

