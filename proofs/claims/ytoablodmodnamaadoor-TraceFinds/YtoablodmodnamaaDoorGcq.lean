/-
  What the functions of layer 11 come to when they are called.
-/
import Derived.Test.YtoablodmodnamaaDoorGpq
import Derived.Test.YtoablodmodnamaaDoorLhq
import Derived.Deep.RegionHeld3
import Derived.WalkMore
namespace Go.Proofs.YtoablodmodnamaaDoor
set_option linter.unusedVariables false
set_option maxRecDepth 100000
open Go.ChangeShapes Go.WideShapes Go.RowKit
open S.Plain (t0 t1 tw nx)
open H.Plain (hw pS pC pN pM pG pT pL)

theorem ftop0 (x y : Int) (w : World) : (Instr.field 91 (.agg #[.int .i64 x, .int .i64 y]) 0).run Tryd.prog w = .ok (.int .i64 x) w := by kernel_rfl

theorem cFirst (a : Int) (h : U64 a) (w : World) :
    Calls Tryd.prog 64 #[.int .u64 a] w fun e w' => e = .returned (.int .i64 (t0 a)) ∧ Below w.heap.size w w' := by
  have f0 := ftop0 (t0 a) (t1 a)
  go_enter Tryd.func64, Tryd.ntmps64
  go_wp2_with (go_at_call 75; refine (S.cOfTop a h.1 h.2 _).mono ?_; rintro e w1 ⟨rfl, hw1⟩; have hb1 : Below w.heap.size w w1 := (by rw [hw1]; go_grown); clear hw1)
  go_ret
  exact ⟨rfl, hb1⟩

theorem cNewNext (w : World) :
    Calls Tryd.prog 100 #[] w fun e w' => e = .returned (.pointer (some ⟨w.heap.size, 0, none⟩)) ∧ w' = w.alloc (.cells NextS.new.cells 132) := by
  go_enter Tryd.func100, Tryd.ntmps100
  go_wp2
  go_ret
  exact ⟨rfl, rfl⟩
/-- what was made, whatever it was made with -/
structure Made (w w' : World) (T : TypeId) (cs : Array Value) : Prop where
  blk : w'.heap[w.heap.size]? = some (.cells cs T (0, 0))
  bel : Below w.heap.size w w'
theorem cNewShade (a m : Int) (w : World) :
    Calls Tryd.prog 25 #[.int .i64 a, .int .i64 m] w fun e w' => e = .returned (.pointer (some ⟨w.heap.size, 0, none⟩)) ∧ Made w w' 110 (ShadeS.new a m).cells := by
  by_cases h : a = 0
  · have hn : (a != 0) = false := by simp [h]
    go_enter Tryd.func25, Tryd.ntmps25
    go_wp2
    go_ret
    exact ⟨rfl, by subst h; exact heap_alloc_new _ _, by go_grown⟩
  · have hn : (a != 0) = true := by simp [h]
    go_enter Tryd.func25, Tryd.ntmps25
    go_wp2
    go_ret
    exact ⟨rfl, by rw [ShadeS.new, if_neg h]; exact heap_alloc_new _ _, by go_grown⟩

section
variable {w : World} {L : Loc} {s : St} {p : Nat}
set_option maxHeartbeats 1000000 in
theorem sh1a {c m z y1 y2 y3 y4 y5 y6 y7 l : Int} (A : At 142 w L s p 110 #[.int .i64 c, .int .i64 m, .int .i64 1, .int .u64 z, .int .i64 y1, .int .i64 y2, .int .i64 y3, .int .i64 y4, .int .i64 y5, .int .i64 y6, .int .i64 y7, .int .u64 l]) (f : s.Fit) (hc : s.c < 1000000) (r : s.Rng) (h1 : pS (s.got c) ≠ 1) :
    Calls Tryd.prog 26 #[.pointer (some ⟨p, 0, none⟩), .pointer (some ⟨L.b, 0, none⟩)] w fun e w' => e = .returned (.bool true) ∧
      ∃ L', At 142 w' L' (s.load c) p 110 #[.int .i64 c, .int .i64 m, .int .i64 0, .int .u64 (s.got c), .int .i64 (pS (s.got c)), .int .i64 (pC (s.got c)), .int .i64 (pN (s.got c)), .int .i64 (pM (s.got c)), .int .i64 (pG (s.got c)), .int .i64 (pT (s.got c)), .int .i64 (pL (s.got c)), .int .u64 l] ∧ Went w L p w' L' := by
  have c0 : w.cell? ⟨p, 0, none⟩ = some (.int .i64 c) := A.cell 0
  have cf0 := A.free 0
  have c1 : w.cell? ⟨p, 1, none⟩ = some (.int .i64 m) := A.cell 1
  have cf1 := A.free 1
  have c2 : w.cell? ⟨p, 2, none⟩ = some (.int .i64 1) := A.cell 2
  have cf2 := A.free 2
  have c3 : w.cell? ⟨p, 3, none⟩ = some (.int .u64 z) := A.cell 3
  have cf3 := A.free 3
  have hr := r.got c
  obtain ⟨v, hv⟩ : ∃ v, s.got c = v := ⟨_, rfl⟩
  rw [hv] at hr ⊢
  rw [hv] at h1
  have q1 : (pS v != 1) = true := by simpa using h1
  go_enter Tryd.func26, Tryd.ntmps26
  go_wp2
  go_step3
  go_wp2
  go_step3
  go_wp2_with (first
    | (go_at_call 31; refine (cLoad A.mem f hc c).mono ?_; rintro e w1 ⟨rfl, L1, hm1, st⟩; rw [hv]; have A1 := A.step hm1 st; have d3 : w1.cell? ⟨p, 3, none⟩ = some (.int .u64 z) := A1.cell 3; have df3 := A1.free 3)
    | (go_at_call 61; refine (H.cOf v hr.1 hr.2 _ (A1.set 3 (.int .u64 v)).wid).mono ?_; rintro e w2 ⟨rfl, hw2⟩; have hb2 : Below (w1.setCell ⟨p, 3, none⟩ (.int .u64 v)).heap.size (w1.setCell ⟨p, 3, none⟩ (.int .u64 v)) w2 := (by rw [hw2]; go_grown); clear hw2; have A2 : At 142 w2 L1 (s.load c) p 110 #[.int .i64 c, .int .i64 m, .int .i64 1, .int .u64 v, .int .i64 y1, .int .i64 y2, .int .i64 y3, .int .i64 y4, .int .i64 y5, .int .i64 y6, .int .i64 y7, .int .u64 l] := (A1.set 3 (.int .u64 v)).below hb2; have g2 : Went w L p w2 L1 := ((Went.of_step st p).trans (Went.set _ _ _ _ _)).trans (Went.of_below hb2 _ _); clear hb2; have x0 : w2.cell? ⟨p, 0, none⟩ = some (.int .i64 c) := A2.cell 0; have xf0 := A2.free 0; have x1 : w2.cell? ⟨p, 1, none⟩ = some (.int .i64 m) := A2.cell 1; have xf1 := A2.free 1; have x2 : w2.cell? ⟨p, 2, none⟩ = some (.int .i64 1) := A2.cell 2; have xf2 := A2.free 2; have x3 : w2.cell? ⟨p, 3, none⟩ = some (.int .u64 v) := A2.cell 3; have xf3 := A2.free 3; have x4 : w2.cell? ⟨p, 4, none⟩ = some (.int .i64 y1) := A2.cell 4; have xf4 := A2.free 4; have x5 : w2.cell? ⟨p, 5, none⟩ = some (.int .i64 y2) := A2.cell 5; have xf5 := A2.free 5; have x6 : w2.cell? ⟨p, 6, none⟩ = some (.int .i64 y3) := A2.cell 6; have xf6 := A2.free 6; have x7 : w2.cell? ⟨p, 7, none⟩ = some (.int .i64 y4) := A2.cell 7; have xf7 := A2.free 7; have x8 : w2.cell? ⟨p, 8, none⟩ = some (.int .i64 y5) := A2.cell 8; have xf8 := A2.free 8; have x9 : w2.cell? ⟨p, 9, none⟩ = some (.int .i64 y6) := A2.cell 9; have xf9 := A2.free 9; have x10 : w2.cell? ⟨p, 10, none⟩ = some (.int .i64 y7) := A2.cell 10; have xf10 := A2.free 10; have x11 : w2.cell? ⟨p, 11, none⟩ = some (.int .u64 l) := A2.cell 11; have xf11 := A2.free 11; have A3 := A2.putS (.int .i64 (pS v)) (.int .i64 (pC v)) (.int .i64 (pN v)) (.int .i64 (pM v)) (.int .i64 (pG v)) (.int .i64 (pT v)) (.int .i64 (pL v)); have g3 := g2.trans (Went.head4 w2 L1 p (.int .i64 (pS v)) (.int .i64 (pC v)) (.int .i64 (pN v)) (.int .i64 (pM v)) (.int .i64 (pG v)) (.int .i64 (pT v)) (.int .i64 (pL v)))))
  rw [Exit.noGoto_ret]
  go_ret
  exact ⟨rfl, L1, A3.set 2 (.int .i64 0), g3.trans (Went.set _ _ _ _ _)⟩
set_option maxHeartbeats 1000000 in
theorem sh1b {c m z y1 y2 y3 y4 y5 y6 y7 l : Int} (A : At 142 w L s p 110 #[.int .i64 c, .int .i64 m, .int .i64 1, .int .u64 z, .int .i64 y1, .int .i64 y2, .int .i64 y3, .int .i64 y4, .int .i64 y5, .int .i64 y6, .int .i64 y7, .int .u64 l]) (f : s.Fit) (hc : s.c < 1000000) (r : s.Rng) (h1 : pS (s.got c) = 1) (h2 : pM (s.got c) = m) :
    Calls Tryd.prog 26 #[.pointer (some ⟨p, 0, none⟩), .pointer (some ⟨L.b, 0, none⟩)] w fun e w' => e = .returned (.bool true) ∧
      ∃ L', At 142 w' L' (s.load c) p 110 #[.int .i64 c, .int .i64 m, .int .i64 0, .int .u64 (s.got c), .int .i64 (pS (s.got c)), .int .i64 (pC (s.got c)), .int .i64 (pN (s.got c)), .int .i64 (pM (s.got c)), .int .i64 (pG (s.got c)), .int .i64 (pT (s.got c)), .int .i64 (pL (s.got c)), .int .u64 l] ∧ Went w L p w' L' := by
  have c0 : w.cell? ⟨p, 0, none⟩ = some (.int .i64 c) := A.cell 0
  have cf0 := A.free 0
  have c1 : w.cell? ⟨p, 1, none⟩ = some (.int .i64 m) := A.cell 1
  have cf1 := A.free 1
  have c2 : w.cell? ⟨p, 2, none⟩ = some (.int .i64 1) := A.cell 2
  have cf2 := A.free 2
  have c3 : w.cell? ⟨p, 3, none⟩ = some (.int .u64 z) := A.cell 3
  have cf3 := A.free 3
  have hr := r.got c
  obtain ⟨v, hv⟩ : ∃ v, s.got c = v := ⟨_, rfl⟩
  rw [hv] at hr ⊢
  rw [hv] at h1 h2
  have q1 : (pS v != 1) = false := by simp [h1]
  have q2 : (pM v == m) = true := by simp [h2]
  clear h1 h2
  go_enter Tryd.func26, Tryd.ntmps26
  go_wp2
  go_step3
  go_wp2
  go_step3
  go_wp2_with (first
    | (go_at_call 31; refine (cLoad A.mem f hc c).mono ?_; rintro e w1 ⟨rfl, L1, hm1, st⟩; rw [hv]; have A1 := A.step hm1 st; have d3 : w1.cell? ⟨p, 3, none⟩ = some (.int .u64 z) := A1.cell 3; have df3 := A1.free 3)
    | (go_at_call 61; refine (H.cOf v hr.1 hr.2 _ (A1.set 3 (.int .u64 v)).wid).mono ?_; rintro e w2 ⟨rfl, hw2⟩; have hb2 : Below (w1.setCell ⟨p, 3, none⟩ (.int .u64 v)).heap.size (w1.setCell ⟨p, 3, none⟩ (.int .u64 v)) w2 := (by rw [hw2]; go_grown); clear hw2; have A2 : At 142 w2 L1 (s.load c) p 110 #[.int .i64 c, .int .i64 m, .int .i64 1, .int .u64 v, .int .i64 y1, .int .i64 y2, .int .i64 y3, .int .i64 y4, .int .i64 y5, .int .i64 y6, .int .i64 y7, .int .u64 l] := (A1.set 3 (.int .u64 v)).below hb2; have g2 : Went w L p w2 L1 := ((Went.of_step st p).trans (Went.set _ _ _ _ _)).trans (Went.of_below hb2 _ _); clear hb2; have x0 : w2.cell? ⟨p, 0, none⟩ = some (.int .i64 c) := A2.cell 0; have xf0 := A2.free 0; have x1 : w2.cell? ⟨p, 1, none⟩ = some (.int .i64 m) := A2.cell 1; have xf1 := A2.free 1; have x2 : w2.cell? ⟨p, 2, none⟩ = some (.int .i64 1) := A2.cell 2; have xf2 := A2.free 2; have x3 : w2.cell? ⟨p, 3, none⟩ = some (.int .u64 v) := A2.cell 3; have xf3 := A2.free 3; have x4 : w2.cell? ⟨p, 4, none⟩ = some (.int .i64 y1) := A2.cell 4; have xf4 := A2.free 4; have x5 : w2.cell? ⟨p, 5, none⟩ = some (.int .i64 y2) := A2.cell 5; have xf5 := A2.free 5; have x6 : w2.cell? ⟨p, 6, none⟩ = some (.int .i64 y3) := A2.cell 6; have xf6 := A2.free 6; have x7 : w2.cell? ⟨p, 7, none⟩ = some (.int .i64 y4) := A2.cell 7; have xf7 := A2.free 7; have x8 : w2.cell? ⟨p, 8, none⟩ = some (.int .i64 y5) := A2.cell 8; have xf8 := A2.free 8; have x9 : w2.cell? ⟨p, 9, none⟩ = some (.int .i64 y6) := A2.cell 9; have xf9 := A2.free 9; have x10 : w2.cell? ⟨p, 10, none⟩ = some (.int .i64 y7) := A2.cell 10; have xf10 := A2.free 10; have x11 : w2.cell? ⟨p, 11, none⟩ = some (.int .u64 l) := A2.cell 11; have xf11 := A2.free 11; have A3 := A2.putS (.int .i64 (pS v)) (.int .i64 (pC v)) (.int .i64 (pN v)) (.int .i64 (pM v)) (.int .i64 (pG v)) (.int .i64 (pT v)) (.int .i64 (pL v)); have g3 := g2.trans (Went.head4 w2 L1 p (.int .i64 (pS v)) (.int .i64 (pC v)) (.int .i64 (pN v)) (.int .i64 (pM v)) (.int .i64 (pG v)) (.int .i64 (pT v)) (.int .i64 (pL v)))))
  clear x0 xf0 x1 xf1 x2 xf2 x3 xf3 x4 xf4 x5 xf5 x6 xf6 x7 xf7 x8 xf8 x9 xf9 x10 xf10 x11 xf11
  generalize ((((((w2.setCell ⟨p, 4, none⟩ (.int .i64 (pS v))).setCell ⟨p, 5, none⟩ (.int .i64 (pC v))).setCell ⟨p, 6, none⟩ (.int .i64 (pN v))).setCell ⟨p, 7, none⟩ (.int .i64 (pM v))).setCell ⟨p, 8, none⟩ (.int .i64 (pG v))).setCell ⟨p, 9, none⟩ (.int .i64 (pT v))).setCell ⟨p, 10, none⟩ (.int .i64 (pL v)) = wa at A3 g3 ⊢
  have u0 : wa.cell? ⟨p, 0, none⟩ = some (.int .i64 c) := A3.cell 0
  have uf0 := A3.free 0
  have u1 : wa.cell? ⟨p, 1, none⟩ = some (.int .i64 m) := A3.cell 1
  have uf1 := A3.free 1
  have u2 : wa.cell? ⟨p, 2, none⟩ = some (.int .i64 1) := A3.cell 2
  have uf2 := A3.free 2
  have u3 : wa.cell? ⟨p, 3, none⟩ = some (.int .u64 v) := A3.cell 3
  have uf3 := A3.free 3
  have u4 : wa.cell? ⟨p, 4, none⟩ = some (.int .i64 (pS v)) := A3.cell 4
  have uf4 := A3.free 4
  have u5 : wa.cell? ⟨p, 5, none⟩ = some (.int .i64 (pC v)) := A3.cell 5
  have uf5 := A3.free 5
  have u6 : wa.cell? ⟨p, 6, none⟩ = some (.int .i64 (pN v)) := A3.cell 6
  have uf6 := A3.free 6
  have u7 : wa.cell? ⟨p, 7, none⟩ = some (.int .i64 (pM v)) := A3.cell 7
  have uf7 := A3.free 7
  have u8 : wa.cell? ⟨p, 8, none⟩ = some (.int .i64 (pG v)) := A3.cell 8
  have uf8 := A3.free 8
  have u9 : wa.cell? ⟨p, 9, none⟩ = some (.int .i64 (pT v)) := A3.cell 9
  have uf9 := A3.free 9
  have u10 : wa.cell? ⟨p, 10, none⟩ = some (.int .i64 (pL v)) := A3.cell 10
  have uf10 := A3.free 10
  have u11 : wa.cell? ⟨p, 11, none⟩ = some (.int .u64 l) := A3.cell 11
  have uf11 := A3.free 11
  go_quiet (fail)
  go_wp2
  rw [Exit.noGoto_ret]
  go_ret
  exact ⟨rfl, L1, (A3.below (S.bdr (Below.refl _ _) _)).set 2 (.int .i64 0), (g3.trans (Went.of_below (S.bdr (Below.refl _ _) _) _ _)).trans (Went.set _ _ _ _ _)⟩
set_option maxHeartbeats 1000000 in
theorem sh1c {c m z y1 y2 y3 y4 y5 y6 y7 l : Int} (A : At 142 w L s p 110 #[.int .i64 c, .int .i64 m, .int .i64 1, .int .u64 z, .int .i64 y1, .int .i64 y2, .int .i64 y3, .int .i64 y4, .int .i64 y5, .int .i64 y6, .int .i64 y7, .int .u64 l]) (f : s.Fit) (hc : s.c < 1000000) (r : s.Rng) (h1 : pS (s.got c) = 1) (h2 : pM (s.got c) ≠ m) :
    Calls Tryd.prog 26 #[.pointer (some ⟨p, 0, none⟩), .pointer (some ⟨L.b, 0, none⟩)] w fun e w' => e = .returned (.bool false) ∧
      ∃ L', At 142 w' L' (s.load c) p 110 #[.int .i64 c, .int .i64 m, .int .i64 2, .int .u64 (s.got c), .int .i64 (pS (s.got c)), .int .i64 (pC (s.got c)), .int .i64 (pN (s.got c)), .int .i64 m, .int .i64 1, .int .i64 (pT (s.got c)), .int .i64 0, .int .u64 l] ∧ Went w L p w' L' := by
  have c0 : w.cell? ⟨p, 0, none⟩ = some (.int .i64 c) := A.cell 0
  have cf0 := A.free 0
  have c1 : w.cell? ⟨p, 1, none⟩ = some (.int .i64 m) := A.cell 1
  have cf1 := A.free 1
  have c2 : w.cell? ⟨p, 2, none⟩ = some (.int .i64 1) := A.cell 2
  have cf2 := A.free 2
  have c3 : w.cell? ⟨p, 3, none⟩ = some (.int .u64 z) := A.cell 3
  have cf3 := A.free 3
  have hr := r.got c
  obtain ⟨v, hv⟩ : ∃ v, s.got c = v := ⟨_, rfl⟩
  rw [hv] at hr ⊢
  rw [hv] at h1 h2
  have q1 : (pS v != 1) = false := by simp [h1]
  have q2 : (pM v == m) = false := by simpa using h2
  clear h1 h2
  go_enter Tryd.func26, Tryd.ntmps26
  go_wp2
  go_step3
  go_wp2
  go_step3
  go_wp2_with (first
    | (go_at_call 31; refine (cLoad A.mem f hc c).mono ?_; rintro e w1 ⟨rfl, L1, hm1, st⟩; rw [hv]; have A1 := A.step hm1 st; have d3 : w1.cell? ⟨p, 3, none⟩ = some (.int .u64 z) := A1.cell 3; have df3 := A1.free 3)
    | (go_at_call 61; refine (H.cOf v hr.1 hr.2 _ (A1.set 3 (.int .u64 v)).wid).mono ?_; rintro e w2 ⟨rfl, hw2⟩; have hb2 : Below (w1.setCell ⟨p, 3, none⟩ (.int .u64 v)).heap.size (w1.setCell ⟨p, 3, none⟩ (.int .u64 v)) w2 := (by rw [hw2]; go_grown); clear hw2; have A2 : At 142 w2 L1 (s.load c) p 110 #[.int .i64 c, .int .i64 m, .int .i64 1, .int .u64 v, .int .i64 y1, .int .i64 y2, .int .i64 y3, .int .i64 y4, .int .i64 y5, .int .i64 y6, .int .i64 y7, .int .u64 l] := (A1.set 3 (.int .u64 v)).below hb2; have g2 : Went w L p w2 L1 := ((Went.of_step st p).trans (Went.set _ _ _ _ _)).trans (Went.of_below hb2 _ _); clear hb2; have x0 : w2.cell? ⟨p, 0, none⟩ = some (.int .i64 c) := A2.cell 0; have xf0 := A2.free 0; have x1 : w2.cell? ⟨p, 1, none⟩ = some (.int .i64 m) := A2.cell 1; have xf1 := A2.free 1; have x2 : w2.cell? ⟨p, 2, none⟩ = some (.int .i64 1) := A2.cell 2; have xf2 := A2.free 2; have x3 : w2.cell? ⟨p, 3, none⟩ = some (.int .u64 v) := A2.cell 3; have xf3 := A2.free 3; have x4 : w2.cell? ⟨p, 4, none⟩ = some (.int .i64 y1) := A2.cell 4; have xf4 := A2.free 4; have x5 : w2.cell? ⟨p, 5, none⟩ = some (.int .i64 y2) := A2.cell 5; have xf5 := A2.free 5; have x6 : w2.cell? ⟨p, 6, none⟩ = some (.int .i64 y3) := A2.cell 6; have xf6 := A2.free 6; have x7 : w2.cell? ⟨p, 7, none⟩ = some (.int .i64 y4) := A2.cell 7; have xf7 := A2.free 7; have x8 : w2.cell? ⟨p, 8, none⟩ = some (.int .i64 y5) := A2.cell 8; have xf8 := A2.free 8; have x9 : w2.cell? ⟨p, 9, none⟩ = some (.int .i64 y6) := A2.cell 9; have xf9 := A2.free 9; have x10 : w2.cell? ⟨p, 10, none⟩ = some (.int .i64 y7) := A2.cell 10; have xf10 := A2.free 10; have x11 : w2.cell? ⟨p, 11, none⟩ = some (.int .u64 l) := A2.cell 11; have xf11 := A2.free 11; have A3 := A2.putS (.int .i64 (pS v)) (.int .i64 (pC v)) (.int .i64 (pN v)) (.int .i64 (pM v)) (.int .i64 (pG v)) (.int .i64 (pT v)) (.int .i64 (pL v)); have g3 := g2.trans (Went.head4 w2 L1 p (.int .i64 (pS v)) (.int .i64 (pC v)) (.int .i64 (pN v)) (.int .i64 (pM v)) (.int .i64 (pG v)) (.int .i64 (pT v)) (.int .i64 (pL v)))))
  clear x0 xf0 x1 xf1 x2 xf2 x3 xf3 x4 xf4 x5 xf5 x6 xf6 x7 xf7 x8 xf8 x9 xf9 x10 xf10 x11 xf11
  generalize ((((((w2.setCell ⟨p, 4, none⟩ (.int .i64 (pS v))).setCell ⟨p, 5, none⟩ (.int .i64 (pC v))).setCell ⟨p, 6, none⟩ (.int .i64 (pN v))).setCell ⟨p, 7, none⟩ (.int .i64 (pM v))).setCell ⟨p, 8, none⟩ (.int .i64 (pG v))).setCell ⟨p, 9, none⟩ (.int .i64 (pT v))).setCell ⟨p, 10, none⟩ (.int .i64 (pL v)) = wa at A3 g3 ⊢
  have u0 : wa.cell? ⟨p, 0, none⟩ = some (.int .i64 c) := A3.cell 0
  have uf0 := A3.free 0
  have u1 : wa.cell? ⟨p, 1, none⟩ = some (.int .i64 m) := A3.cell 1
  have uf1 := A3.free 1
  have u2 : wa.cell? ⟨p, 2, none⟩ = some (.int .i64 1) := A3.cell 2
  have uf2 := A3.free 2
  have u3 : wa.cell? ⟨p, 3, none⟩ = some (.int .u64 v) := A3.cell 3
  have uf3 := A3.free 3
  have u4 : wa.cell? ⟨p, 4, none⟩ = some (.int .i64 (pS v)) := A3.cell 4
  have uf4 := A3.free 4
  have u5 : wa.cell? ⟨p, 5, none⟩ = some (.int .i64 (pC v)) := A3.cell 5
  have uf5 := A3.free 5
  have u6 : wa.cell? ⟨p, 6, none⟩ = some (.int .i64 (pN v)) := A3.cell 6
  have uf6 := A3.free 6
  have u7 : wa.cell? ⟨p, 7, none⟩ = some (.int .i64 (pM v)) := A3.cell 7
  have uf7 := A3.free 7
  have u8 : wa.cell? ⟨p, 8, none⟩ = some (.int .i64 (pG v)) := A3.cell 8
  have uf8 := A3.free 8
  have u9 : wa.cell? ⟨p, 9, none⟩ = some (.int .i64 (pT v)) := A3.cell 9
  have uf9 := A3.free 9
  have u10 : wa.cell? ⟨p, 10, none⟩ = some (.int .i64 (pL v)) := A3.cell 10
  have uf10 := A3.free 10
  have u11 : wa.cell? ⟨p, 11, none⟩ = some (.int .u64 l) := A3.cell 11
  have uf11 := A3.free 11
  go_quiet (fail)
  go_wp2
  rw [Exit.noGoto_ret]
  go_ret
  exact ⟨rfl, L1, (A3.below (S.bdr (Below.refl _ _) _)).putM (.int .i64 m) (.int .i64 1) (.int .i64 0) (.int .i64 2), ((((g3.trans (Went.of_below (S.bdr (Below.refl _ _) _) _ _)).trans (Went.set _ _ _ _ _)).trans (Went.set _ _ _ _ _)).trans (Went.set _ _ _ _ _)).trans (Went.set _ _ _ _ _)⟩
set_option maxHeartbeats 1000000 in
theorem sh2t {c m z y1 y2 y3 y4 y5 y6 y7 l : Int} (A : At 142 w L s p 110 #[.int .i64 c, .int .i64 m, .int .i64 2, .int .u64 z, .int .i64 y1, .int .i64 y2, .int .i64 y3, .int .i64 y4, .int .i64 y5, .int .i64 y6, .int .i64 y7, .int .u64 l]) (f : s.Fit) (hc : s.c < 1000000) (r : s.Rng) (hok : s.ok1 c z = true) :
    Calls Tryd.prog 26 #[.pointer (some ⟨p, 0, none⟩), .pointer (some ⟨L.b, 0, none⟩)] w fun e w' => e = .returned (.bool false) ∧
      ∃ L', At 142 w' L' (s.cas c z (hw y1 y2 y3 y4 y5 y6 y7)) p 110 #[.int .i64 c, .int .i64 m, .int .i64 3, .int .u64 z, .int .i64 y1, .int .i64 y2, .int .i64 y3, .int .i64 y4, .int .i64 y5, .int .i64 y6, .int .i64 y7, .int .u64 l] ∧ Went w L p w' L' := by
  have c2 : w.cell? ⟨p, 2, none⟩ = some (.int .i64 2) := A.cell 2
  have keep : ∀ w', Below w.heap.size w w' → w'.cell? ⟨p, 0, none⟩ = some (.int .i64 c) ∧ w'.cell? ⟨p, 3, none⟩ = some (.int .u64 z) ∧ w'.cell? ⟨p, 4, none⟩ = some (.int .i64 y1) ∧ w'.cell? ⟨p, 5, none⟩ = some (.int .i64 y2) ∧ w'.cell? ⟨p, 6, none⟩ = some (.int .i64 y3) ∧ w'.cell? ⟨p, 7, none⟩ = some (.int .i64 y4) ∧ w'.cell? ⟨p, 8, none⟩ = some (.int .i64 y5) ∧ w'.cell? ⟨p, 9, none⟩ = some (.int .i64 y6) ∧ w'.cell? ⟨p, 10, none⟩ = some (.int .i64 y7) := fun w' hb => ⟨(A.below hb).cell 0, (A.below hb).cell 3, (A.below hb).cell 4, (A.below hb).cell 5, (A.below hb).cell 6, (A.below hb).cell 7, (A.below hb).cell 8, (A.below hb).cell 9, (A.below hb).cell 10⟩
  have hbd : Below w.heap.size w w.drew := (Below.refl w.heap.size w).drew
  have RD := keep _ hbd
  go_enter Tryd.func26, Tryd.ntmps26
  go_wp2
  go_step3
  go_wp2
  go_step3
  go_wp2
  go_region_held3 (fun w' => w'.cell? ⟨p, 0, none⟩ = some (.int .i64 c) ∧ w'.cell? ⟨p, 3, none⟩ = some (.int .u64 z) ∧ w'.cell? ⟨p, 4, none⟩ = some (.int .i64 y1) ∧ w'.cell? ⟨p, 5, none⟩ = some (.int .i64 y2) ∧ w'.cell? ⟨p, 6, none⟩ = some (.int .i64 y3) ∧ w'.cell? ⟨p, 7, none⟩ = some (.int .i64 y4) ∧ w'.cell? ⟨p, 8, none⟩ = some (.int .i64 y5) ∧ w'.cell? ⟨p, 9, none⟩ = some (.int .i64 y6) ∧ w'.cell? ⟨p, 10, none⟩ = some (.int .i64 y7)) (first | assumption | exact RD | exact keep _ (by assumption))
    (first
      | (go_at_call 63; refine (H.cWord y1 y2 y3 y4 y5 y6 y7 _ (A.below hbd).wid).mono ?_; rintro e w1 ⟨rfl, x1, hw1⟩; have hb1' : Below w.heap.size w w1 := (by rw [hw1]; exact bel_trans hbd (((Below.refl _ _).alloc (Nat.le_refl _) _).alloc (by simp) _)); clear hw1)
      | (go_at_call 62; refine (cCAS (A.below hb1').mem f hc c z (hw y1 y2 y3 y4 y5 y6 y7)).mono ?_; rintro e w2 ⟨rfl, L2, hm2, st2⟩; rw [hok]; have A2 := (A.below hb1').step hm2 st2; have S2 : w2.cell? ⟨p, 0, none⟩ = some (.int .i64 c) ∧ w2.cell? ⟨p, 3, none⟩ = some (.int .u64 z) ∧ w2.cell? ⟨p, 4, none⟩ = some (.int .i64 y1) ∧ w2.cell? ⟨p, 5, none⟩ = some (.int .i64 y2) ∧ w2.cell? ⟨p, 6, none⟩ = some (.int .i64 y3) ∧ w2.cell? ⟨p, 7, none⟩ = some (.int .i64 y4) ∧ w2.cell? ⟨p, 8, none⟩ = some (.int .i64 y5) ∧ w2.cell? ⟨p, 9, none⟩ = some (.int .i64 y6) ∧ w2.cell? ⟨p, 10, none⟩ = some (.int .i64 y7) := ⟨A2.cell 0, A2.cell 3, A2.cell 4, A2.cell 5, A2.cell 6, A2.cell 7, A2.cell 8, A2.cell 9, A2.cell 10⟩; have g2 := (Went.of_below hb1' L p).trans (Went.of_step st2 p); have d2 : w2.cell? ⟨p, 2, none⟩ = some (.int .i64 2) := A2.cell 2; have df2 := A2.free 2))
  go_wp2
  rw [Exit.noGoto_ret]
  go_ret
  exact ⟨rfl, L2, A2.set 2 (.int .i64 3), g2.trans (Went.set _ _ _ _ _)⟩
set_option maxHeartbeats 1000000 in
theorem sh2f {c m z y1 y2 y3 y4 y5 y6 y7 l : Int} (A : At 142 w L s p 110 #[.int .i64 c, .int .i64 m, .int .i64 2, .int .u64 z, .int .i64 y1, .int .i64 y2, .int .i64 y3, .int .i64 y4, .int .i64 y5, .int .i64 y6, .int .i64 y7, .int .u64 l]) (f : s.Fit) (hc : s.c < 1000000) (r : s.Rng) (hok : s.ok1 c z = false) :
    Calls Tryd.prog 26 #[.pointer (some ⟨p, 0, none⟩), .pointer (some ⟨L.b, 0, none⟩)] w fun e w' => e = .returned (.bool false) ∧
      ∃ L', At 142 w' L' (s.cas c z (hw y1 y2 y3 y4 y5 y6 y7)) p 110 #[.int .i64 c, .int .i64 m, .int .i64 1, .int .u64 z, .int .i64 y1, .int .i64 y2, .int .i64 y3, .int .i64 y4, .int .i64 y5, .int .i64 y6, .int .i64 y7, .int .u64 l] ∧ Went w L p w' L' := by
  have c2 : w.cell? ⟨p, 2, none⟩ = some (.int .i64 2) := A.cell 2
  have keep : ∀ w', Below w.heap.size w w' → w'.cell? ⟨p, 0, none⟩ = some (.int .i64 c) ∧ w'.cell? ⟨p, 3, none⟩ = some (.int .u64 z) ∧ w'.cell? ⟨p, 4, none⟩ = some (.int .i64 y1) ∧ w'.cell? ⟨p, 5, none⟩ = some (.int .i64 y2) ∧ w'.cell? ⟨p, 6, none⟩ = some (.int .i64 y3) ∧ w'.cell? ⟨p, 7, none⟩ = some (.int .i64 y4) ∧ w'.cell? ⟨p, 8, none⟩ = some (.int .i64 y5) ∧ w'.cell? ⟨p, 9, none⟩ = some (.int .i64 y6) ∧ w'.cell? ⟨p, 10, none⟩ = some (.int .i64 y7) := fun w' hb => ⟨(A.below hb).cell 0, (A.below hb).cell 3, (A.below hb).cell 4, (A.below hb).cell 5, (A.below hb).cell 6, (A.below hb).cell 7, (A.below hb).cell 8, (A.below hb).cell 9, (A.below hb).cell 10⟩
  have hbd : Below w.heap.size w w.drew := (Below.refl w.heap.size w).drew
  have RD := keep _ hbd
  go_enter Tryd.func26, Tryd.ntmps26
  go_wp2
  go_step3
  go_wp2
  go_step3
  go_wp2
  go_region_held3 (fun w' => w'.cell? ⟨p, 0, none⟩ = some (.int .i64 c) ∧ w'.cell? ⟨p, 3, none⟩ = some (.int .u64 z) ∧ w'.cell? ⟨p, 4, none⟩ = some (.int .i64 y1) ∧ w'.cell? ⟨p, 5, none⟩ = some (.int .i64 y2) ∧ w'.cell? ⟨p, 6, none⟩ = some (.int .i64 y3) ∧ w'.cell? ⟨p, 7, none⟩ = some (.int .i64 y4) ∧ w'.cell? ⟨p, 8, none⟩ = some (.int .i64 y5) ∧ w'.cell? ⟨p, 9, none⟩ = some (.int .i64 y6) ∧ w'.cell? ⟨p, 10, none⟩ = some (.int .i64 y7)) (first | assumption | exact RD | exact keep _ (by assumption))
    (first
      | (go_at_call 63; refine (H.cWord y1 y2 y3 y4 y5 y6 y7 _ (A.below hbd).wid).mono ?_; rintro e w1 ⟨rfl, x1, hw1⟩; have hb1' : Below w.heap.size w w1 := (by rw [hw1]; exact bel_trans hbd (((Below.refl _ _).alloc (Nat.le_refl _) _).alloc (by simp) _)); clear hw1)
      | (go_at_call 62; refine (cCAS (A.below hb1').mem f hc c z (hw y1 y2 y3 y4 y5 y6 y7)).mono ?_; rintro e w2 ⟨rfl, L2, hm2, st2⟩; rw [hok]; have A2 := (A.below hb1').step hm2 st2; have S2 : w2.cell? ⟨p, 0, none⟩ = some (.int .i64 c) ∧ w2.cell? ⟨p, 3, none⟩ = some (.int .u64 z) ∧ w2.cell? ⟨p, 4, none⟩ = some (.int .i64 y1) ∧ w2.cell? ⟨p, 5, none⟩ = some (.int .i64 y2) ∧ w2.cell? ⟨p, 6, none⟩ = some (.int .i64 y3) ∧ w2.cell? ⟨p, 7, none⟩ = some (.int .i64 y4) ∧ w2.cell? ⟨p, 8, none⟩ = some (.int .i64 y5) ∧ w2.cell? ⟨p, 9, none⟩ = some (.int .i64 y6) ∧ w2.cell? ⟨p, 10, none⟩ = some (.int .i64 y7) := ⟨A2.cell 0, A2.cell 3, A2.cell 4, A2.cell 5, A2.cell 6, A2.cell 7, A2.cell 8, A2.cell 9, A2.cell 10⟩; have g2 := (Went.of_below hb1' L p).trans (Went.of_step st2 p); have d2 : w2.cell? ⟨p, 2, none⟩ = some (.int .i64 2) := A2.cell 2; have df2 := A2.free 2))
  go_wp2
  rw [Exit.noGoto_ret]
  go_ret
  exact ⟨rfl, L2, A2.set 2 (.int .i64 1), g2.trans (Went.set _ _ _ _ _)⟩
set_option maxHeartbeats 1000000 in
theorem sh3 {c m z y1 y2 y3 y4 y5 y6 y7 l : Int} (A : At 142 w L s p 110 #[.int .i64 c, .int .i64 m, .int .i64 3, .int .u64 z, .int .i64 y1, .int .i64 y2, .int .i64 y3, .int .i64 y4, .int .i64 y5, .int .i64 y6, .int .i64 y7, .int .u64 l]) (f : s.Fit) (hc : s.c < 1000000) (r : s.Rng) :
    Calls Tryd.prog 26 #[.pointer (some ⟨p, 0, none⟩), .pointer (some ⟨L.b, 0, none⟩)] w fun e w' => e = .returned (.bool false) ∧
      ∃ L', At 142 w' L' (s.load 1) p 110 #[.int .i64 c, .int .i64 m, .int .i64 4, .int .u64 z, .int .i64 y1, .int .i64 y2, .int .i64 y3, .int .i64 y4, .int .i64 y5, .int .i64 y6, .int .i64 y7, .int .u64 (s.got 1)] ∧ Went w L p w' L' := by
  have c2 : w.cell? ⟨p, 2, none⟩ = some (.int .i64 3) := A.cell 2
  go_enter Tryd.func26, Tryd.ntmps26
  go_wp2
  go_step3
  go_wp2
  go_step3
  go_wp2_with (go_at_call 31; refine (cLoad A.mem f hc 1).mono ?_; rintro e w1 ⟨rfl, L1, hm1, st⟩; have A1 := A.step hm1 st; have d2 : w1.cell? ⟨p, 2, none⟩ = some (.int .i64 3) := A1.cell 2; have df2 := A1.free 2; have d11 : w1.cell? ⟨p, 11, none⟩ = some (.int .u64 l) := A1.cell 11; have df11 := A1.free 11)
  rw [Exit.noGoto_ret]
  go_ret
  exact ⟨rfl, L1, (A1.set 11 _).set 2 (.int .i64 4), ((Went.of_step st p).trans (Went.set _ _ _ _ _)).trans (Went.set _ _ _ _ _)⟩
set_option maxHeartbeats 1000000 in
theorem sh4 {c m z y1 y2 y3 y4 y5 y6 y7 l : Int} (A : At 142 w L s p 110 #[.int .i64 c, .int .i64 m, .int .i64 4, .int .u64 z, .int .i64 y1, .int .i64 y2, .int .i64 y3, .int .i64 y4, .int .i64 y5, .int .i64 y6, .int .i64 y7, .int .u64 l]) (f : s.Fit) (hc : s.c < 1000000) (r : s.Rng) (hl : U64 l) :
    Calls Tryd.prog 26 #[.pointer (some ⟨p, 0, none⟩), .pointer (some ⟨L.b, 0, none⟩)] w fun e w' => e = .returned (.bool false) ∧
      ∃ L', At 142 w' L' (s.store c (hw y1 y2 y3 y4 y5 y6 (t0 l))) p 110 #[.int .i64 c, .int .i64 m, .int .i64 5, .int .u64 z, .int .i64 y1, .int .i64 y2, .int .i64 y3, .int .i64 y4, .int .i64 y5, .int .i64 y6, .int .i64 (t0 l), .int .u64 l] ∧ Went w L p w' L' := by
  have c2 : w.cell? ⟨p, 2, none⟩ = some (.int .i64 4) := A.cell 2
  have c11 : w.cell? ⟨p, 11, none⟩ = some (.int .u64 l) := A.cell 11
  go_enter Tryd.func26, Tryd.ntmps26
  go_wp2
  go_step3
  go_wp2
  go_step3
  go_wp2_with (go_at_call 64; refine (cFirst l hl _).mono ?_; rintro e w0 ⟨rfl, hb0⟩; have A0 := A.below hb0; have d10 : w0.cell? ⟨p, 10, none⟩ = some (.int .i64 y7) := A0.cell 10; have df10 := A0.free 10)
  have Aa : At 142 (w0.setCell ⟨p, 10, none⟩ (.int .i64 (t0 l))) L s p 110 #[.int .i64 c, .int .i64 m, .int .i64 4, .int .u64 z, .int .i64 y1, .int .i64 y2, .int .i64 y3, .int .i64 y4, .int .i64 y5, .int .i64 y6, .int .i64 (t0 l), .int .u64 l] := A0.set 10 (.int .i64 (t0 l))
  have ga : Went w L p (w0.setCell ⟨p, 10, none⟩ (.int .i64 (t0 l))) L := (Went.of_below hb0 L p).trans (Went.set _ _ _ _ _)
  generalize w0.setCell ⟨p, 10, none⟩ (.int .i64 (t0 l)) = wa at Aa ga ⊢
  have keep : ∀ w', Below wa.heap.size wa w' → w'.cell? ⟨p, 0, none⟩ = some (.int .i64 c) ∧ w'.cell? ⟨p, 4, none⟩ = some (.int .i64 y1) ∧ w'.cell? ⟨p, 5, none⟩ = some (.int .i64 y2) ∧ w'.cell? ⟨p, 6, none⟩ = some (.int .i64 y3) ∧ w'.cell? ⟨p, 7, none⟩ = some (.int .i64 y4) ∧ w'.cell? ⟨p, 8, none⟩ = some (.int .i64 y5) ∧ w'.cell? ⟨p, 9, none⟩ = some (.int .i64 y6) ∧ w'.cell? ⟨p, 10, none⟩ = some (.int .i64 (t0 l)) := fun w' hb => ⟨(Aa.below hb).cell 0, (Aa.below hb).cell 4, (Aa.below hb).cell 5, (Aa.below hb).cell 6, (Aa.below hb).cell 7, (Aa.below hb).cell 8, (Aa.below hb).cell 9, (Aa.below hb).cell 10⟩
  have hbd : Below wa.heap.size wa wa.drew := (Below.refl wa.heap.size wa).drew
  have RD := keep _ hbd
  go_region_held3 (fun w' => w'.cell? ⟨p, 0, none⟩ = some (.int .i64 c) ∧ w'.cell? ⟨p, 4, none⟩ = some (.int .i64 y1) ∧ w'.cell? ⟨p, 5, none⟩ = some (.int .i64 y2) ∧ w'.cell? ⟨p, 6, none⟩ = some (.int .i64 y3) ∧ w'.cell? ⟨p, 7, none⟩ = some (.int .i64 y4) ∧ w'.cell? ⟨p, 8, none⟩ = some (.int .i64 y5) ∧ w'.cell? ⟨p, 9, none⟩ = some (.int .i64 y6) ∧ w'.cell? ⟨p, 10, none⟩ = some (.int .i64 (t0 l))) (first | assumption | exact RD | exact keep _ (by assumption))
    (first
      | (go_at_call 63; refine (H.cWord y1 y2 y3 y4 y5 y6 (t0 l) _ (Aa.below hbd).wid).mono ?_; rintro e w1 ⟨rfl, x1, hw1⟩; have hb1' : Below wa.heap.size wa w1 := (by rw [hw1]; exact bel_trans hbd (((Below.refl _ _).alloc (Nat.le_refl _) _).alloc (by simp) _)); clear hw1)
      | (go_at_call 37; refine (cStore (Aa.below hb1').mem f hc c (hw y1 y2 y3 y4 y5 y6 (t0 l))).mono ?_; rintro e w2 ⟨rfl, L2, hm2, st2⟩; have A2 := (Aa.below hb1').step hm2 st2; have S2 : w2.cell? ⟨p, 0, none⟩ = some (.int .i64 c) ∧ w2.cell? ⟨p, 4, none⟩ = some (.int .i64 y1) ∧ w2.cell? ⟨p, 5, none⟩ = some (.int .i64 y2) ∧ w2.cell? ⟨p, 6, none⟩ = some (.int .i64 y3) ∧ w2.cell? ⟨p, 7, none⟩ = some (.int .i64 y4) ∧ w2.cell? ⟨p, 8, none⟩ = some (.int .i64 y5) ∧ w2.cell? ⟨p, 9, none⟩ = some (.int .i64 y6) ∧ w2.cell? ⟨p, 10, none⟩ = some (.int .i64 (t0 l)) := ⟨A2.cell 0, A2.cell 4, A2.cell 5, A2.cell 6, A2.cell 7, A2.cell 8, A2.cell 9, A2.cell 10⟩; have g2 := (ga.trans (Went.of_below hb1' L p)).trans (Went.of_step st2 p); have d2 : w2.cell? ⟨p, 2, none⟩ = some (.int .i64 4) := A2.cell 2; have df2 := A2.free 2))
  go_wp2
  rw [Exit.noGoto_ret]
  go_ret
  exact ⟨rfl, L2, A2.set 2 (.int .i64 5), g2.trans (Went.set _ _ _ _ _)⟩
set_option maxHeartbeats 1000000 in
theorem sh5t {c m z y1 y2 y3 y4 y5 y6 y7 l : Int} (A : At 142 w L s p 110 #[.int .i64 c, .int .i64 m, .int .i64 5, .int .u64 z, .int .i64 y1, .int .i64 y2, .int .i64 y3, .int .i64 y4, .int .i64 y5, .int .i64 y6, .int .i64 y7, .int .u64 l]) (f : s.Fit) (hc : s.c < 1000000) (r : s.Rng) (hl : U64 l) (hok : s.ok1 1 l = true) :
    Calls Tryd.prog 26 #[.pointer (some ⟨p, 0, none⟩), .pointer (some ⟨L.b, 0, none⟩)] w fun e w' => e = .returned (.bool true) ∧
      ∃ L', At 142 w' L' (s.cas 1 l (nx l c)) p 110 #[.int .i64 c, .int .i64 m, .int .i64 0, .int .u64 z, .int .i64 y1, .int .i64 y2, .int .i64 y3, .int .i64 y4, .int .i64 y5, .int .i64 y6, .int .i64 y7, .int .u64 l] ∧ Went w L p w' L' := by
  have c2 : w.cell? ⟨p, 2, none⟩ = some (.int .i64 5) := A.cell 2
  have keep : ∀ w', Below w.heap.size w w' → w'.cell? ⟨p, 0, none⟩ = some (.int .i64 c) ∧ w'.cell? ⟨p, 11, none⟩ = some (.int .u64 l) := fun w' hb => ⟨(A.below hb).cell 0, (A.below hb).cell 11⟩
  have hbd : Below w.heap.size w w.drew := (Below.refl w.heap.size w).drew
  have RD := keep _ hbd
  go_enter Tryd.func26, Tryd.ntmps26
  go_wp2
  go_step3
  go_wp2
  go_step3
  go_wp2
  go_region_held3 (fun w' => w'.cell? ⟨p, 0, none⟩ = some (.int .i64 c) ∧ w'.cell? ⟨p, 11, none⟩ = some (.int .u64 l)) (first | assumption | exact RD | exact keep _ (by assumption))
    (first
      | (go_at_call 65; refine (S.gNext l c hl.1 hl.2 _).mono ?_; rintro e w1 ⟨rfl, hb1⟩; have hb1' := bel_trans hbd hb1)
      | (go_at_call 62; refine (cCAS (A.below hb1').mem f hc 1 l (nx l c)).mono ?_; rintro e w2 ⟨rfl, L2, hm2, st2⟩; rw [hok]; have A2 := (A.below hb1').step hm2 st2; have S2 : w2.cell? ⟨p, 0, none⟩ = some (.int .i64 c) ∧ w2.cell? ⟨p, 11, none⟩ = some (.int .u64 l) := ⟨A2.cell 0, A2.cell 11⟩; have g2 := (Went.of_below hb1' L p).trans (Went.of_step st2 p); have d2 : w2.cell? ⟨p, 2, none⟩ = some (.int .i64 5) := A2.cell 2; have df2 := A2.free 2))
  go_wp2
  rw [Exit.noGoto_ret]
  go_ret
  exact ⟨rfl, L2, A2.set 2 (.int .i64 0), g2.trans (Went.set _ _ _ _ _)⟩
set_option maxHeartbeats 1000000 in
theorem sh5f {c m z y1 y2 y3 y4 y5 y6 y7 l : Int} (A : At 142 w L s p 110 #[.int .i64 c, .int .i64 m, .int .i64 5, .int .u64 z, .int .i64 y1, .int .i64 y2, .int .i64 y3, .int .i64 y4, .int .i64 y5, .int .i64 y6, .int .i64 y7, .int .u64 l]) (f : s.Fit) (hc : s.c < 1000000) (r : s.Rng) (hl : U64 l) (hok : s.ok1 1 l = false) :
    Calls Tryd.prog 26 #[.pointer (some ⟨p, 0, none⟩), .pointer (some ⟨L.b, 0, none⟩)] w fun e w' => e = .returned (.bool false) ∧
      ∃ L', At 142 w' L' (s.cas 1 l (nx l c)) p 110 #[.int .i64 c, .int .i64 m, .int .i64 3, .int .u64 z, .int .i64 y1, .int .i64 y2, .int .i64 y3, .int .i64 y4, .int .i64 y5, .int .i64 y6, .int .i64 y7, .int .u64 l] ∧ Went w L p w' L' := by
  have c2 : w.cell? ⟨p, 2, none⟩ = some (.int .i64 5) := A.cell 2
  have keep : ∀ w', Below w.heap.size w w' → w'.cell? ⟨p, 0, none⟩ = some (.int .i64 c) ∧ w'.cell? ⟨p, 11, none⟩ = some (.int .u64 l) := fun w' hb => ⟨(A.below hb).cell 0, (A.below hb).cell 11⟩
  have hbd : Below w.heap.size w w.drew := (Below.refl w.heap.size w).drew
  have RD := keep _ hbd
  go_enter Tryd.func26, Tryd.ntmps26
  go_wp2
  go_step3
  go_wp2
  go_step3
  go_wp2
  go_region_held3 (fun w' => w'.cell? ⟨p, 0, none⟩ = some (.int .i64 c) ∧ w'.cell? ⟨p, 11, none⟩ = some (.int .u64 l)) (first | assumption | exact RD | exact keep _ (by assumption))
    (first
      | (go_at_call 65; refine (S.gNext l c hl.1 hl.2 _).mono ?_; rintro e w1 ⟨rfl, hb1⟩; have hb1' := bel_trans hbd hb1)
      | (go_at_call 62; refine (cCAS (A.below hb1').mem f hc 1 l (nx l c)).mono ?_; rintro e w2 ⟨rfl, L2, hm2, st2⟩; rw [hok]; have A2 := (A.below hb1').step hm2 st2; have S2 : w2.cell? ⟨p, 0, none⟩ = some (.int .i64 c) ∧ w2.cell? ⟨p, 11, none⟩ = some (.int .u64 l) := ⟨A2.cell 0, A2.cell 11⟩; have g2 := (Went.of_below hb1' L p).trans (Went.of_step st2 p); have d2 : w2.cell? ⟨p, 2, none⟩ = some (.int .i64 5) := A2.cell 2; have df2 := A2.free 2))
  go_wp2
  rw [Exit.noGoto_ret]
  go_ret
  exact ⟨rfl, L2, A2.set 2 (.int .i64 3), g2.trans (Went.set _ _ _ _ _)⟩
set_option maxHeartbeats 1000000 in
theorem sh0 {c m z y1 y2 y3 y4 y5 y6 y7 l : Int} (A : At 142 w L s p 110 #[.int .i64 c, .int .i64 m, .int .i64 0, .int .u64 z, .int .i64 y1, .int .i64 y2, .int .i64 y3, .int .i64 y4, .int .i64 y5, .int .i64 y6, .int .i64 y7, .int .u64 l]) (f : s.Fit) (hc : s.c < 1000000) (r : s.Rng) :
    Calls Tryd.prog 26 #[.pointer (some ⟨p, 0, none⟩), .pointer (some ⟨L.b, 0, none⟩)] w fun e w' => e = .returned (.bool true) ∧
      ∃ L', At 142 w' L' (s) p 110 #[.int .i64 c, .int .i64 m, .int .i64 0, .int .u64 z, .int .i64 y1, .int .i64 y2, .int .i64 y3, .int .i64 y4, .int .i64 y5, .int .i64 y6, .int .i64 y7, .int .u64 l] ∧ Went w L p w' L' := by
  have c2 : w.cell? ⟨p, 2, none⟩ = some (.int .i64 0) := A.cell 2
  have cf2 := A.free 2
  go_enter Tryd.func26, Tryd.ntmps26
  go_wp2
  go_step3
  go_wp2
  go_step3
  go_wp2
  rw [Exit.noGoto_ret]
  go_ret
  exact ⟨rfl, L, A.set 2 (.int .i64 0), Went.set _ _ _ _ _⟩
/-- a step of a Shade -/
theorem cShade {x : ShadeS} (A : At 142 w L s p 110 x.cells) (ok : x.Ok) (f : s.Fit) (hc : s.c < 1000000) (r : s.Rng) :
    Calls Tryd.prog 26 #[.pointer (some ⟨p, 0, none⟩), .pointer (some ⟨L.b, 0, none⟩)] w fun e w' => e = .returned (.bool ((x.next s).pc == 0)) ∧
      ∃ L', At 142 w' L' (x.mem s) p 110 (x.next s).cells ∧ Went w L p w' L' := by
  obtain ⟨c, m, pc, z, ⟨y1, y2, y3, y4, y5, y6, y7⟩, l⟩ := x
  rcases pc_cases5 ok.pc with rfl | rfl | rfl | rfl | rfl | rfl
  · exact sh0 A f hc r
  · simp only [ShadeS.next]
    by_cases h1 : pS (s.got c) = 1
    · by_cases h2 : pM (s.got c) = m
      · rw [if_pos (show skips (s.got c) m from Or.inr h2)]; exact sh1b A f hc r h1 h2
      · rw [if_neg (show ¬ skips (s.got c) m from fun h => h.elim (fun h => h h1) h2)]; exact sh1c A f hc r h1 h2
    · rw [if_pos (show skips (s.got c) m from Or.inl h1)]; exact sh1a A f hc r h1
  · simp only [ShadeS.next]
    rcases hok : s.ok1 c z with _ | _
    · exact sh2f A f hc r hok
    · exact sh2t A f hc r hok
  · exact sh3 A f hc r
  · exact sh4 A f hc r ok.list
  · simp only [ShadeS.next]
    rcases hok : s.ok1 1 l with _ | _
    · exact sh5f A f hc r ok.list hok
    · exact sh5t A f hc r ok.list hok
set_option maxHeartbeats 1000000 in
theorem nx1a {l y1 y2 y3 y4 y5 y6 y7 a n : Int} (A : At 142 w L s p 132 #[.int .i64 1, .int .u64 l, .int .i64 y1, .int .i64 y2, .int .i64 y3, .int .i64 y4, .int .i64 y5, .int .i64 y6, .int .i64 y7, .int .i64 a, .int .i64 n]) (f : s.Fit) (hc : s.c < 1000000) (r : s.Rng) (h1 : t0 (s.got 1) = 0) :
    Calls Tryd.prog 69 #[.pointer (some ⟨p, 0, none⟩), .pointer (some ⟨L.b, 0, none⟩)] w fun e w' => e = .returned (.bool true) ∧
      ∃ L', At 142 w' L' (s.load 1) p 132 #[.int .i64 0, .int .u64 (s.got 1), .int .i64 y1, .int .i64 y2, .int .i64 y3, .int .i64 y4, .int .i64 y5, .int .i64 y6, .int .i64 y7, .int .i64 a, .int .i64 n] ∧ Went w L p w' L' := by
  have c0 : w.cell? ⟨p, 0, none⟩ = some (.int .i64 1) := A.cell 0
  have hr := r.got 1
  obtain ⟨v, hv⟩ : ∃ v, s.got 1 = v := ⟨_, rfl⟩
  rw [hv] at hr h1 ⊢
  have q1 : (t0 v != 0) = false := by simp [h1]
  go_enter Tryd.func69, Tryd.ntmps69
  go_wp2_with (first
    | (go_at_call 31; refine (cLoad A.mem f hc 1).mono ?_; rintro e w1 ⟨rfl, L1, hm1, st⟩; rw [hv]; have A1 := A.step hm1 st; have d1 : w1.cell? ⟨p, 1, none⟩ = some (.int .u64 l) := A1.cell 1; have df1 := A1.free 1)
    | (go_at_call 64; refine (cFirst v hr _).mono ?_; rintro e w2 ⟨rfl, hb2⟩; rw [h1]; have A2 : At 142 w2 L1 (s.load 1) p 132 #[.int .i64 1, .int .u64 v, .int .i64 y1, .int .i64 y2, .int .i64 y3, .int .i64 y4, .int .i64 y5, .int .i64 y6, .int .i64 y7, .int .i64 a, .int .i64 n] := (A1.set 1 (.int .u64 v)).below hb2; have g2 : Went w L p w2 L1 := ((Went.of_step st p).trans (Went.set _ _ _ _ _)).trans (Went.of_below hb2 _ _); clear hb2; have x0 : w2.cell? ⟨p, 0, none⟩ = some (.int .i64 1) := A2.cell 0; have xf0 := A2.free 0))
  go_ret
  exact ⟨rfl, L1, A2.set 0 (.int .i64 0), g2.trans (Went.set _ _ _ _ _)⟩
set_option maxHeartbeats 1000000 in
theorem nx1b {l y1 y2 y3 y4 y5 y6 y7 a n : Int} (A : At 142 w L s p 132 #[.int .i64 1, .int .u64 l, .int .i64 y1, .int .i64 y2, .int .i64 y3, .int .i64 y4, .int .i64 y5, .int .i64 y6, .int .i64 y7, .int .i64 a, .int .i64 n]) (f : s.Fit) (hc : s.c < 1000000) (r : s.Rng) (h1 : t0 (s.got 1) ≠ 0) :
    Calls Tryd.prog 69 #[.pointer (some ⟨p, 0, none⟩), .pointer (some ⟨L.b, 0, none⟩)] w fun e w' => e = .returned (.bool false) ∧
      ∃ L', At 142 w' L' (s.load 1) p 132 #[.int .i64 2, .int .u64 (s.got 1), .int .i64 y1, .int .i64 y2, .int .i64 y3, .int .i64 y4, .int .i64 y5, .int .i64 y6, .int .i64 y7, .int .i64 a, .int .i64 n] ∧ Went w L p w' L' := by
  have c0 : w.cell? ⟨p, 0, none⟩ = some (.int .i64 1) := A.cell 0
  have hr := r.got 1
  obtain ⟨v, hv⟩ : ∃ v, s.got 1 = v := ⟨_, rfl⟩
  rw [hv] at hr h1 ⊢
  have q1 : (t0 v != 0) = true := by simpa using h1
  go_enter Tryd.func69, Tryd.ntmps69
  go_wp2_with (first
    | (go_at_call 31; refine (cLoad A.mem f hc 1).mono ?_; rintro e w1 ⟨rfl, L1, hm1, st⟩; rw [hv]; have A1 := A.step hm1 st; have d1 : w1.cell? ⟨p, 1, none⟩ = some (.int .u64 l) := A1.cell 1; have df1 := A1.free 1)
    | (go_at_call 64; refine (cFirst v hr _).mono ?_; rintro e w2 ⟨rfl, hb2⟩; have A2 : At 142 w2 L1 (s.load 1) p 132 #[.int .i64 1, .int .u64 v, .int .i64 y1, .int .i64 y2, .int .i64 y3, .int .i64 y4, .int .i64 y5, .int .i64 y6, .int .i64 y7, .int .i64 a, .int .i64 n] := (A1.set 1 (.int .u64 v)).below hb2; have g2 : Went w L p w2 L1 := ((Went.of_step st p).trans (Went.set _ _ _ _ _)).trans (Went.of_below hb2 _ _); clear hb2; have x0 : w2.cell? ⟨p, 0, none⟩ = some (.int .i64 1) := A2.cell 0; have xf0 := A2.free 0))
  go_ret
  exact ⟨rfl, L1, A2.set 0 (.int .i64 2), g2.trans (Went.set _ _ _ _ _)⟩
set_option maxHeartbeats 1000000 in
theorem nx2 {l y1 y2 y3 y4 y5 y6 y7 a n : Int} (A : At 142 w L s p 132 #[.int .i64 2, .int .u64 l, .int .i64 y1, .int .i64 y2, .int .i64 y3, .int .i64 y4, .int .i64 y5, .int .i64 y6, .int .i64 y7, .int .i64 a, .int .i64 n]) (f : s.Fit) (hc : s.c < 1000000) (r : s.Rng) (hl : U64 l) :
    Calls Tryd.prog 69 #[.pointer (some ⟨p, 0, none⟩), .pointer (some ⟨L.b, 0, none⟩)] w fun e w' => e = .returned (.bool false) ∧
      ∃ L', At 142 w' L' (s.load (t0 l)) p 132 #[.int .i64 3, .int .u64 l, .int .i64 (pS (s.got (t0 l))), .int .i64 (pC (s.got (t0 l))), .int .i64 (pN (s.got (t0 l))), .int .i64 (pM (s.got (t0 l))), .int .i64 (pG (s.got (t0 l))), .int .i64 (pT (s.got (t0 l))), .int .i64 (pL (s.got (t0 l))), .int .i64 a, .int .i64 n] ∧ Went w L p w' L' := by
  have c0 : w.cell? ⟨p, 0, none⟩ = some (.int .i64 2) := A.cell 0
  have c1 : w.cell? ⟨p, 1, none⟩ = some (.int .u64 l) := A.cell 1
  have hr := r.got (t0 l)
  obtain ⟨v, hv⟩ : ∃ v, s.got (t0 l) = v := ⟨_, rfl⟩
  rw [hv] at hr ⊢
  go_enter Tryd.func69, Tryd.ntmps69
  go_wp2_with (first
    | (go_at_call 64; refine (cFirst l hl _).mono ?_; rintro e w0 ⟨rfl, hb0⟩; have A0 := A.below hb0)
    | (go_at_call 31; refine (cLoad A0.mem f hc _).mono ?_; rintro e w1 ⟨rfl, L1, hm1, st⟩; rw [hv]; have A1 := A0.step hm1 st)
    | (go_at_call 61; refine (H.cOf v hr.1 hr.2 _ A1.wid).mono ?_; rintro e w2 ⟨rfl, hw2⟩; have hb2 : Below w1.heap.size w1 w2 := (by rw [hw2]; go_grown); clear hw2; have A2 := A1.below hb2; have g2 : Went w L p w2 L1 := (((Went.of_below hb0 L p).trans (Went.of_step st p))).trans (Went.of_below hb2 _ _); clear hb2; have x0 : w2.cell? ⟨p, 0, none⟩ = some (.int .i64 2) := A2.cell 0; have xf0 := A2.free 0; have x2 : w2.cell? ⟨p, 2, none⟩ = some (.int .i64 y1) := A2.cell 2; have xf2 := A2.free 2; have x3 : w2.cell? ⟨p, 3, none⟩ = some (.int .i64 y2) := A2.cell 3; have xf3 := A2.free 3; have x4 : w2.cell? ⟨p, 4, none⟩ = some (.int .i64 y3) := A2.cell 4; have xf4 := A2.free 4; have x5 : w2.cell? ⟨p, 5, none⟩ = some (.int .i64 y4) := A2.cell 5; have xf5 := A2.free 5; have x6 : w2.cell? ⟨p, 6, none⟩ = some (.int .i64 y5) := A2.cell 6; have xf6 := A2.free 6; have x7 : w2.cell? ⟨p, 7, none⟩ = some (.int .i64 y6) := A2.cell 7; have xf7 := A2.free 7; have x8 : w2.cell? ⟨p, 8, none⟩ = some (.int .i64 y7) := A2.cell 8; have xf8 := A2.free 8))
  go_ret
  exact ⟨rfl, L1, (A2.putN (.int .i64 (pS v)) (.int .i64 (pC v)) (.int .i64 (pN v)) (.int .i64 (pM v)) (.int .i64 (pG v)) (.int .i64 (pT v)) (.int .i64 (pL v))).set 0 (.int .i64 3), (g2.trans (Went.head2 w2 L1 p (.int .i64 (pS v)) (.int .i64 (pC v)) (.int .i64 (pN v)) (.int .i64 (pM v)) (.int .i64 (pG v)) (.int .i64 (pT v)) (.int .i64 (pL v)))).trans (Went.set _ _ _ _ _)⟩
set_option maxHeartbeats 1000000 in
theorem nx3t {l y1 y2 y3 y4 y5 y6 y7 a n : Int} (A : At 142 w L s p 132 #[.int .i64 3, .int .u64 l, .int .i64 y1, .int .i64 y2, .int .i64 y3, .int .i64 y4, .int .i64 y5, .int .i64 y6, .int .i64 y7, .int .i64 a, .int .i64 n]) (f : s.Fit) (hc : s.c < 1000000) (r : s.Rng) (hl : U64 l) (hok : s.ok1 1 l = true) :
    Calls Tryd.prog 69 #[.pointer (some ⟨p, 0, none⟩), .pointer (some ⟨L.b, 0, none⟩)] w fun e w' => e = .returned (.bool false) ∧
      ∃ L', At 142 w' L' (s.cas 1 l (nx l y7)) p 132 #[.int .i64 4, .int .u64 l, .int .i64 y1, .int .i64 y2, .int .i64 y3, .int .i64 y4, .int .i64 y5, .int .i64 y6, .int .i64 y7, .int .i64 a, .int .i64 n] ∧ Went w L p w' L' := by
  have c0 : w.cell? ⟨p, 0, none⟩ = some (.int .i64 3) := A.cell 0
  have keep : ∀ w', Below w.heap.size w w' → w'.cell? ⟨p, 1, none⟩ = some (.int .u64 l) ∧ w'.cell? ⟨p, 8, none⟩ = some (.int .i64 y7) := fun w' hb => ⟨(A.below hb).cell 1, (A.below hb).cell 8⟩
  have hbd : Below w.heap.size w w.drew := (Below.refl w.heap.size w).drew
  have RD := keep _ hbd
  go_enter Tryd.func69, Tryd.ntmps69
  go_wp2
  go_region_held3 (fun w' => w'.cell? ⟨p, 1, none⟩ = some (.int .u64 l) ∧ w'.cell? ⟨p, 8, none⟩ = some (.int .i64 y7)) (first | assumption | exact RD | exact keep _ (by assumption))
    (first
      | (go_at_call 65; refine (S.gNext l y7 hl.1 hl.2 _).mono ?_; rintro e w1 ⟨rfl, hb1⟩; have hb1' := bel_trans hbd hb1)
      | (go_at_call 62; refine (cCAS (A.below hb1').mem f hc 1 l (nx l y7)).mono ?_; rintro e w2 ⟨rfl, L2, hm2, st2⟩; rw [hok]; have A2 := (A.below hb1').step hm2 st2; have S2 : w2.cell? ⟨p, 1, none⟩ = some (.int .u64 l) ∧ w2.cell? ⟨p, 8, none⟩ = some (.int .i64 y7) := ⟨A2.cell 1, A2.cell 8⟩; have g2 := (Went.of_below hb1' L p).trans (Went.of_step st2 p); have d0 : w2.cell? ⟨p, 0, none⟩ = some (.int .i64 3) := A2.cell 0; have df0 := A2.free 0))
  go_wp2
  go_ret
  exact ⟨rfl, L2, A2.set 0 (.int .i64 4), g2.trans (Went.set _ _ _ _ _)⟩
set_option maxHeartbeats 1000000 in
theorem nx3f {l y1 y2 y3 y4 y5 y6 y7 a n : Int} (A : At 142 w L s p 132 #[.int .i64 3, .int .u64 l, .int .i64 y1, .int .i64 y2, .int .i64 y3, .int .i64 y4, .int .i64 y5, .int .i64 y6, .int .i64 y7, .int .i64 a, .int .i64 n]) (f : s.Fit) (hc : s.c < 1000000) (r : s.Rng) (hl : U64 l) (hok : s.ok1 1 l = false) :
    Calls Tryd.prog 69 #[.pointer (some ⟨p, 0, none⟩), .pointer (some ⟨L.b, 0, none⟩)] w fun e w' => e = .returned (.bool false) ∧
      ∃ L', At 142 w' L' (s.cas 1 l (nx l y7)) p 132 #[.int .i64 1, .int .u64 l, .int .i64 y1, .int .i64 y2, .int .i64 y3, .int .i64 y4, .int .i64 y5, .int .i64 y6, .int .i64 y7, .int .i64 a, .int .i64 n] ∧ Went w L p w' L' := by
  have c0 : w.cell? ⟨p, 0, none⟩ = some (.int .i64 3) := A.cell 0
  have keep : ∀ w', Below w.heap.size w w' → w'.cell? ⟨p, 1, none⟩ = some (.int .u64 l) ∧ w'.cell? ⟨p, 8, none⟩ = some (.int .i64 y7) := fun w' hb => ⟨(A.below hb).cell 1, (A.below hb).cell 8⟩
  have hbd : Below w.heap.size w w.drew := (Below.refl w.heap.size w).drew
  have RD := keep _ hbd
  go_enter Tryd.func69, Tryd.ntmps69
  go_wp2
  go_region_held3 (fun w' => w'.cell? ⟨p, 1, none⟩ = some (.int .u64 l) ∧ w'.cell? ⟨p, 8, none⟩ = some (.int .i64 y7)) (first | assumption | exact RD | exact keep _ (by assumption))
    (first
      | (go_at_call 65; refine (S.gNext l y7 hl.1 hl.2 _).mono ?_; rintro e w1 ⟨rfl, hb1⟩; have hb1' := bel_trans hbd hb1)
      | (go_at_call 62; refine (cCAS (A.below hb1').mem f hc 1 l (nx l y7)).mono ?_; rintro e w2 ⟨rfl, L2, hm2, st2⟩; rw [hok]; have A2 := (A.below hb1').step hm2 st2; have S2 : w2.cell? ⟨p, 1, none⟩ = some (.int .u64 l) ∧ w2.cell? ⟨p, 8, none⟩ = some (.int .i64 y7) := ⟨A2.cell 1, A2.cell 8⟩; have g2 := (Went.of_below hb1' L p).trans (Went.of_step st2 p); have d0 : w2.cell? ⟨p, 0, none⟩ = some (.int .i64 3) := A2.cell 0; have df0 := A2.free 0))
  go_wp2
  go_ret
  exact ⟨rfl, L2, A2.set 0 (.int .i64 1), g2.trans (Went.set _ _ _ _ _)⟩
set_option maxHeartbeats 1000000 in
theorem nx4 {l y1 y2 y3 y4 y5 y6 y7 a n : Int} (A : At 142 w L s p 132 #[.int .i64 4, .int .u64 l, .int .i64 y1, .int .i64 y2, .int .i64 y3, .int .i64 y4, .int .i64 y5, .int .i64 y6, .int .i64 y7, .int .i64 a, .int .i64 n]) (f : s.Fit) (hc : s.c < 1000000) (r : s.Rng) (hl : U64 l) :
    Calls Tryd.prog 69 #[.pointer (some ⟨p, 0, none⟩), .pointer (some ⟨L.b, 0, none⟩)] w fun e w' => e = .returned (.bool true) ∧
      ∃ L', At 142 w' L' (s.store (t0 l) (hw y1 y2 y3 y4 0 y6 0)) p 132 #[.int .i64 0, .int .u64 l, .int .i64 y1, .int .i64 y2, .int .i64 y3, .int .i64 y4, .int .i64 0, .int .i64 y6, .int .i64 0, .int .i64 (t0 l), .int .i64 y3] ∧ Went w L p w' L' := by
  have c0 : w.cell? ⟨p, 0, none⟩ = some (.int .i64 4) := A.cell 0
  have keep : ∀ w', Below w.heap.size w w' → w'.cell? ⟨p, 1, none⟩ = some (.int .u64 l) ∧ w'.cell? ⟨p, 4, none⟩ = some (.int .i64 y3) := fun w' hb => ⟨(A.below hb).cell 1, (A.below hb).cell 4⟩
  have hbd : Below w.heap.size w w.drew := (Below.refl w.heap.size w).drew
  have RD := keep _ hbd
  go_enter Tryd.func69, Tryd.ntmps69
  go_wp2
  go_region_held3 (fun w' => w'.cell? ⟨p, 1, none⟩ = some (.int .u64 l) ∧ w'.cell? ⟨p, 4, none⟩ = some (.int .i64 y3)) (first | assumption | exact RD | exact R0 | exact R1 | exact R2 | exact keep _ (by assumption))
    (first
      | (go_at_call 64; refine (cFirst l hl _).mono ?_; rintro e w0 ⟨rfl, hb0⟩; have hb0' := bel_trans hbd hb0; have A0 := A.below hb0'; have R0 := keep _ hb0'; have k0 : w0.cell? ⟨p, 0, none⟩ = some (.int .i64 4) := A0.cell 0; have kf0 := A0.free 0; have k1 : w0.cell? ⟨p, 1, none⟩ = some (.int .u64 l) := A0.cell 1; have kf1 := A0.free 1; have k2 : w0.cell? ⟨p, 2, none⟩ = some (.int .i64 y1) := A0.cell 2; have kf2 := A0.free 2; have k3 : w0.cell? ⟨p, 3, none⟩ = some (.int .i64 y2) := A0.cell 3; have kf3 := A0.free 3; have k4 : w0.cell? ⟨p, 4, none⟩ = some (.int .i64 y3) := A0.cell 4; have kf4 := A0.free 4; have k5 : w0.cell? ⟨p, 5, none⟩ = some (.int .i64 y4) := A0.cell 5; have kf5 := A0.free 5; have k6 : w0.cell? ⟨p, 6, none⟩ = some (.int .i64 y5) := A0.cell 6; have kf6 := A0.free 6; have k7 : w0.cell? ⟨p, 7, none⟩ = some (.int .i64 y6) := A0.cell 7; have kf7 := A0.free 7; have k8 : w0.cell? ⟨p, 8, none⟩ = some (.int .i64 y7) := A0.cell 8; have kf8 := A0.free 8; have k9 : w0.cell? ⟨p, 9, none⟩ = some (.int .i64 a) := A0.cell 9; have kf9 := A0.free 9; have k10 : w0.cell? ⟨p, 10, none⟩ = some (.int .i64 n) := A0.cell 10; have kf10 := A0.free 10; have R1 : (w0.setCell ⟨p, 9, none⟩ (.int .i64 (t0 l))).cell? ⟨p, 1, none⟩ = some (.int .u64 l) ∧ (w0.setCell ⟨p, 9, none⟩ (.int .i64 (t0 l))).cell? ⟨p, 4, none⟩ = some (.int .i64 y3) := ⟨(A0.set 9 (.int .i64 (t0 l))).cell 1, (A0.set 9 (.int .i64 (t0 l))).cell 4⟩; have R2 : ((w0.setCell ⟨p, 9, none⟩ (.int .i64 (t0 l))).setCell ⟨p, 10, none⟩ (.int .i64 y3)).cell? ⟨p, 1, none⟩ = some (.int .u64 l) ∧ ((w0.setCell ⟨p, 9, none⟩ (.int .i64 (t0 l))).setCell ⟨p, 10, none⟩ (.int .i64 y3)).cell? ⟨p, 4, none⟩ = some (.int .i64 y3) := ⟨((A0.set 9 (.int .i64 (t0 l))).set 10 (.int .i64 y3)).cell 1, ((A0.set 9 (.int .i64 (t0 l))).set 10 (.int .i64 y3)).cell 4⟩))
  have Ab : At 142 ((w0.setCell ⟨p, 9, none⟩ (.int .i64 (t0 l))).setCell ⟨p, 10, none⟩ (.int .i64 y3)) L s p 132 #[.int .i64 4, .int .u64 l, .int .i64 y1, .int .i64 y2, .int .i64 y3, .int .i64 y4, .int .i64 y5, .int .i64 y6, .int .i64 y7, .int .i64 (t0 l), .int .i64 y3] := (A0.set 9 (.int .i64 (t0 l))).set 10 (.int .i64 y3)
  have gb : Went w L p ((w0.setCell ⟨p, 9, none⟩ (.int .i64 (t0 l))).setCell ⟨p, 10, none⟩ (.int .i64 y3)) L := ((Went.of_below hb0' L p).trans (Went.set _ _ _ _ _)).trans (Went.set _ _ _ _ _)
  generalize (w0.setCell ⟨p, 9, none⟩ (.int .i64 (t0 l))).setCell ⟨p, 10, none⟩ (.int .i64 y3) = wb at Ab gb ⊢
  have u6 : wb.cell? ⟨p, 6, none⟩ = some (.int .i64 y5) := Ab.cell 6
  have uf6 := Ab.free 6
  have u8 : wb.cell? ⟨p, 8, none⟩ = some (.int .i64 y7) := Ab.cell 8
  have uf8 := Ab.free 8
  go_wp2
  have Aa : At 142 ((wb.setCell ⟨p, 6, none⟩ (.int .i64 0)).setCell ⟨p, 8, none⟩ (.int .i64 0)) L s p 132 #[.int .i64 4, .int .u64 l, .int .i64 y1, .int .i64 y2, .int .i64 y3, .int .i64 y4, .int .i64 0, .int .i64 y6, .int .i64 0, .int .i64 (t0 l), .int .i64 y3] := (Ab.set 6 (.int .i64 0)).set 8 (.int .i64 0)
  have ga : Went w L p ((wb.setCell ⟨p, 6, none⟩ (.int .i64 0)).setCell ⟨p, 8, none⟩ (.int .i64 0)) L := (gb.trans (Went.set _ _ _ _ _)).trans (Went.set _ _ _ _ _)
  generalize (wb.setCell ⟨p, 6, none⟩ (.int .i64 0)).setCell ⟨p, 8, none⟩ (.int .i64 0) = wa at Aa ga ⊢
  clear keep hbd RD
  have keep : ∀ w', Below wa.heap.size wa w' → w'.cell? ⟨p, 2, none⟩ = some (.int .i64 y1) ∧ w'.cell? ⟨p, 3, none⟩ = some (.int .i64 y2) ∧ w'.cell? ⟨p, 4, none⟩ = some (.int .i64 y3) ∧ w'.cell? ⟨p, 5, none⟩ = some (.int .i64 y4) ∧ w'.cell? ⟨p, 6, none⟩ = some (.int .i64 0) ∧ w'.cell? ⟨p, 7, none⟩ = some (.int .i64 y6) ∧ w'.cell? ⟨p, 8, none⟩ = some (.int .i64 0) ∧ w'.cell? ⟨p, 9, none⟩ = some (.int .i64 (t0 l)) := fun w' hb => ⟨(Aa.below hb).cell 2, (Aa.below hb).cell 3, (Aa.below hb).cell 4, (Aa.below hb).cell 5, (Aa.below hb).cell 6, (Aa.below hb).cell 7, (Aa.below hb).cell 8, (Aa.below hb).cell 9⟩
  have hbd : Below wa.heap.size wa wa.drew := (Below.refl wa.heap.size wa).drew
  have RD := keep _ hbd
  go_region_held3 (fun w' => w'.cell? ⟨p, 2, none⟩ = some (.int .i64 y1) ∧ w'.cell? ⟨p, 3, none⟩ = some (.int .i64 y2) ∧ w'.cell? ⟨p, 4, none⟩ = some (.int .i64 y3) ∧ w'.cell? ⟨p, 5, none⟩ = some (.int .i64 y4) ∧ w'.cell? ⟨p, 6, none⟩ = some (.int .i64 0) ∧ w'.cell? ⟨p, 7, none⟩ = some (.int .i64 y6) ∧ w'.cell? ⟨p, 8, none⟩ = some (.int .i64 0) ∧ w'.cell? ⟨p, 9, none⟩ = some (.int .i64 (t0 l))) (first | assumption | exact RD | exact keep _ (by assumption))
    (first
      | (go_at_call 63; refine (H.cWord y1 y2 y3 y4 0 y6 0 _ (Aa.below hbd).wid).mono ?_; rintro e w1 ⟨rfl, x1, hw1⟩; have hb1' : Below wa.heap.size wa w1 := (by rw [hw1]; exact bel_trans hbd (((Below.refl _ _).alloc (Nat.le_refl _) _).alloc (by simp) _)); clear hw1)
      | (go_at_call 37; refine (cStore (Aa.below hb1').mem f hc (t0 l) (hw y1 y2 y3 y4 0 y6 0)).mono ?_; rintro e w2 ⟨rfl, L2, hm2, st2⟩; have A2 := (Aa.below hb1').step hm2 st2; have S2 : w2.cell? ⟨p, 2, none⟩ = some (.int .i64 y1) ∧ w2.cell? ⟨p, 3, none⟩ = some (.int .i64 y2) ∧ w2.cell? ⟨p, 4, none⟩ = some (.int .i64 y3) ∧ w2.cell? ⟨p, 5, none⟩ = some (.int .i64 y4) ∧ w2.cell? ⟨p, 6, none⟩ = some (.int .i64 0) ∧ w2.cell? ⟨p, 7, none⟩ = some (.int .i64 y6) ∧ w2.cell? ⟨p, 8, none⟩ = some (.int .i64 0) ∧ w2.cell? ⟨p, 9, none⟩ = some (.int .i64 (t0 l)) := ⟨A2.cell 2, A2.cell 3, A2.cell 4, A2.cell 5, A2.cell 6, A2.cell 7, A2.cell 8, A2.cell 9⟩; have g2 := (ga.trans (Went.of_below hb1' L p)).trans (Went.of_step st2 p); have d0 : w2.cell? ⟨p, 0, none⟩ = some (.int .i64 4) := A2.cell 0; have df0 := A2.free 0))
  go_wp2
  go_ret
  exact ⟨rfl, L2, A2.set 0 (.int .i64 0), g2.trans (Went.set _ _ _ _ _)⟩
set_option maxHeartbeats 1000000 in
theorem nx0 {l y1 y2 y3 y4 y5 y6 y7 a n : Int} (A : At 142 w L s p 132 #[.int .i64 0, .int .u64 l, .int .i64 y1, .int .i64 y2, .int .i64 y3, .int .i64 y4, .int .i64 y5, .int .i64 y6, .int .i64 y7, .int .i64 a, .int .i64 n]) (f : s.Fit) (hc : s.c < 1000000) (r : s.Rng) :
    Calls Tryd.prog 69 #[.pointer (some ⟨p, 0, none⟩), .pointer (some ⟨L.b, 0, none⟩)] w fun e w' => e = .returned (.bool true) ∧
      ∃ L', At 142 w' L' (s) p 132 #[.int .i64 0, .int .u64 l, .int .i64 y1, .int .i64 y2, .int .i64 y3, .int .i64 y4, .int .i64 y5, .int .i64 y6, .int .i64 y7, .int .i64 a, .int .i64 n] ∧ Went w L p w' L' := by
  have c0 : w.cell? ⟨p, 0, none⟩ = some (.int .i64 0) := A.cell 0
  have cf0 := A.free 0
  go_enter Tryd.func69, Tryd.ntmps69
  go_wp2
  go_ret
  exact ⟨rfl, L, A.set 0 (.int .i64 0), Went.set _ _ _ _ _⟩
/-- a step of a Next -/
theorem cNext {x : NextS} (A : At 142 w L s p 132 x.cells) (ok : x.Ok) (f : s.Fit) (hc : s.c < 1000000) (r : s.Rng) :
    Calls Tryd.prog 69 #[.pointer (some ⟨p, 0, none⟩), .pointer (some ⟨L.b, 0, none⟩)] w fun e w' => e = .returned (.bool ((x.next s).pc == 0)) ∧
      ∃ L', At 142 w' L' (x.mem s) p 132 (x.next s).cells ∧ Went w L p w' L' := by
  obtain ⟨pc, l, ⟨y1, y2, y3, y4, y5, y6, y7⟩, a, n⟩ := x
  rcases pc_cases4 ok.pc with rfl | rfl | rfl | rfl | rfl
  · exact nx0 A f hc r
  · simp only [NextS.next]
    by_cases h1 : t0 (s.got 1) = 0
    · rw [if_pos h1]; exact nx1a A f hc r h1
    · rw [if_neg h1]; exact nx1b A f hc r h1
  · exact nx2 A f hc r ok.list
  · simp only [NextS.next]
    rcases hok : s.ok1 1 l with _ | _
    · exact nx3f A f hc r ok.list hok
    · exact nx3t A f hc r ok.list hok
  · exact nx4 A f hc r ok.list
theorem cResult {T : TypeId} {x : NextS} (hb : w.heap[p]? = some (.cells x.cells T (0, 0))) :
    Calls Tryd.prog 101 #[.pointer (some ⟨p, 0, none⟩)] w fun e w' => e = .returned (.tuple #[.int .i64 x.cell, .int .i64 x.count]) ∧ Below w.heap.size w w' := by
  have c9 : w.cell? ⟨p, 9, none⟩ = some (.int .i64 x.cell) := cell_of_row w _ _ _ _ _ hb
  have c10 : w.cell? ⟨p, 10, none⟩ = some (.int .i64 x.count) := cell_of_row w _ _ _ _ _ hb
  go_enter Tryd.func101, Tryd.ntmps101
  go_wp2
  go_quiet (fail)
  go_wp2
  go_ret2
  exact ⟨rfl, S.bdr (Below.refl _ _) _⟩
end
end Go.Proofs.YtoablodmodnamaaDoor

