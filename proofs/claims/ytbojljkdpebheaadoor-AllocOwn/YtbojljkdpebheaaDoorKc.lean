/-
  What the functions that Take and Give share come to when they are called.
-/
import Derived.Test.YtbojljkdpebheaaDoorKp
import Derived.Test.YtbojljkdpebheaaDoorIi
import Derived.Deep.RegionHeld3
namespace Go.Proofs.YtbojljkdpebheaaDoor
set_option linter.unusedVariables false
set_option maxRecDepth 100000
open Go.ChangeShapes Go.WideShapes Go.RowKit
open S.Plain (t0 t1 tw nx bw b0 b1 b2 b3)
open H.Plain (hw pL)

theorem kEntry {q : Pl} (ok : q.Ok) {i : Int} (h0 : -10 ≤ i) (h1 : i ≤ 5000) (w : World) :
    Calls Tryd.prog 88 #[.agg #[.int .i64 q.t, .int .i64 q.b, .int .i64 q.tb, .int .i64 q.hp, .int .i64 q.sz], .int .i64 i] w fun e w' => e = .returned (.int .i64 (q.tb + i)) ∧ Below w.heap.size w w' := by
  obtain ⟨x, y, z, u, v⟩ := q
  obtain ⟨q0, q1, _, _⟩ := ok
  simp only at q0 q1
  go_enter Tryd.func88, Tryd.ntmps88
  go_wp2
  go_ret
  exact ⟨rfl, P.bal (Below.refl _ _) _⟩
theorem mul_bounds2 {k x : Int} (h0 : 0 ≤ k) (h1 : k ≤ 100) (x0 : 0 ≤ x) (x1 : x ≤ 16) : 0 ≤ k * x ∧ k * x ≤ 1600 := P.mul_bounds h0 h1 x0 x1
theorem kCell {q : Pl} (ok : q.Ok) {i k : Int} (c : Int) (i0 : -10 ≤ i) (i1 : i ≤ 5000) (k0 : 0 ≤ k) (k1 : k ≤ 100) (w : World) (W : Laid w) :
    Calls Tryd.prog 94 #[.agg #[.int .i64 q.t, .int .i64 q.b, .int .i64 q.tb, .int .i64 q.hp, .int .i64 q.sz], .int .i64 i, .int .i64 c, .int .i64 k] w fun e w' => e = .returned (.int .i64 (q.cell i c k)) ∧ Below w.heap.size w w' := by
  obtain ⟨x, y, z, u, v⟩ := q
  obtain ⟨_, _, q0, q1⟩ := ok
  simp only at q0 q1
  have b1 := (P.Plain.wd_bounds c).1
  have b2 := (P.Plain.wd_bounds c).2
  have m1 := (mul_bounds2 k0 k1 b1 b2).1
  have m2 := (mul_bounds2 k0 k1 b1 b2).2
  go_enter Tryd.func94, Tryd.ntmps94
  go_wp2
  go_quiet ((go_at_call 101; exact Calls.quiet_of_same (P.cWords _ _ (W.2.on (P.bdr (P.bal (Below.refl _ _) _) _)))))
  go_wp2
  go_ret
  exact ⟨rfl, P.bdr (P.bal (Below.refl _ _) _) _⟩
section
variable {w : World} {L : Loc} {s : St} {p o : Nat} {la lb : List Value} {T : TypeId} {cs : Array Value} {q : Pl} {z : Int}
theorem mFirst (hb : BlI w p T la lb o cs) (I : MachIn cs q z) (hz : U64 z) :
    Calls Tryd.prog 79 #[.pointer (some ⟨p, o, none⟩)] w fun e w' => e = .returned (.int .i64 (t0 z)) ∧ Below w.heap.size w w' := by
  have c5 : w.cell? ⟨p, o + 5, none⟩ = some (.int .u64 z) := hb.cell 5 I.c5
  have f0 := ftop0 (t0 z) (t1 z)
  go_enter Tryd.func79, Tryd.ntmps79
  go_wp2_with (go_at_call 82; refine (S.cOfTop z hz.1 hz.2 _).mono ?_; rintro e w1 ⟨rfl, hw1⟩; have hb1 : Below w.heap.size w w1 := (by rw [hw1]; go_grown); clear hw1)
  go_ret
  exact ⟨rfl, hb1⟩
theorem mReadHead (A : AtI 89 w L s p T la lb o cs) (I : MachIn cs q z) (f : s.Fit) (hc : s.c < 1000000) :
    Calls Tryd.prog 86 #[.pointer (some ⟨p, o, none⟩), .pointer (some ⟨L.b, 0, none⟩)] w fun e w' => e = .returned (.tuple #[]) ∧
      ∃ L', AtI 89 w' L' (s.load 2) p T la lb o (cs.setIfInBounds 5 (.int .u64 (s.got 2))) ∧ Went w L p w' L' := by
  go_enter Tryd.func86, Tryd.ntmps86
  go_wp2_with (go_at_call 15; refine (cLoad A.mem f hc 2).mono ?_; rintro e w1 ⟨rfl, L1, hm1, st⟩; have A1 := A.step hm1 st; have d5 : w1.cell? ⟨p, o + 5, none⟩ = some (.int .u64 z) := A1.cell 5 I.c5; have df5 := A1.free 5)
  go_end0
  exact ⟨rfl, L1, A1.set 5 _ I.c5, (Went.of_step st p).trans (Went.set _ _ _ _ _)⟩
set_option maxHeartbeats 1000000 in
theorem mSwap (A : AtI 89 w L s p T la lb o cs) (I : MachIn cs q z) (f : s.Fit) (hc : s.c < 1000000) (hz : U64 z) (n : Int) :
    Calls Tryd.prog 90 #[.pointer (some ⟨p, o, none⟩), .pointer (some ⟨L.b, 0, none⟩), .int .i64 n] w fun e w' => e = .returned (.bool (s.ok1 2 z)) ∧
      ∃ L', AtI 89 w' L' (s.cas 2 z (nx z n)) p T la lb o cs ∧ Went w L p w' L' := by
  have keep : ∀ w', Below w.heap.size w w' → w'.cell? ⟨p, o + 5, none⟩ = some (.int .u64 z) := fun w' hb => (A.below hb).cell 5 I.c5
  have hbd : Below w.heap.size w w.drew := (Below.refl w.heap.size w).drew
  have RD := keep _ hbd
  go_enter Tryd.func90, Tryd.ntmps90
  go_wp2
  go_region_held3 (fun w' => w'.cell? ⟨p, o + 5, none⟩ = some (.int .u64 z)) (first | assumption | exact RD | exact keep _ (by assumption))
    (first
      | (go_at_call 84; refine (S.gNext z n hz.1 hz.2 _).mono ?_; rintro e w1 ⟨rfl, hb1⟩; have hb1' := bel_trans hbd hb1)
      | (go_at_call 83; refine (cCAS (A.below hb1').mem f hc 2 z (nx z n)).mono ?_; rintro e w2 ⟨rfl, L2, hm2, st2⟩; have A2 := (A.below hb1').step hm2 st2; have S2 : w2.cell? ⟨p, o + 5, none⟩ = some (.int .u64 z) := A2.cell 5 I.c5; have g2 := (Went.of_below hb1' L p).trans (Went.of_step st2 p)))
  go_wp2
  go_ret
  exact ⟨rfl, L2, A2, g2⟩
set_option maxHeartbeats 1000000 in
theorem mWrite (A : AtI 89 w L s p T la lb o cs) (I : MachIn cs q z) (ok : q.Ok) (f : s.Fit) (hc : s.c < 1000000) {i : Int} (i0 : -10 ≤ i) (i1 : i ≤ 5000) (b0 b1 b2 b3 : Int) :
    Calls Tryd.prog 91 #[.pointer (some ⟨p, o, none⟩), .pointer (some ⟨L.b, 0, none⟩), .int .i64 i, .agg #[.int .i64 b0, .int .i64 b1, .int .i64 b2, .int .i64 b3]] w fun e w' => e = .returned (.tuple #[]) ∧
      ∃ L', AtI 89 w' L' (s.store (q.tb + i) (bw b0 b1 b2 b3)) p T la lb o cs ∧ Went w L p w' L' := by
  go_enter Tryd.func91, Tryd.ntmps91
  go_wp2
  have hba : Below w.heap.size w (w.alloc (.cells #[.int .i64 b0, .int .i64 b1, .int .i64 b2, .int .i64 b3] 102)) := S.bal (Below.refl _ _) _
  have k0 : (w.alloc (.cells #[.int .i64 b0, .int .i64 b1, .int .i64 b2, .int .i64 b3] 102)).heap[w.heap.size]? = some (.cells #[.int .i64 b0, .int .i64 b1, .int .i64 b2, .int .i64 b3] 102 (0, 0)) := heap_alloc_new _ _
  have Aa := A.below hba
  have ga := Went.of_below hba L p
  obtain ⟨y, hy⟩ : ∃ y, w.heap.size = y := ⟨_, rfl⟩
  rw [hy] at k0 ⊢
  clear hy hba
  generalize w.alloc (.cells #[.int .i64 b0, .int .i64 b1, .int .i64 b2, .int .i64 b3] 102) = wa at Aa ga k0 ⊢
  have all : ∀ w' {L'} {s'}, AtI 89 w' L' s' p T la lb o cs → w'.heap[y]? = some (.cells #[.int .i64 b0, .int .i64 b1, .int .i64 b2, .int .i64 b3] 102 (0, 0)) → w'.cell? ⟨p, o, none⟩ = some (.int .i64 q.t) ∧ w'.cell? ⟨p, o + 1, none⟩ = some (.int .i64 q.b) ∧ w'.cell? ⟨p, o + 2, none⟩ = some (.int .i64 q.tb) ∧ w'.cell? ⟨p, o + 3, none⟩ = some (.int .i64 q.hp) ∧ w'.cell? ⟨p, o + 4, none⟩ = some (.int .i64 q.sz) ∧ w'.cell? ⟨y, 0, none⟩ = some (.int .i64 b0) ∧ w'.cell? ⟨y, 1, none⟩ = some (.int .i64 b1) ∧ w'.cell? ⟨y, 2, none⟩ = some (.int .i64 b2) ∧ w'.cell? ⟨y, 3, none⟩ = some (.int .i64 b3) := fun w' L' s' B k1 =>
    ⟨B.cell 0 I.c0, B.cell 1 I.c1, B.cell 2 I.c2, B.cell 3 I.c3, B.cell 4 I.c4, cell_of_row w' _ _ _ _ _ k1, cell_of_row w' _ _ _ _ _ k1, cell_of_row w' _ _ _ _ _ k1, cell_of_row w' _ _ _ _ _ k1⟩
  have keep : ∀ w', Below wa.heap.size wa w' → w'.cell? ⟨p, o, none⟩ = some (.int .i64 q.t) ∧ w'.cell? ⟨p, o + 1, none⟩ = some (.int .i64 q.b) ∧ w'.cell? ⟨p, o + 2, none⟩ = some (.int .i64 q.tb) ∧ w'.cell? ⟨p, o + 3, none⟩ = some (.int .i64 q.hp) ∧ w'.cell? ⟨p, o + 4, none⟩ = some (.int .i64 q.sz) ∧ w'.cell? ⟨y, 0, none⟩ = some (.int .i64 b0) ∧ w'.cell? ⟨y, 1, none⟩ = some (.int .i64 b1) ∧ w'.cell? ⟨y, 2, none⟩ = some (.int .i64 b2) ∧ w'.cell? ⟨y, 3, none⟩ = some (.int .i64 b3) := fun w' hb => all w' (Aa.below hb) ((hb.block y (lt_of_block k0)).trans k0)
  have hbd : Below wa.heap.size wa wa.drew := (Below.refl wa.heap.size wa).drew
  have RD := keep _ hbd
  go_region_held3 (fun w' => w'.cell? ⟨p, o, none⟩ = some (.int .i64 q.t) ∧ w'.cell? ⟨p, o + 1, none⟩ = some (.int .i64 q.b) ∧ w'.cell? ⟨p, o + 2, none⟩ = some (.int .i64 q.tb) ∧ w'.cell? ⟨p, o + 3, none⟩ = some (.int .i64 q.hp) ∧ w'.cell? ⟨p, o + 4, none⟩ = some (.int .i64 q.sz) ∧ w'.cell? ⟨y, 0, none⟩ = some (.int .i64 b0) ∧ w'.cell? ⟨y, 1, none⟩ = some (.int .i64 b1) ∧ w'.cell? ⟨y, 2, none⟩ = some (.int .i64 b2) ∧ w'.cell? ⟨y, 3, none⟩ = some (.int .i64 b3)) (first | assumption | exact RD | exact keep _ (by assumption))
    (first
      | (go_at_call 88; refine (kEntry ok i0 i1 _).mono ?_; rintro e w1 ⟨rfl, hb1⟩; have hb1' := bel_trans hbd hb1)
      | (go_at_call 100; refine (S.gBlock b0 b1 b2 b3 _).mono ?_; rintro e w2 ⟨rfl, hb2⟩; have hb2' := bel_trans hb1' hb2)
      | (go_at_call 27; refine (cStore (Aa.below hb2').mem f hc _ _).mono ?_; rintro e w3 ⟨rfl, L3, hm3, st3⟩; have A3 := (Aa.below hb2').step hm3 st3; have k2 := (hb2'.block y (lt_of_block k0)).trans k0; have S3 := all w3 A3 ((st3.kept.block y (lt_of_block k2) (notin_fp (Aa.below hb2').mem (by decide) (by decide) k2)).trans k2); have g3 := (ga.trans (Went.of_below hb2' L p)).trans (Went.of_step st3 p)))
  go_wp2
  go_end0
  exact ⟨rfl, L3, A3, g3⟩
end
end Go.Proofs.YtbojljkdpebheaaDoor
