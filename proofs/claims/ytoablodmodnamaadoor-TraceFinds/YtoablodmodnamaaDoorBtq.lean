/-
  The reference's Take, step by step.
-/
import Derived.Test.YtoablodmodnamaaDoorBaq
import Derived.Test.YtoablodmodnamaaDoorBhq
import Derived.Deep.RegionHeld3
namespace Go.Proofs.YtoablodmodnamaaDoor
set_option linter.unusedVariables false
set_option linter.unusedSimpArgs false
set_option maxRecDepth 100000
open Go.ChangeShapes Go.WideShapes Go.RowKit
open S.Plain (t0 t1 tw nx bw b0 b1 b2 b3)
open H.Plain (hw pS pC pN pM pG pT pL)

theorem rNewTake (q : Pl) (c e : Int) (w : World) :
    Calls Tryd.prog 107 #[.agg #[.int .i64 q.t, .int .i64 q.b, .int .i64 q.tb, .int .i64 q.hp, .int .i64 q.sz], .int .i64 c, .int .i64 e] w fun r w' => ∃ w1, r = .returned (.pointer (some ⟨w1.heap.size, 0, none⟩)) ∧ Below w.heap.size w w1 ∧ w' = w1.alloc (.cells #[.int .i64 q.t, .int .i64 q.b, .int .i64 q.tb, .int .i64 q.hp, .int .i64 q.sz, .int .i64 c, .int .i64 e, .int .i64 1, .int .i64 0, .int .u64 0, .int .u64 0, .pointer none, .int .i64 0] 180) := by
  go_enter Tryd.func107, Tryd.ntmps107
  go_wp2
  go_ret
  exact ⟨w.alloc (.cells #[.int .i64 q.t, .int .i64 q.b, .int .i64 q.tb, .int .i64 q.hp, .int .i64 q.sz] 32), by simp, S.bal (Below.refl _ _) _, rfl⟩
section
variable {w : World} {L : Loc} {s : St} {p : Nat} {q : Pl} {c e K z v : Int} {xp : Value}
set_option maxHeartbeats 1000000 in
theorem rCl {v6 v7 v8 v10 v11 v12 : Value} (hb : w.heap[p]? = some (.cells #[.int .i64 q.t, .int .i64 q.b, .int .i64 q.tb, .int .i64 q.hp, .int .i64 q.sz, .int .i64 c, v6, v7, v8, .int .u64 z, v10, v11, v12] 180 (0, 0))) (hq : q.Ok) (hz : U64 z) {k : Int} (k0 : 0 ≤ k) (k1 : k ≤ 100) :
    Calls Tryd.prog 115 #[.pointer (some ⟨p, 0, none⟩), .int .i64 k] w fun e w' => e = .returned (.int .i64 (q.cell (t0 z - 1) c k)) ∧ Below w.heap.size w w' := by
  have tb0 := (t0_bounds z).1
  have tb1 := (t0_bounds z).2
  have f0 := ftop0 (t0 z) (t1 z)
  have wr : IntKind.i64.wrap (t0 z - 1) = t0 z - 1 := by rw [IntKind.wrap_i64]; omega
  have keep : ∀ w', Below w.heap.size w w' → w'.cell? ⟨p, 0, none⟩ = some (.int .i64 q.t) ∧ w'.cell? ⟨p, 1, none⟩ = some (.int .i64 q.b) ∧ w'.cell? ⟨p, 2, none⟩ = some (.int .i64 q.tb) ∧ w'.cell? ⟨p, 3, none⟩ = some (.int .i64 q.hp) ∧ w'.cell? ⟨p, 4, none⟩ = some (.int .i64 q.sz) ∧ w'.cell? ⟨p, 5, none⟩ = some (.int .i64 c) ∧ w'.cell? ⟨p, 9, none⟩ = some (.int .u64 z) := fun w' h => by
    have hb' := (h.block p (lt_of_block hb)).trans hb
    exact ⟨cell_of_row w' _ _ _ _ _ hb', cell_of_row w' _ _ _ _ _ hb', cell_of_row w' _ _ _ _ _ hb', cell_of_row w' _ _ _ _ _ hb', cell_of_row w' _ _ _ _ _ hb', cell_of_row w' _ _ _ _ _ hb', cell_of_row w' _ _ _ _ _ hb'⟩
  have hbd : Below w.heap.size w w.drew := (Below.refl w.heap.size w).drew
  have RD := keep _ hbd
  go_enter Tryd.func115, Tryd.ntmps115
  go_wp2
  go_region_held3 (fun w' => w'.cell? ⟨p, 0, none⟩ = some (.int .i64 q.t) ∧ w'.cell? ⟨p, 1, none⟩ = some (.int .i64 q.b) ∧ w'.cell? ⟨p, 2, none⟩ = some (.int .i64 q.tb) ∧ w'.cell? ⟨p, 3, none⟩ = some (.int .i64 q.hp) ∧ w'.cell? ⟨p, 4, none⟩ = some (.int .i64 q.sz) ∧ w'.cell? ⟨p, 5, none⟩ = some (.int .i64 c) ∧ w'.cell? ⟨p, 9, none⟩ = some (.int .u64 z)) (first | assumption | exact RD | exact keep _ (by assumption))
    (first
      | (go_at_call 33; refine (S.rOfTop _ hz.1 hz.2 _).mono ?_; rintro e' w1 ⟨rfl, hw1⟩; have hb1' : Below w.heap.size w w1 := hw1 ▸ bel_trans hbd ((Below.refl _ _).alloc (Nat.le_refl _) _); clear hw1)
      | (go_at_call 119; refine (kRCell hq c (by omega) (by omega) k0 k1 _).mono ?_; rintro e' w2 ⟨rfl, hb2⟩; have hb2' := bel_trans hb1' hb2))
  go_wp2
  go_ret
  exact ⟨rfl, hb2'⟩
set_option maxHeartbeats 2000000 in
theorem rT1a (A : At 80 w L s p 180 #[.int .i64 q.t, .int .i64 q.b, .int .i64 q.tb, .int .i64 q.hp, .int .i64 q.sz, .int .i64 c, .int .i64 e, .int .i64 1, .int .i64 K, .int .u64 z, .int .u64 v, xp, .int .i64 0]) (hq : q.Ok) (c0 : 0 ≤ c) (c2 : c ≤ 2) (e0 : 0 ≤ e) (e1 : e ≤ 1) (f : s.Fit) (hc : s.c < 1000000) (r : s.Rng) (hz : U64 z) (hv : U64 v) (hq0 : t0 (s.got 2) = 0) :
    Calls Tryd.prog 108 #[.pointer (some ⟨p, 0, none⟩), .pointer (some ⟨L.b, 0, none⟩)] w fun e' w' => e' = .returned (.bool true) ∧
      ∃ L', At 80 w' L' (s.load 2) p 180 #[.int .i64 q.t, .int .i64 q.b, .int .i64 q.tb, .int .i64 q.hp, .int .i64 q.sz, .int .i64 c, .int .i64 e, .int .i64 0, .int .i64 K, .int .u64 (s.got 2), .int .u64 v, xp, .int .i64 0] ∧ Went w L p w' L' := by
  have tb0 := (t0_bounds z).1
  have tb1 := (t0_bounds z).2
  have f0 := ftop0 (t0 z) (t1 z)
  have cb0 := (cs_bounds c0 c2).1
  have cb1 := (cs_bounds c0 c2).2
  have hr := r.got 2
  obtain ⟨y, hy⟩ : ∃ y, s.got 2 = y := ⟨_, rfl⟩
  rw [hy] at hr hq0 ⊢
  have f0y := ftop0 (t0 y) (t1 y)
  have c9 : w.cell? ⟨p, 9, none⟩ = some (.int .u64 z) := A.cell 9
  have cf9 := A.free 9
  have c5 : w.cell? ⟨p, 5, none⟩ = some (.int .i64 c) := A.cell 5
  have cf5 := A.free 5
  have c7 : w.cell? ⟨p, 7, none⟩ = some (.int .i64 1) := A.cell 7
  have cf7 := A.free 7
  go_enter Tryd.func108, Tryd.ntmps108
  go_wp2_with (first
    | (have hh := Aa; go_at_call 44; refine (rLoad Aa.mem f hc 2).mono ?_; rintro e' w1 ⟨rfl, L1, hm1, st1⟩; rw [hy]; have A1 := Aa.step hm1 st1; have g1 := ga.trans (Went.of_step st1 p); have b7 : w1.cell? ⟨p, 7, none⟩ = some (.int .i64 1) := A1.cell 7; have bf7 := A1.free 7; have b9 : w1.cell? ⟨p, 9, none⟩ = some (.int .u64 z) := A1.cell 9; have bf9 := A1.free 9)
    | (have hh := A1; go_at_call 33; refine (S.rOfTop _ hr.1 hr.2 _).mono ?_; rintro e' w2 ⟨rfl, hw2⟩; rw [hq0] at f0y ⊢; have hb2 := hw2 ▸ (Below.refl _ _).alloc (Nat.le_refl _) _; clear hw2; have A2 : At 80 w2 L1 (s.load 2) p 180 #[.int .i64 q.t, .int .i64 q.b, .int .i64 q.tb, .int .i64 q.hp, .int .i64 q.sz, .int .i64 c, .int .i64 e, .int .i64 2, .int .i64 K, .int .u64 y, .int .u64 v, xp, .int .i64 0] := ((A1.set 9 (.int .u64 y)).set 7 (.int .i64 2)).below hb2; have g2 : Went w L p w2 L1 := ((g1.trans (Went.set _ _ p 9 (.int .u64 y))).trans (Went.set _ _ p 7 (.int .i64 2))).trans (Went.of_below hb2 _ _); have d7 : w2.cell? ⟨p, 7, none⟩ = some (.int .i64 2) := A2.cell 7; have df7 := A2.free 7)
    | (go_at_call 33; refine (S.rOfTop _ hz.1 hz.2 _).mono ?_; rintro e' wa ⟨rfl, hwa⟩; have hba : Below w.heap.size w wa := (by rw [hwa]; go_grown); clear hwa; have Aa := A.below hba; have ga := Went.of_below hba L p; have a0 : wa.cell? ⟨p, 0, none⟩ = some (.int .i64 q.t) := Aa.cell 0; have af0 := Aa.free 0; have a1 : wa.cell? ⟨p, 1, none⟩ = some (.int .i64 q.b) := Aa.cell 1; have af1 := Aa.free 1; have a2 : wa.cell? ⟨p, 2, none⟩ = some (.int .i64 q.tb) := Aa.cell 2; have af2 := Aa.free 2; have a3 : wa.cell? ⟨p, 3, none⟩ = some (.int .i64 q.hp) := Aa.cell 3; have af3 := Aa.free 3; have a4 : wa.cell? ⟨p, 4, none⟩ = some (.int .i64 q.sz) := Aa.cell 4; have af4 := Aa.free 4; have a5 : wa.cell? ⟨p, 5, none⟩ = some (.int .i64 c) := Aa.cell 5; have af5 := Aa.free 5; have a6 : wa.cell? ⟨p, 6, none⟩ = some (.int .i64 e) := Aa.cell 6; have af6 := Aa.free 6; have a7 : wa.cell? ⟨p, 7, none⟩ = some (.int .i64 1) := Aa.cell 7; have af7 := Aa.free 7; have a8 : wa.cell? ⟨p, 8, none⟩ = some (.int .i64 K) := Aa.cell 8; have af8 := Aa.free 8; have a9 : wa.cell? ⟨p, 9, none⟩ = some (.int .u64 z) := Aa.cell 9; have af9 := Aa.free 9; have a10 : wa.cell? ⟨p, 10, none⟩ = some (.int .u64 v) := Aa.cell 10; have af10 := Aa.free 10)
    | (go_at_call 113; refine (P.rCells c _).mono ?_; rintro e' wx ⟨rfl, hwx⟩; rw [hwx]; clear hwx wx))
  go_ret
  exact ⟨rfl, L1, A2.set 7 (.int .i64 0), g2.trans (Went.set _ _ _ _ _)⟩
set_option maxHeartbeats 2000000 in
theorem rT1b (A : At 80 w L s p 180 #[.int .i64 q.t, .int .i64 q.b, .int .i64 q.tb, .int .i64 q.hp, .int .i64 q.sz, .int .i64 c, .int .i64 e, .int .i64 1, .int .i64 K, .int .u64 z, .int .u64 v, xp, .int .i64 0]) (hq : q.Ok) (c0 : 0 ≤ c) (c2 : c ≤ 2) (e0 : 0 ≤ e) (e1 : e ≤ 1) (f : s.Fit) (hc : s.c < 1000000) (r : s.Rng) (hz : U64 z) (hv : U64 v) (hq0 : t0 (s.got 2) ≠ 0) :
    Calls Tryd.prog 108 #[.pointer (some ⟨p, 0, none⟩), .pointer (some ⟨L.b, 0, none⟩)] w fun e' w' => e' = .returned (.bool false) ∧
      ∃ L', At 80 w' L' (s.load 2) p 180 #[.int .i64 q.t, .int .i64 q.b, .int .i64 q.tb, .int .i64 q.hp, .int .i64 q.sz, .int .i64 c, .int .i64 e, .int .i64 2, .int .i64 K, .int .u64 (s.got 2), .int .u64 v, xp, .int .i64 0] ∧ Went w L p w' L' := by
  have tb0 := (t0_bounds z).1
  have tb1 := (t0_bounds z).2
  have f0 := ftop0 (t0 z) (t1 z)
  have cb0 := (cs_bounds c0 c2).1
  have cb1 := (cs_bounds c0 c2).2
  have hr := r.got 2
  obtain ⟨y, hy⟩ : ∃ y, s.got 2 = y := ⟨_, rfl⟩
  rw [hy] at hr hq0 ⊢
  have f0y := ftop0 (t0 y) (t1 y)
  have hq' : (t0 y == 0) = false := by simpa using hq0
  have c9 : w.cell? ⟨p, 9, none⟩ = some (.int .u64 z) := A.cell 9
  have cf9 := A.free 9
  have c5 : w.cell? ⟨p, 5, none⟩ = some (.int .i64 c) := A.cell 5
  have cf5 := A.free 5
  have c7 : w.cell? ⟨p, 7, none⟩ = some (.int .i64 1) := A.cell 7
  have cf7 := A.free 7
  go_enter Tryd.func108, Tryd.ntmps108
  go_wp2_with (first
    | (have hh := Aa; go_at_call 44; refine (rLoad Aa.mem f hc 2).mono ?_; rintro e' w1 ⟨rfl, L1, hm1, st1⟩; rw [hy]; have A1 := Aa.step hm1 st1; have g1 := ga.trans (Went.of_step st1 p); have b7 : w1.cell? ⟨p, 7, none⟩ = some (.int .i64 1) := A1.cell 7; have bf7 := A1.free 7; have b9 : w1.cell? ⟨p, 9, none⟩ = some (.int .u64 z) := A1.cell 9; have bf9 := A1.free 9)
    | (have hh := A1; go_at_call 33; refine (S.rOfTop _ hr.1 hr.2 _).mono ?_; rintro e' w2 ⟨rfl, hw2⟩; have hb2 := hw2 ▸ (Below.refl _ _).alloc (Nat.le_refl _) _; clear hw2; have A2 : At 80 w2 L1 (s.load 2) p 180 #[.int .i64 q.t, .int .i64 q.b, .int .i64 q.tb, .int .i64 q.hp, .int .i64 q.sz, .int .i64 c, .int .i64 e, .int .i64 2, .int .i64 K, .int .u64 y, .int .u64 v, xp, .int .i64 0] := ((A1.set 9 (.int .u64 y)).set 7 (.int .i64 2)).below hb2; have g2 : Went w L p w2 L1 := ((g1.trans (Went.set _ _ p 9 (.int .u64 y))).trans (Went.set _ _ p 7 (.int .i64 2))).trans (Went.of_below hb2 _ _); have d7 : w2.cell? ⟨p, 7, none⟩ = some (.int .i64 2) := A2.cell 7; have df7 := A2.free 7)
    | (go_at_call 33; refine (S.rOfTop _ hz.1 hz.2 _).mono ?_; rintro e' wa ⟨rfl, hwa⟩; have hba : Below w.heap.size w wa := (by rw [hwa]; go_grown); clear hwa; have Aa := A.below hba; have ga := Went.of_below hba L p; have a0 : wa.cell? ⟨p, 0, none⟩ = some (.int .i64 q.t) := Aa.cell 0; have af0 := Aa.free 0; have a1 : wa.cell? ⟨p, 1, none⟩ = some (.int .i64 q.b) := Aa.cell 1; have af1 := Aa.free 1; have a2 : wa.cell? ⟨p, 2, none⟩ = some (.int .i64 q.tb) := Aa.cell 2; have af2 := Aa.free 2; have a3 : wa.cell? ⟨p, 3, none⟩ = some (.int .i64 q.hp) := Aa.cell 3; have af3 := Aa.free 3; have a4 : wa.cell? ⟨p, 4, none⟩ = some (.int .i64 q.sz) := Aa.cell 4; have af4 := Aa.free 4; have a5 : wa.cell? ⟨p, 5, none⟩ = some (.int .i64 c) := Aa.cell 5; have af5 := Aa.free 5; have a6 : wa.cell? ⟨p, 6, none⟩ = some (.int .i64 e) := Aa.cell 6; have af6 := Aa.free 6; have a7 : wa.cell? ⟨p, 7, none⟩ = some (.int .i64 1) := Aa.cell 7; have af7 := Aa.free 7; have a8 : wa.cell? ⟨p, 8, none⟩ = some (.int .i64 K) := Aa.cell 8; have af8 := Aa.free 8; have a9 : wa.cell? ⟨p, 9, none⟩ = some (.int .u64 z) := Aa.cell 9; have af9 := Aa.free 9; have a10 : wa.cell? ⟨p, 10, none⟩ = some (.int .u64 v) := Aa.cell 10; have af10 := Aa.free 10)
    | (go_at_call 113; refine (P.rCells c _).mono ?_; rintro e' wx ⟨rfl, hwx⟩; rw [hwx]; clear hwx wx))
  go_ret
  exact ⟨rfl, L1, A2, g2⟩
set_option maxHeartbeats 2000000 in
theorem rT2 (A : At 80 w L s p 180 #[.int .i64 q.t, .int .i64 q.b, .int .i64 q.tb, .int .i64 q.hp, .int .i64 q.sz, .int .i64 c, .int .i64 e, .int .i64 2, .int .i64 K, .int .u64 z, .int .u64 v, xp, .int .i64 0]) (hq : q.Ok) (c0 : 0 ≤ c) (c2 : c ≤ 2) (e0 : 0 ≤ e) (e1 : e ≤ 1) (f : s.Fit) (hc : s.c < 1000000) (r : s.Rng) (hz : U64 z) (hv : U64 v) :
    Calls Tryd.prog 108 #[.pointer (some ⟨p, 0, none⟩), .pointer (some ⟨L.b, 0, none⟩)] w fun e' w' => e' = .returned (.bool false) ∧
      ∃ L', At 80 w' L' (s.load (q.tb + (t0 z - 1))) p 180 #[.int .i64 q.t, .int .i64 q.b, .int .i64 q.tb, .int .i64 q.hp, .int .i64 q.sz, .int .i64 c, .int .i64 e, .int .i64 3, .int .i64 K, .int .u64 z, .int .u64 (s.got (q.tb + (t0 z - 1))), xp, .int .i64 0] ∧ Went w L p w' L' := by
  have tb0 := (t0_bounds z).1
  have tb1 := (t0_bounds z).2
  have f0 := ftop0 (t0 z) (t1 z)
  have cb0 := (cs_bounds c0 c2).1
  have cb1 := (cs_bounds c0 c2).2
  have c9 : w.cell? ⟨p, 9, none⟩ = some (.int .u64 z) := A.cell 9
  have cf9 := A.free 9
  have c5 : w.cell? ⟨p, 5, none⟩ = some (.int .i64 c) := A.cell 5
  have cf5 := A.free 5
  have c7 : w.cell? ⟨p, 7, none⟩ = some (.int .i64 2) := A.cell 7
  have cf7 := A.free 7
  go_enter Tryd.func108, Tryd.ntmps108
  go_wp2_with (first
    | (go_at_call 91; refine (kREntry hq (by omega) (by omega) _).mono ?_; rintro e' w1 ⟨rfl, hb1⟩; have A1 := Aa.below hb1; have g1 := ga.trans (Went.of_below hb1 L p))
    | (go_at_call 44; refine (rLoad A1.mem f hc _).mono ?_; rintro e' w2 ⟨rfl, L2, hm2, st2⟩; have A2 := A1.step hm2 st2; have g2 := g1.trans (Went.of_step st2 p); have d7 : w2.cell? ⟨p, 7, none⟩ = some (.int .i64 2) := A2.cell 7; have df7 := A2.free 7; have d10 : w2.cell? ⟨p, 10, none⟩ = some (.int .u64 v) := A2.cell 10; have df10 := A2.free 10)
    | (go_at_call 33; refine (S.rOfTop _ hz.1 hz.2 _).mono ?_; rintro e' wa ⟨rfl, hwa⟩; have hba : Below w.heap.size w wa := (by rw [hwa]; go_grown); clear hwa; have Aa := A.below hba; have ga := Went.of_below hba L p; have a0 : wa.cell? ⟨p, 0, none⟩ = some (.int .i64 q.t) := Aa.cell 0; have af0 := Aa.free 0; have a1 : wa.cell? ⟨p, 1, none⟩ = some (.int .i64 q.b) := Aa.cell 1; have af1 := Aa.free 1; have a2 : wa.cell? ⟨p, 2, none⟩ = some (.int .i64 q.tb) := Aa.cell 2; have af2 := Aa.free 2; have a3 : wa.cell? ⟨p, 3, none⟩ = some (.int .i64 q.hp) := Aa.cell 3; have af3 := Aa.free 3; have a4 : wa.cell? ⟨p, 4, none⟩ = some (.int .i64 q.sz) := Aa.cell 4; have af4 := Aa.free 4; have a5 : wa.cell? ⟨p, 5, none⟩ = some (.int .i64 c) := Aa.cell 5; have af5 := Aa.free 5; have a6 : wa.cell? ⟨p, 6, none⟩ = some (.int .i64 e) := Aa.cell 6; have af6 := Aa.free 6; have a7 : wa.cell? ⟨p, 7, none⟩ = some (.int .i64 2) := Aa.cell 7; have af7 := Aa.free 7; have a8 : wa.cell? ⟨p, 8, none⟩ = some (.int .i64 K) := Aa.cell 8; have af8 := Aa.free 8; have a9 : wa.cell? ⟨p, 9, none⟩ = some (.int .u64 z) := Aa.cell 9; have af9 := Aa.free 9; have a10 : wa.cell? ⟨p, 10, none⟩ = some (.int .u64 v) := Aa.cell 10; have af10 := Aa.free 10)
    | (go_at_call 113; refine (P.rCells c _).mono ?_; rintro e' wx ⟨rfl, hwx⟩; rw [hwx]; clear hwx wx))
  go_ret
  exact ⟨rfl, L2, (A2.set 10 _).set 7 (.int .i64 3), (g2.trans (Went.set _ _ _ _ _)).trans (Went.set _ _ _ _ _)⟩
set_option maxHeartbeats 2000000 in
theorem rT3t (A : At 80 w L s p 180 #[.int .i64 q.t, .int .i64 q.b, .int .i64 q.tb, .int .i64 q.hp, .int .i64 q.sz, .int .i64 c, .int .i64 e, .int .i64 3, .int .i64 K, .int .u64 z, .int .u64 v, xp, .int .i64 0]) (hq : q.Ok) (c0 : 0 ≤ c) (c2 : c ≤ 2) (e0 : 0 ≤ e) (e1 : e ≤ 1) (f : s.Fit) (hc : s.c < 1000000) (r : s.Rng) (hz : U64 z) (hv : U64 v) (hok : s.ok1 2 z = true) :
    Calls Tryd.prog 108 #[.pointer (some ⟨p, 0, none⟩), .pointer (some ⟨L.b, 0, none⟩)] w fun e' w' => e' = .returned (.bool false) ∧
      ∃ L', At 80 w' L' (s.cas 2 z (nx z (b3 v))) p 180 #[.int .i64 q.t, .int .i64 q.b, .int .i64 q.tb, .int .i64 q.hp, .int .i64 q.sz, .int .i64 c, .int .i64 e, .int .i64 4, .int .i64 K, .int .u64 z, .int .u64 v, xp, .int .i64 0] ∧ Went w L p w' L' := by
  have tb0 := (t0_bounds z).1
  have tb1 := (t0_bounds z).2
  have f0 := ftop0 (t0 z) (t1 z)
  have cb0 := (cs_bounds c0 c2).1
  have cb1 := (cs_bounds c0 c2).2
  have f3 := fblock3 (b0 v) (b1 v) (b2 v) (b3 v)
  have c9 : w.cell? ⟨p, 9, none⟩ = some (.int .u64 z) := A.cell 9
  have cf9 := A.free 9
  have c5 : w.cell? ⟨p, 5, none⟩ = some (.int .i64 c) := A.cell 5
  have cf5 := A.free 5
  have c7 : w.cell? ⟨p, 7, none⟩ = some (.int .i64 3) := A.cell 7
  have cf7 := A.free 7
  go_enter Tryd.func108, Tryd.ntmps108
  go_wp2_with (first
    | (go_at_call 33; refine (S.rOfTop _ hz.1 hz.2 _).mono ?_; rintro e' wa ⟨rfl, hwa⟩; have hba : Below w.heap.size w wa := (by rw [hwa]; go_grown); clear hwa; have Aa := A.below hba; have ga := Went.of_below hba L p; have a0 : wa.cell? ⟨p, 0, none⟩ = some (.int .i64 q.t) := Aa.cell 0; have af0 := Aa.free 0; have a1 : wa.cell? ⟨p, 1, none⟩ = some (.int .i64 q.b) := Aa.cell 1; have af1 := Aa.free 1; have a2 : wa.cell? ⟨p, 2, none⟩ = some (.int .i64 q.tb) := Aa.cell 2; have af2 := Aa.free 2; have a3 : wa.cell? ⟨p, 3, none⟩ = some (.int .i64 q.hp) := Aa.cell 3; have af3 := Aa.free 3; have a4 : wa.cell? ⟨p, 4, none⟩ = some (.int .i64 q.sz) := Aa.cell 4; have af4 := Aa.free 4; have a5 : wa.cell? ⟨p, 5, none⟩ = some (.int .i64 c) := Aa.cell 5; have af5 := Aa.free 5; have a6 : wa.cell? ⟨p, 6, none⟩ = some (.int .i64 e) := Aa.cell 6; have af6 := Aa.free 6; have a7 : wa.cell? ⟨p, 7, none⟩ = some (.int .i64 3) := Aa.cell 7; have af7 := Aa.free 7; have a8 : wa.cell? ⟨p, 8, none⟩ = some (.int .i64 K) := Aa.cell 8; have af8 := Aa.free 8; have a9 : wa.cell? ⟨p, 9, none⟩ = some (.int .u64 z) := Aa.cell 9; have af9 := Aa.free 9; have a10 : wa.cell? ⟨p, 10, none⟩ = some (.int .u64 v) := Aa.cell 10; have af10 := Aa.free 10)
    | (go_at_call 113; refine (P.rCells c _).mono ?_; rintro e' wx ⟨rfl, hwx⟩; rw [hwx]; clear hwx wx))
  have keep : ∀ w', Below wa.heap.size wa w' → w'.cell? ⟨p, 9, none⟩ = some (.int .u64 z) ∧ w'.cell? ⟨p, 10, none⟩ = some (.int .u64 v) := fun w' h => ⟨(Aa.below h).cell 9, (Aa.below h).cell 10⟩
  have hbd : Below wa.heap.size wa wa.drew := (Below.refl wa.heap.size wa).drew
  have RD := keep _ hbd
  go_region_held3 (fun w' => w'.cell? ⟨p, 9, none⟩ = some (.int .u64 z) ∧ w'.cell? ⟨p, 10, none⟩ = some (.int .u64 v)) (first | assumption | exact RD | exact keep _ (by assumption))
    (first
      | (go_at_call 114; refine (S.rOfBlock _ hv.1 hv.2 _).mono ?_; rintro e' w1 ⟨rfl, hw1⟩; have hb1' : Below wa.heap.size wa w1 := hw1 ▸ bel_trans hbd ((Below.refl _ _).alloc (Nat.le_refl _) _); clear hw1)
      | (go_at_call 87; refine (S.hNext z (b3 v) hz.1 hz.2 _).mono ?_; rintro e' w2 ⟨rfl, hb2⟩; have hb2' := bel_trans hb1' hb2)
      | (go_at_call 86; refine (rCAS (Aa.below hb2').mem f hc 2 z (nx z (b3 v))).mono ?_; rintro e' w3 ⟨rfl, L3, hm3, st3⟩; rw [hok]; have A3 := (Aa.below hb2').step hm3 st3; have S3 : w3.cell? ⟨p, 9, none⟩ = some (.int .u64 z) ∧ w3.cell? ⟨p, 10, none⟩ = some (.int .u64 v) := ⟨A3.cell 9, A3.cell 10⟩; have g3 := (ga.trans (Went.of_below hb2' L p)).trans (Went.of_step st3 p); have d7 : w3.cell? ⟨p, 7, none⟩ = some (.int .i64 3) := A3.cell 7; have df7 := A3.free 7))
  go_wp2
  go_ret
  exact ⟨rfl, L3, (A3.set 7 (.int .i64 1)).set 7 (.int .i64 4), (g3.trans (Went.set _ _ _ _ _)).trans (Went.set _ _ _ _ _)⟩
set_option maxHeartbeats 2000000 in
theorem rT3f (A : At 80 w L s p 180 #[.int .i64 q.t, .int .i64 q.b, .int .i64 q.tb, .int .i64 q.hp, .int .i64 q.sz, .int .i64 c, .int .i64 e, .int .i64 3, .int .i64 K, .int .u64 z, .int .u64 v, xp, .int .i64 0]) (hq : q.Ok) (c0 : 0 ≤ c) (c2 : c ≤ 2) (e0 : 0 ≤ e) (e1 : e ≤ 1) (f : s.Fit) (hc : s.c < 1000000) (r : s.Rng) (hz : U64 z) (hv : U64 v) (hok : s.ok1 2 z = false) :
    Calls Tryd.prog 108 #[.pointer (some ⟨p, 0, none⟩), .pointer (some ⟨L.b, 0, none⟩)] w fun e' w' => e' = .returned (.bool false) ∧
      ∃ L', At 80 w' L' (s.cas 2 z (nx z (b3 v))) p 180 #[.int .i64 q.t, .int .i64 q.b, .int .i64 q.tb, .int .i64 q.hp, .int .i64 q.sz, .int .i64 c, .int .i64 e, .int .i64 1, .int .i64 K, .int .u64 z, .int .u64 v, xp, .int .i64 0] ∧ Went w L p w' L' := by
  have tb0 := (t0_bounds z).1
  have tb1 := (t0_bounds z).2
  have f0 := ftop0 (t0 z) (t1 z)
  have cb0 := (cs_bounds c0 c2).1
  have cb1 := (cs_bounds c0 c2).2
  have f3 := fblock3 (b0 v) (b1 v) (b2 v) (b3 v)
  have c9 : w.cell? ⟨p, 9, none⟩ = some (.int .u64 z) := A.cell 9
  have cf9 := A.free 9
  have c5 : w.cell? ⟨p, 5, none⟩ = some (.int .i64 c) := A.cell 5
  have cf5 := A.free 5
  have c7 : w.cell? ⟨p, 7, none⟩ = some (.int .i64 3) := A.cell 7
  have cf7 := A.free 7
  go_enter Tryd.func108, Tryd.ntmps108
  go_wp2_with (first
    | (go_at_call 33; refine (S.rOfTop _ hz.1 hz.2 _).mono ?_; rintro e' wa ⟨rfl, hwa⟩; have hba : Below w.heap.size w wa := (by rw [hwa]; go_grown); clear hwa; have Aa := A.below hba; have ga := Went.of_below hba L p; have a0 : wa.cell? ⟨p, 0, none⟩ = some (.int .i64 q.t) := Aa.cell 0; have af0 := Aa.free 0; have a1 : wa.cell? ⟨p, 1, none⟩ = some (.int .i64 q.b) := Aa.cell 1; have af1 := Aa.free 1; have a2 : wa.cell? ⟨p, 2, none⟩ = some (.int .i64 q.tb) := Aa.cell 2; have af2 := Aa.free 2; have a3 : wa.cell? ⟨p, 3, none⟩ = some (.int .i64 q.hp) := Aa.cell 3; have af3 := Aa.free 3; have a4 : wa.cell? ⟨p, 4, none⟩ = some (.int .i64 q.sz) := Aa.cell 4; have af4 := Aa.free 4; have a5 : wa.cell? ⟨p, 5, none⟩ = some (.int .i64 c) := Aa.cell 5; have af5 := Aa.free 5; have a6 : wa.cell? ⟨p, 6, none⟩ = some (.int .i64 e) := Aa.cell 6; have af6 := Aa.free 6; have a7 : wa.cell? ⟨p, 7, none⟩ = some (.int .i64 3) := Aa.cell 7; have af7 := Aa.free 7; have a8 : wa.cell? ⟨p, 8, none⟩ = some (.int .i64 K) := Aa.cell 8; have af8 := Aa.free 8; have a9 : wa.cell? ⟨p, 9, none⟩ = some (.int .u64 z) := Aa.cell 9; have af9 := Aa.free 9; have a10 : wa.cell? ⟨p, 10, none⟩ = some (.int .u64 v) := Aa.cell 10; have af10 := Aa.free 10)
    | (go_at_call 113; refine (P.rCells c _).mono ?_; rintro e' wx ⟨rfl, hwx⟩; rw [hwx]; clear hwx wx))
  have keep : ∀ w', Below wa.heap.size wa w' → w'.cell? ⟨p, 9, none⟩ = some (.int .u64 z) ∧ w'.cell? ⟨p, 10, none⟩ = some (.int .u64 v) := fun w' h => ⟨(Aa.below h).cell 9, (Aa.below h).cell 10⟩
  have hbd : Below wa.heap.size wa wa.drew := (Below.refl wa.heap.size wa).drew
  have RD := keep _ hbd
  go_region_held3 (fun w' => w'.cell? ⟨p, 9, none⟩ = some (.int .u64 z) ∧ w'.cell? ⟨p, 10, none⟩ = some (.int .u64 v)) (first | assumption | exact RD | exact keep _ (by assumption))
    (first
      | (go_at_call 114; refine (S.rOfBlock _ hv.1 hv.2 _).mono ?_; rintro e' w1 ⟨rfl, hw1⟩; have hb1' : Below wa.heap.size wa w1 := hw1 ▸ bel_trans hbd ((Below.refl _ _).alloc (Nat.le_refl _) _); clear hw1)
      | (go_at_call 87; refine (S.hNext z (b3 v) hz.1 hz.2 _).mono ?_; rintro e' w2 ⟨rfl, hb2⟩; have hb2' := bel_trans hb1' hb2)
      | (go_at_call 86; refine (rCAS (Aa.below hb2').mem f hc 2 z (nx z (b3 v))).mono ?_; rintro e' w3 ⟨rfl, L3, hm3, st3⟩; rw [hok]; have A3 := (Aa.below hb2').step hm3 st3; have S3 : w3.cell? ⟨p, 9, none⟩ = some (.int .u64 z) ∧ w3.cell? ⟨p, 10, none⟩ = some (.int .u64 v) := ⟨A3.cell 9, A3.cell 10⟩; have g3 := (ga.trans (Went.of_below hb2' L p)).trans (Went.of_step st3 p); have d7 : w3.cell? ⟨p, 7, none⟩ = some (.int .i64 3) := A3.cell 7; have df7 := A3.free 7))
  go_wp2
  go_ret
  exact ⟨rfl, L3, A3.set 7 (.int .i64 1), g3.trans (Went.set _ _ _ _ _)⟩
set_option maxHeartbeats 2000000 in
theorem rT4 (A : At 80 w L s p 180 #[.int .i64 q.t, .int .i64 q.b, .int .i64 q.tb, .int .i64 q.hp, .int .i64 q.sz, .int .i64 c, .int .i64 e, .int .i64 4, .int .i64 K, .int .u64 z, .int .u64 v, xp, .int .i64 0]) (hq : q.Ok) (c0 : 0 ≤ c) (c2 : c ≤ 2) (e0 : 0 ≤ e) (e1 : e ≤ 1) (f : s.Fit) (hc : s.c < 1000000) (r : s.Rng) (hz : U64 z) (hv : U64 v) :
    Calls Tryd.prog 108 #[.pointer (some ⟨p, 0, none⟩), .pointer (some ⟨L.b, 0, none⟩)] w fun e' w' => e' = .returned (.bool false) ∧
      ∃ L', At 80 w' L' (s.store (q.tb + (t0 z - 1)) (bw 1 c e 0)) p 180 #[.int .i64 q.t, .int .i64 q.b, .int .i64 q.tb, .int .i64 q.hp, .int .i64 q.sz, .int .i64 c, .int .i64 e, .int .i64 5, .int .i64 1, .int .u64 z, .int .u64 v, xp, .int .i64 0] ∧ Went w L p w' L' := by
  have tb0 := (t0_bounds z).1
  have tb1 := (t0_bounds z).2
  have f0 := ftop0 (t0 z) (t1 z)
  have cb0 := (cs_bounds c0 c2).1
  have cb1 := (cs_bounds c0 c2).2
  have c9 : w.cell? ⟨p, 9, none⟩ = some (.int .u64 z) := A.cell 9
  have cf9 := A.free 9
  have c5 : w.cell? ⟨p, 5, none⟩ = some (.int .i64 c) := A.cell 5
  have cf5 := A.free 5
  have c7 : w.cell? ⟨p, 7, none⟩ = some (.int .i64 4) := A.cell 7
  have cf7 := A.free 7
  go_enter Tryd.func108, Tryd.ntmps108
  go_wp2_with (first
    | (go_at_call 33; refine (S.rOfTop _ hz.1 hz.2 _).mono ?_; rintro e' wa ⟨rfl, hwa⟩; have hba : Below w.heap.size w wa := (by rw [hwa]; go_grown); clear hwa; have Aa := A.below hba; have ga := Went.of_below hba L p; have a0 : wa.cell? ⟨p, 0, none⟩ = some (.int .i64 q.t) := Aa.cell 0; have af0 := Aa.free 0; have a1 : wa.cell? ⟨p, 1, none⟩ = some (.int .i64 q.b) := Aa.cell 1; have af1 := Aa.free 1; have a2 : wa.cell? ⟨p, 2, none⟩ = some (.int .i64 q.tb) := Aa.cell 2; have af2 := Aa.free 2; have a3 : wa.cell? ⟨p, 3, none⟩ = some (.int .i64 q.hp) := Aa.cell 3; have af3 := Aa.free 3; have a4 : wa.cell? ⟨p, 4, none⟩ = some (.int .i64 q.sz) := Aa.cell 4; have af4 := Aa.free 4; have a5 : wa.cell? ⟨p, 5, none⟩ = some (.int .i64 c) := Aa.cell 5; have af5 := Aa.free 5; have a6 : wa.cell? ⟨p, 6, none⟩ = some (.int .i64 e) := Aa.cell 6; have af6 := Aa.free 6; have a7 : wa.cell? ⟨p, 7, none⟩ = some (.int .i64 4) := Aa.cell 7; have af7 := Aa.free 7; have a8 : wa.cell? ⟨p, 8, none⟩ = some (.int .i64 K) := Aa.cell 8; have af8 := Aa.free 8; have a9 : wa.cell? ⟨p, 9, none⟩ = some (.int .u64 z) := Aa.cell 9; have af9 := Aa.free 9; have a10 : wa.cell? ⟨p, 10, none⟩ = some (.int .u64 v) := Aa.cell 10; have af10 := Aa.free 10)
    | (go_at_call 113; refine (P.rCells c _).mono ?_; rintro e' wx ⟨rfl, hwx⟩; rw [hwx]; clear hwx wx))
  have keep : ∀ w', Below wa.heap.size wa w' → w'.cell? ⟨p, 0, none⟩ = some (.int .i64 q.t) ∧ w'.cell? ⟨p, 1, none⟩ = some (.int .i64 q.b) ∧ w'.cell? ⟨p, 2, none⟩ = some (.int .i64 q.tb) ∧ w'.cell? ⟨p, 3, none⟩ = some (.int .i64 q.hp) ∧ w'.cell? ⟨p, 4, none⟩ = some (.int .i64 q.sz) ∧ w'.cell? ⟨p, 5, none⟩ = some (.int .i64 c) ∧ w'.cell? ⟨p, 6, none⟩ = some (.int .i64 e) := fun w' h => ⟨(Aa.below h).cell 0, (Aa.below h).cell 1, (Aa.below h).cell 2, (Aa.below h).cell 3, (Aa.below h).cell 4, (Aa.below h).cell 5, (Aa.below h).cell 6⟩
  have hbd : Below wa.heap.size wa wa.drew := (Below.refl wa.heap.size wa).drew
  have RD := keep _ hbd
  go_region_held3 (fun w' => w'.cell? ⟨p, 0, none⟩ = some (.int .i64 q.t) ∧ w'.cell? ⟨p, 1, none⟩ = some (.int .i64 q.b) ∧ w'.cell? ⟨p, 2, none⟩ = some (.int .i64 q.tb) ∧ w'.cell? ⟨p, 3, none⟩ = some (.int .i64 q.hp) ∧ w'.cell? ⟨p, 4, none⟩ = some (.int .i64 q.sz) ∧ w'.cell? ⟨p, 5, none⟩ = some (.int .i64 c) ∧ w'.cell? ⟨p, 6, none⟩ = some (.int .i64 e)) (first | assumption | exact RD | exact keep _ (by assumption))
    (first
      | (go_at_call 91; refine (kREntry hq (by omega) (by omega) _).mono ?_; rintro e' w1 ⟨rfl, hb1⟩; have hb1' := bel_trans hbd hb1)
      | (go_at_call 90; refine (S.hBlock 1 c e 0 _).mono ?_; rintro e' w2 ⟨rfl, hb2⟩; have hb2' := bel_trans hb1' hb2)
      | (go_at_call 39; refine (rStore (Aa.below hb2').mem f hc _ _).mono ?_; rintro e' w3 ⟨rfl, L3, hm3, st3⟩; have A3 := (Aa.below hb2').step hm3 st3; have S3 : w3.cell? ⟨p, 0, none⟩ = some (.int .i64 q.t) ∧ w3.cell? ⟨p, 1, none⟩ = some (.int .i64 q.b) ∧ w3.cell? ⟨p, 2, none⟩ = some (.int .i64 q.tb) ∧ w3.cell? ⟨p, 3, none⟩ = some (.int .i64 q.hp) ∧ w3.cell? ⟨p, 4, none⟩ = some (.int .i64 q.sz) ∧ w3.cell? ⟨p, 5, none⟩ = some (.int .i64 c) ∧ w3.cell? ⟨p, 6, none⟩ = some (.int .i64 e) := ⟨A3.cell 0, A3.cell 1, A3.cell 2, A3.cell 3, A3.cell 4, A3.cell 5, A3.cell 6⟩; have g3 := (ga.trans (Went.of_below hb2' L p)).trans (Went.of_step st3 p); have d7 : w3.cell? ⟨p, 7, none⟩ = some (.int .i64 4) := A3.cell 7; have df7 := A3.free 7; have d8 : w3.cell? ⟨p, 8, none⟩ = some (.int .i64 K) := A3.cell 8; have df8 := A3.free 8))
  go_wp2
  go_ret
  exact ⟨rfl, L3, (A3.set 8 (.int .i64 1)).set 7 (.int .i64 5), (g3.trans (Went.set _ _ _ _ _)).trans (Went.set _ _ _ _ _)⟩
set_option maxHeartbeats 2000000 in
theorem rT5m (A : At 80 w L s p 180 #[.int .i64 q.t, .int .i64 q.b, .int .i64 q.tb, .int .i64 q.hp, .int .i64 q.sz, .int .i64 c, .int .i64 e, .int .i64 5, .int .i64 K, .int .u64 z, .int .u64 v, xp, .int .i64 0]) (hq : q.Ok) (c0 : 0 ≤ c) (c2 : c ≤ 2) (e0 : 0 ≤ e) (e1 : e ≤ 1) (f : s.Fit) (hc : s.c < 1000000) (r : s.Rng) (hz : U64 z) (hv : U64 v) (k0 : 1 ≤ K) (hk : K + 1 < P.Plain.cs c) :
    Calls Tryd.prog 108 #[.pointer (some ⟨p, 0, none⟩), .pointer (some ⟨L.b, 0, none⟩)] w fun e' w' => e' = .returned (.bool false) ∧
      ∃ L', At 80 w' L' (s.store (q.cell (t0 z - 1) c K) (hw 0 c 0 0 0 0 (q.cell (t0 z - 1) c (K + 1)))) p 180 #[.int .i64 q.t, .int .i64 q.b, .int .i64 q.tb, .int .i64 q.hp, .int .i64 q.sz, .int .i64 c, .int .i64 e, .int .i64 5, .int .i64 (K + 1), .int .u64 z, .int .u64 v, xp, .int .i64 0] ∧ Went w L p w' L' := by
  have tb0 := (t0_bounds z).1
  have tb1 := (t0_bounds z).2
  have f0 := ftop0 (t0 z) (t1 z)
  have cb0 := (cs_bounds c0 c2).1
  have cb1 := (cs_bounds c0 c2).2
  have wl : IntKind.i64.wrap (P.Plain.cs c - 1) = P.Plain.cs c - 1 := wrap_small _ (by omega) (by omega)
  have wk : IntKind.i64.wrap (K + 1) = K + 1 := wrap_small _ (by omega) (by omega)
  have hd : decide (K < P.Plain.cs c - 1) = true := decide_eq_true (by omega)
  have hd2 : decide (P.Plain.cs c - 1 < K + 1) = false := decide_eq_false (by omega)
  have c9 : w.cell? ⟨p, 9, none⟩ = some (.int .u64 z) := A.cell 9
  have cf9 := A.free 9
  have c5 : w.cell? ⟨p, 5, none⟩ = some (.int .i64 c) := A.cell 5
  have cf5 := A.free 5
  have c7 : w.cell? ⟨p, 7, none⟩ = some (.int .i64 5) := A.cell 7
  have cf7 := A.free 7
  go_enter Tryd.func108, Tryd.ntmps108
  go_wp2_with (first
    | (have hh := Aa; go_at_call 115; refine (rCl Aa.blk hq hz (k := K + 1) (by omega) (by omega)).mono ?_; rintro e' wb ⟨rfl, hbb⟩; have Ab := Aa.below hbb; have gb := ga.trans (Went.of_below hbb L p))
    | (go_at_call 33; refine (S.rOfTop _ hz.1 hz.2 _).mono ?_; rintro e' wa ⟨rfl, hwa⟩; have hba : Below w.heap.size w wa := (by rw [hwa]; go_grown); clear hwa; have Aa := A.below hba; have ga := Went.of_below hba L p; have a0 : wa.cell? ⟨p, 0, none⟩ = some (.int .i64 q.t) := Aa.cell 0; have af0 := Aa.free 0; have a1 : wa.cell? ⟨p, 1, none⟩ = some (.int .i64 q.b) := Aa.cell 1; have af1 := Aa.free 1; have a2 : wa.cell? ⟨p, 2, none⟩ = some (.int .i64 q.tb) := Aa.cell 2; have af2 := Aa.free 2; have a3 : wa.cell? ⟨p, 3, none⟩ = some (.int .i64 q.hp) := Aa.cell 3; have af3 := Aa.free 3; have a4 : wa.cell? ⟨p, 4, none⟩ = some (.int .i64 q.sz) := Aa.cell 4; have af4 := Aa.free 4; have a5 : wa.cell? ⟨p, 5, none⟩ = some (.int .i64 c) := Aa.cell 5; have af5 := Aa.free 5; have a6 : wa.cell? ⟨p, 6, none⟩ = some (.int .i64 e) := Aa.cell 6; have af6 := Aa.free 6; have a7 : wa.cell? ⟨p, 7, none⟩ = some (.int .i64 5) := Aa.cell 7; have af7 := Aa.free 7; have a8 : wa.cell? ⟨p, 8, none⟩ = some (.int .i64 K) := Aa.cell 8; have af8 := Aa.free 8; have a9 : wa.cell? ⟨p, 9, none⟩ = some (.int .u64 z) := Aa.cell 9; have af9 := Aa.free 9; have a10 : wa.cell? ⟨p, 10, none⟩ = some (.int .u64 v) := Aa.cell 10; have af10 := Aa.free 10)
    | (go_at_call 113; refine (P.rCells c _).mono ?_; rintro e' wx ⟨rfl, hwx⟩; rw [hwx]; clear hwx wx))
  have keep : ∀ w', Below wb.heap.size wb w' → w'.cell? ⟨p, 5, none⟩ = some (.int .i64 c) ∧ w'.cell? ⟨p, 8, none⟩ = some (.int .i64 K) := fun w' h => ⟨(Ab.below h).cell 5, (Ab.below h).cell 8⟩
  have hbd : Below wb.heap.size wb wb.drew := (Below.refl wb.heap.size wb).drew
  have RD := keep _ hbd
  go_region_held3 (fun w' => w'.cell? ⟨p, 5, none⟩ = some (.int .i64 c) ∧ w'.cell? ⟨p, 8, none⟩ = some (.int .i64 K)) (first | assumption | exact RD | exact keep _ (by assumption))
    (first
      | (go_at_call 115; refine (rCl (Ab.below hbd).blk hq hz (k := K) (by omega) (by omega)).mono ?_; rintro e' w1 ⟨rfl, hb1⟩; have hb1' := bel_trans hbd hb1)
      | (go_at_call 38; refine (H.rWord 0 c 0 0 0 0 (q.cell (t0 z - 1) c (K + 1)) _).mono ?_; rintro e' w2 ⟨rfl, hw2⟩; have hb2' : Below wb.heap.size wb w2 := hw2 ▸ bel_trans hb1' ((Below.refl _ _).alloc (Nat.le_refl _) _); clear hw2)
      | (go_at_call 39; refine (rStore (Ab.below hb2').mem f hc _ _).mono ?_; rintro e' w3 ⟨rfl, L3, hm3, st3⟩; have A3 := (Ab.below hb2').step hm3 st3; have S3 : w3.cell? ⟨p, 5, none⟩ = some (.int .i64 c) ∧ w3.cell? ⟨p, 8, none⟩ = some (.int .i64 K) := ⟨A3.cell 5, A3.cell 8⟩; have g3 := (gb.trans (Went.of_below hb2' L p)).trans (Went.of_step st3 p); have d7 : w3.cell? ⟨p, 7, none⟩ = some (.int .i64 5) := A3.cell 7; have df7 := A3.free 7; have d8 : w3.cell? ⟨p, 8, none⟩ = some (.int .i64 K) := A3.cell 8; have df8 := A3.free 8; have A4 := A3.set 8 (.int .i64 (K + 1)); have g4 := g3.trans (Went.set _ _ p 8 (.int .i64 (K + 1)))))
  go_wp2
  go_ret
  exact ⟨rfl, L3, A4, g4⟩
set_option maxHeartbeats 2000000 in
theorem rT5l (A : At 80 w L s p 180 #[.int .i64 q.t, .int .i64 q.b, .int .i64 q.tb, .int .i64 q.hp, .int .i64 q.sz, .int .i64 c, .int .i64 e, .int .i64 5, .int .i64 K, .int .u64 z, .int .u64 v, xp, .int .i64 0]) (hq : q.Ok) (c0 : 0 ≤ c) (c2 : c ≤ 2) (e0 : 0 ≤ e) (e1 : e ≤ 1) (f : s.Fit) (hc : s.c < 1000000) (r : s.Rng) (hz : U64 z) (hv : U64 v) (k0 : 1 ≤ K) (hk : K + 1 ≤ P.Plain.cs c) (hk' : P.Plain.cs c ≤ K + 1) (hxp : xp = .pointer none) :
    Calls Tryd.prog 108 #[.pointer (some ⟨p, 0, none⟩), .pointer (some ⟨L.b, 0, none⟩)] w fun e' w' => e' = .returned (.bool false) ∧
      ∃ L' y, At 80 w' L' (s.store (q.cell (t0 z - 1) c K) (hw 0 c 0 0 0 0 0)) p 180 #[.int .i64 q.t, .int .i64 q.b, .int .i64 q.tb, .int .i64 q.hp, .int .i64 q.sz, .int .i64 c, .int .i64 e, .int .i64 6, .int .i64 (K + 1), .int .u64 z, .int .u64 v, .pointer (some ⟨y, 0, none⟩), .int .i64 0] ∧ Went w L p w' L' ∧ w.heap.size ≤ y ∧ w'.heap[y]? = some (.cells (PushS.new (3 + 3 * e + c) (q.cell (t0 z - 1) c 1) (q.cell (t0 z - 1) c K) c).rcells 187 (0, 0)) := by
  have tb0 := (t0_bounds z).1
  have tb1 := (t0_bounds z).2
  have f0 := ftop0 (t0 z) (t1 z)
  have cb0 := (cs_bounds c0 c2).1
  have cb1 := (cs_bounds c0 c2).2
  subst hxp
  have wl : IntKind.i64.wrap (P.Plain.cs c - 1) = P.Plain.cs c - 1 := wrap_small _ (by omega) (by omega)
  have wk : IntKind.i64.wrap (K + 1) = K + 1 := wrap_small _ (by omega) (by omega)
  have hd : decide (K < P.Plain.cs c - 1) = false := decide_eq_false (by omega)
  have hd2 : decide (P.Plain.cs c - 1 < K + 1) = true := decide_eq_true (by omega)
  have c9 : w.cell? ⟨p, 9, none⟩ = some (.int .u64 z) := A.cell 9
  have cf9 := A.free 9
  have c5 : w.cell? ⟨p, 5, none⟩ = some (.int .i64 c) := A.cell 5
  have cf5 := A.free 5
  have c7 : w.cell? ⟨p, 7, none⟩ = some (.int .i64 5) := A.cell 7
  have cf7 := A.free 7
  go_enter Tryd.func108, Tryd.ntmps108
  go_wp2_with (first
    | (go_at_call 33; refine (S.rOfTop _ hz.1 hz.2 _).mono ?_; rintro e' wa ⟨rfl, hwa⟩; have hba : Below w.heap.size w wa := (by rw [hwa]; go_grown); clear hwa; have Aa := A.below hba; have ga := Went.of_below hba L p; have a0 : wa.cell? ⟨p, 0, none⟩ = some (.int .i64 q.t) := Aa.cell 0; have af0 := Aa.free 0; have a1 : wa.cell? ⟨p, 1, none⟩ = some (.int .i64 q.b) := Aa.cell 1; have af1 := Aa.free 1; have a2 : wa.cell? ⟨p, 2, none⟩ = some (.int .i64 q.tb) := Aa.cell 2; have af2 := Aa.free 2; have a3 : wa.cell? ⟨p, 3, none⟩ = some (.int .i64 q.hp) := Aa.cell 3; have af3 := Aa.free 3; have a4 : wa.cell? ⟨p, 4, none⟩ = some (.int .i64 q.sz) := Aa.cell 4; have af4 := Aa.free 4; have a5 : wa.cell? ⟨p, 5, none⟩ = some (.int .i64 c) := Aa.cell 5; have af5 := Aa.free 5; have a6 : wa.cell? ⟨p, 6, none⟩ = some (.int .i64 e) := Aa.cell 6; have af6 := Aa.free 6; have a7 : wa.cell? ⟨p, 7, none⟩ = some (.int .i64 5) := Aa.cell 7; have af7 := Aa.free 7; have a8 : wa.cell? ⟨p, 8, none⟩ = some (.int .i64 K) := Aa.cell 8; have af8 := Aa.free 8; have a9 : wa.cell? ⟨p, 9, none⟩ = some (.int .u64 z) := Aa.cell 9; have af9 := Aa.free 9; have a10 : wa.cell? ⟨p, 10, none⟩ = some (.int .u64 v) := Aa.cell 10; have af10 := Aa.free 10)
    | (go_at_call 113; refine (P.rCells c _).mono ?_; rintro e' wx ⟨rfl, hwx⟩; rw [hwx]; clear hwx wx))
  obtain ⟨wb, hwb⟩ : ∃ wb, wa = wb := ⟨_, rfl⟩
  have hbb : Below wa.heap.size wa wb := hwb ▸ Below.refl _ _
  have Ab := Aa.below hbb
  have gb := ga.trans (Went.of_below hbb L p)
  rw [hwb]
  clear hwb
  have keep : ∀ w', Below wb.heap.size wb w' → w'.cell? ⟨p, 5, none⟩ = some (.int .i64 c) ∧ w'.cell? ⟨p, 8, none⟩ = some (.int .i64 K) := fun w' h => ⟨(Ab.below h).cell 5, (Ab.below h).cell 8⟩
  have hbd : Below wb.heap.size wb wb.drew := (Below.refl wb.heap.size wb).drew
  have RD := keep _ hbd
  go_region_held3 (fun w' => w'.cell? ⟨p, 5, none⟩ = some (.int .i64 c) ∧ w'.cell? ⟨p, 8, none⟩ = some (.int .i64 K)) (first | assumption | exact RD | exact keep _ (by assumption))
    (first
      | (go_at_call 115; refine (rCl (Ab.below hbd).blk hq hz (k := K) (by omega) (by omega)).mono ?_; rintro e' w1 ⟨rfl, hb1⟩; have hb1' := bel_trans hbd hb1)
      | (go_at_call 38; refine (H.rWord 0 c 0 0 0 0 0 _).mono ?_; rintro e' w2 ⟨rfl, hw2⟩; have hb2' : Below wb.heap.size wb w2 := hw2 ▸ bel_trans hb1' ((Below.refl _ _).alloc (Nat.le_refl _) _); clear hw2)
      | (go_at_call 39; refine (rStore (Ab.below hb2').mem f hc _ _).mono ?_; rintro e' w3 ⟨rfl, L3, hm3, st3⟩; have A3 := (Ab.below hb2').step hm3 st3; have S3 : w3.cell? ⟨p, 5, none⟩ = some (.int .i64 c) ∧ w3.cell? ⟨p, 8, none⟩ = some (.int .i64 K) := ⟨A3.cell 5, A3.cell 8⟩; have g3 := (gb.trans (Went.of_below hb2' L p)).trans (Went.of_step st3 p); have d7 : w3.cell? ⟨p, 7, none⟩ = some (.int .i64 5) := A3.cell 7; have df7 := A3.free 7; have d8 : w3.cell? ⟨p, 8, none⟩ = some (.int .i64 K) := A3.cell 8; have df8 := A3.free 8; have A4 := A3.set 8 (.int .i64 (K + 1)); have g4 := g3.trans (Went.set _ _ p 8 (.int .i64 (K + 1)))))
  go_wp2
  have hsz : w.heap.size ≤ w3.heap.size := g3.kept.size
  change At _ _ _ _ _ _ #[.int .i64 q.t, .int .i64 q.b, .int .i64 q.tb, .int .i64 q.hp, .int .i64 q.sz, .int .i64 c, .int .i64 e, .int .i64 5, .int .i64 (K + 1), .int .u64 z, .int .u64 v, .pointer none, .int .i64 0] at A4
  generalize w3.setCell ⟨p, 8, none⟩ (.int .i64 (K + 1)) = wc at A4 g4 ⊢
  have hK : P.Plain.cs c - 1 = K := by omega
  rw [hK]
  clear hK
  have keep5 : ∀ w', Below wc.heap.size wc w' → w'.cell? ⟨p, 5, none⟩ = some (.int .i64 c) ∧ w'.cell? ⟨p, 6, none⟩ = some (.int .i64 e) := fun w' h => ⟨(A4.below h).cell 5, (A4.below h).cell 6⟩
  have hbd5 : Below wc.heap.size wc wc.drew := (Below.refl wc.heap.size wc).drew
  have RD5 := keep5 _ hbd5
  go_region_held3 (fun w' => w'.cell? ⟨p, 5, none⟩ = some (.int .i64 c) ∧ w'.cell? ⟨p, 6, none⟩ = some (.int .i64 e)) (first | assumption | exact RD5 | exact keep5 _ (by assumption))
    (first
      | (have hh := h7; go_at_call 116; refine (rNewPush _ _ _ _ _).mono ?_; rintro e' w8 ⟨rfl, hw8⟩; have hb8 : Below wc.heap.size wc w8 := hw8 ▸ S.bal h7 _; have k8 : w8.heap[w7.heap.size]? = some (.cells (PushS.new (3 + 3 * e + c) (q.cell (t0 z - 1) c 1) (q.cell (t0 z - 1) c K) c).rcells 187 (0, 0)) := (hw8 ▸ heap_alloc_new _ _); have hy7 := h7.size; obtain ⟨y, hy⟩ : ∃ y, w7.heap.size = y := ⟨_, rfl⟩; rw [hy] at k8 hy7 ⊢; clear hw8 hy; have A8 := A4.below hb8; have g11 : w8.cell? ⟨p, 11, none⟩ = some (.pointer none) := A8.cell 11; have gf11 := A8.free 11; have A9 := A8.set 11 (.pointer (some ⟨y, 0, none⟩)); have S9 : (w8.setCell ⟨p, 11, none⟩ (.pointer (some ⟨y, 0, none⟩))).cell? ⟨p, 5, none⟩ = some (.int .i64 c) ∧ (w8.setCell ⟨p, 11, none⟩ (.pointer (some ⟨y, 0, none⟩))).cell? ⟨p, 6, none⟩ = some (.int .i64 e) := ⟨A9.cell 5, A9.cell 6⟩; have h7 : (w8.setCell ⟨p, 11, none⟩ (.pointer (some ⟨y, 0, none⟩))).cell? ⟨p, 7, none⟩ = some (.int .i64 5) := A9.cell 7; have hf7 := A9.free 7)
      | (have hh := h6; go_at_call 115; refine (rCl (A4.below h6).blk hq hz (k := K) (by omega) (by omega)).mono ?_; rintro e' w7 ⟨rfl, hb7⟩; have h7 := bel_trans h6 hb7)
      | (go_at_call 115; refine (rCl (A4.below hbd5).blk hq hz (k := 1) (by omega) (by omega)).mono ?_; rintro e' w6 ⟨rfl, hb6⟩; have h6 := bel_trans hbd5 hb6)
      | (go_at_call 105; refine (P.rList e c e0 e1 c0 c2 _).mono ?_; rintro e' wx ⟨rfl, hwx⟩; rw [hwx]; clear hwx wx))
  go_wp2
  go_ret
  have g9 := ((g4.trans (Went.of_below hb8 _ p)).trans (Went.set _ _ p 11 (.pointer (some ⟨y, 0, none⟩)))).trans (Went.set _ _ p 7 (.int .i64 6))
  have A10 := A9.set 7 (.int .i64 6)
  have hpy : p ≠ y := by have := lt_of_block A.blk; have := A4.blk; have := lt_of_block this; omega
  refine ⟨rfl, L3, y, A10, g9, by have := g4.kept.size; omega, ?_⟩
  rw [Below.heap_setCell _ _ _ _ (Ne.symm hpy), Below.heap_setCell _ _ _ _ (Ne.symm hpy)]
  exact k8
end
end Go.Proofs.YtoablodmodnamaaDoor
