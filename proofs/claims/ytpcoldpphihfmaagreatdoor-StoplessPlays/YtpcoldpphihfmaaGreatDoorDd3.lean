import Derived.Test.YtpcoldpphihfmaaGreatDoorDd2
namespace Go.Proofs.YtpcoldpphihfmaaGreatDoor
set_option linter.unusedVariables false
set_option maxRecDepth 100000
open Go.ChangeShapes Go.WideShapes Go.RowKit
open H.Plain (hw pS pC pN pM pG pT pL mv)
section
variable {w : World} {L : Loc} {s : St}
set_option maxHeartbeats 400000 in
theorem kShade0 {x : ShadeS} {k : K} {u : Value} (hm : Mm w L s) (ft : s.Fit) (hc : s.c < 1000000) (rr : s.Rng) (W : H.Wid w) (z : 1 ∉ L.fp) {p q : Nat} (bp : Bx w p 180 x.cells) (bq : Bx w q 107 #[u]) (R : Rep w k u) (ok : x.Ok) (hpc : ((x.next s).pc == 0) = true) :
  Calls Tryz.prog 131 #[pt L.b, pt p, pt q] w fun e w' => Ran w L (⟨some k, false, Ou.zero⟩) (x.mem s) e w' := by
 obtain ⟨n, cs, rfl⟩ := R.fn
 have A0 := at0 hm W z
 have bq0 := bq.below ((Below.refl _ w).alloc (Nat.le_refl _) (.cells #[.nilFunc, .bool false, .int .i64 0, .int .i64 0, .int .i64 0, .bool false] 109))
 have R0 := R.below ((Below.refl _ w).alloc (Nat.le_refl _) (.cells #[.nilFunc, .bool false, .int .i64 0, .int .i64 0, .int .i64 0, .bool false] 109))
 obtain ⟨c0, c1, c2, c3, c4, c5, c6, c7, c8, c9, c10, c11⟩ := sh_cells bp.at_
 have lp := bp.lt
 have hsz : (w.alloc (.cells #[.nilFunc, .bool false, .int .i64 0, .int .i64 0, .int .i64 0, .bool false] 109)).heap.size = w.heap.size + 1 := by simp
 have AB : At 132 ((w.alloc (.cells #[.nilFunc, .bool false, .int .i64 0, .int .i64 0, .int .i64 0, .bool false] 109)).alloc (.cells #[.int .i64 x.cell, .int .i64 x.mark, .int .i64 x.pc, .int .u64 x.found, .int .i64 x.h.S, .int .i64 x.h.C, .int .i64 x.h.N, .int .i64 x.h.M, .int .i64 x.h.G, .int .i64 x.h.T, .int .i64 x.h.L, .int .u64 x.list] 180)) L s (w.heap.size + 1) 180 x.cells := ⟨A0.mem.alloc _, newAt hsz, by decide, A0.wid.on ((Below.refl _ _).alloc (Nat.le_refl _) _), A0.zero.1, by omega⟩
 obtain ⟨y, hy⟩ : ∃ y, x.next s = y := ⟨_, rfl⟩
 rw [hy] at hpc
 go_enter Tryz.func131, Tryz.ntmps131
 go_upto_region 2 with (fail)
 clear c0 c1 c2 c3 c4 c5 c6 c7 c8 c9 c10 c11
 go_wp2_with (first
  | (go_at_call 132; refine (cShade AB ok ft hc rr).mono ?_; rintro e w1 ⟨rfl, L1, A', g⟩; rw [hy] at A' ⊢; rw [hpc]; have g' : Went ((w.alloc (.cells #[.nilFunc, .bool false, .int .i64 0, .int .i64 0, .int .i64 0, .bool false] 109)).alloc (.cells #[.int .i64 x.cell, .int .i64 x.mark, .int .i64 x.pc, .int .u64 x.found, .int .i64 x.h.S, .int .i64 x.h.C, .int .i64 x.h.N, .int .i64 x.h.M, .int .i64 x.h.G, .int .i64 x.h.T, .int .i64 x.h.L, .int .u64 x.list] 180)) L (w.alloc (.cells #[.nilFunc, .bool false, .int .i64 0, .int .i64 0, .int .i64 0, .bool false] 109)).heap.size w1 L1 := (by rw [hsz]; exact g); have st := g'.step; have A1 := A0.step A'.mem st; have g1 : Went (w.alloc (.cells #[.nilFunc, .bool false, .int .i64 0, .int .i64 0, .int .i64 0, .bool false] 109)) L w.heap.size w1 L1 := Went.of_step st _; have bq1 := bq0.step A0.mem mmM ft st; have R1 := R0.step A0.mem mmM ft st; have xq0 : w1.cell? ⟨q, 0, none⟩ = some (.func (.func n) #[] cs) := bq1.cell 0; have xlq := bq1.lt; clear g g' st AB; have z0 : w1.cell? ⟨w.heap.size, 0, none⟩ = some (.nilFunc) := A1.cell 0; have zf0 := A1.free 0; have z1 : w1.cell? ⟨w.heap.size, 1, none⟩ = some (.bool false) := A1.cell 1; have zf1 := A1.free 1; have z2 : w1.cell? ⟨w.heap.size, 2, none⟩ = some (.int .i64 0) := A1.cell 2; have zf2 := A1.free 2; have z3 : w1.cell? ⟨w.heap.size, 3, none⟩ = some (.int .i64 0) := A1.cell 3; have zf3 := A1.free 3; have z4 : w1.cell? ⟨w.heap.size, 4, none⟩ = some (.int .i64 0) := A1.cell 4; have zf4 := A1.free 4; have z5 : w1.cell? ⟨w.heap.size, 5, none⟩ = some (.bool false) := A1.cell 5; have zf5 := A1.free 5))
 exact bodyPost_ret (v := .agg #[.func (.func n) #[] cs, .bool false, .int .i64 0, .int .i64 0, .int .i64 0, .bool false]) (by simp [results, Tryz.results131, go_sem, z0, z1, z2, z3, z4, z5]) rfl (ran_end (x := ⟨some k, false, Ou.zero⟩) A1 g1 R1)
set_option maxHeartbeats 400000 in
theorem kShade1 {x : ShadeS} {k : K} {u : Value} (hm : Mm w L s) (ft : s.Fit) (hc : s.c < 1000000) (rr : s.Rng) (W : H.Wid w) (z : 1 ∉ L.fp) {p q : Nat} (bp : Bx w p 180 x.cells) (bq : Bx w q 107 #[u]) (R : Rep w k u) (ok : x.Ok) (hpc : ((x.next s).pc == 0) = false) :
  Calls Tryz.prog 131 #[pt L.b, pt p, pt q] w fun e w' => Ran w L (⟨some (.shade (x.next s) k), false, Ou.zero⟩) (x.mem s) e w' := by
 obtain ⟨n, cs, rfl⟩ := R.fn
 have A0 := at0 hm W z
 have bq0 := bq.below ((Below.refl _ w).alloc (Nat.le_refl _) (.cells #[.nilFunc, .bool false, .int .i64 0, .int .i64 0, .int .i64 0, .bool false] 109))
 have R0 := R.below ((Below.refl _ w).alloc (Nat.le_refl _) (.cells #[.nilFunc, .bool false, .int .i64 0, .int .i64 0, .int .i64 0, .bool false] 109))
 obtain ⟨c0, c1, c2, c3, c4, c5, c6, c7, c8, c9, c10, c11⟩ := sh_cells bp.at_
 have lp := bp.lt
 have hsz : (w.alloc (.cells #[.nilFunc, .bool false, .int .i64 0, .int .i64 0, .int .i64 0, .bool false] 109)).heap.size = w.heap.size + 1 := by simp
 have AB : At 132 ((w.alloc (.cells #[.nilFunc, .bool false, .int .i64 0, .int .i64 0, .int .i64 0, .bool false] 109)).alloc (.cells #[.int .i64 x.cell, .int .i64 x.mark, .int .i64 x.pc, .int .u64 x.found, .int .i64 x.h.S, .int .i64 x.h.C, .int .i64 x.h.N, .int .i64 x.h.M, .int .i64 x.h.G, .int .i64 x.h.T, .int .i64 x.h.L, .int .u64 x.list] 180)) L s (w.heap.size + 1) 180 x.cells := ⟨A0.mem.alloc _, newAt hsz, by decide, A0.wid.on ((Below.refl _ _).alloc (Nat.le_refl _) _), A0.zero.1, by omega⟩
 obtain ⟨y, hy⟩ : ∃ y, x.next s = y := ⟨_, rfl⟩
 rw [hy] at hpc
 rw [hy]
 go_enter Tryz.func131, Tryz.ntmps131
 go_upto_region 2 with (fail)
 clear c0 c1 c2 c3 c4 c5 c6 c7 c8 c9 c10 c11
 go_wp2_with (first
  | (go_at_call 132; refine (cShade AB ok ft hc rr).mono ?_; rintro e w1 ⟨rfl, L1, A', g⟩; rw [hy] at A' ⊢; rw [hpc]; have g' : Went ((w.alloc (.cells #[.nilFunc, .bool false, .int .i64 0, .int .i64 0, .int .i64 0, .bool false] 109)).alloc (.cells #[.int .i64 x.cell, .int .i64 x.mark, .int .i64 x.pc, .int .u64 x.found, .int .i64 x.h.S, .int .i64 x.h.C, .int .i64 x.h.N, .int .i64 x.h.M, .int .i64 x.h.G, .int .i64 x.h.T, .int .i64 x.h.L, .int .u64 x.list] 180)) L (w.alloc (.cells #[.nilFunc, .bool false, .int .i64 0, .int .i64 0, .int .i64 0, .bool false] 109)).heap.size w1 L1 := (by rw [hsz]; exact g); have st := g'.step; have A1 := A0.step A'.mem st; have g1 : Went (w.alloc (.cells #[.nilFunc, .bool false, .int .i64 0, .int .i64 0, .int .i64 0, .bool false] 109)) L w.heap.size w1 L1 := Went.of_step st _; have bq1 := bq0.step A0.mem mmM ft st; have R1 := R0.step A0.mem mmM ft st; have xq0 : w1.cell? ⟨q, 0, none⟩ = some (.func (.func n) #[] cs) := bq1.cell 0; have xlq := bq1.lt; clear g g' st AB; obtain ⟨k0, k1, k2, k3, k4, k5, k6, k7, k8, k9, k10, k11⟩ := sh_cells A'.blk)
  | (go_at_call 125; refine (cShading y k _ _ R1).mono ?_; rintro e w2 ⟨vf, rfl, R2, hb2⟩; have A2 := A1.below hb2; have g2 := g1.trans (Went.of_below hb2 _ _); obtain ⟨nf, cf, hvf⟩ := R2.fn; rw [hvf] at R2 ⊢; clear hvf; have z0 : w2.cell? ⟨w.heap.size, 0, none⟩ = some (.nilFunc) := A2.cell 0; have zf0 := A2.free 0; have z1 : w2.cell? ⟨w.heap.size, 1, none⟩ = some (.bool false) := A2.cell 1; have zf1 := A2.free 1; have z2 : w2.cell? ⟨w.heap.size, 2, none⟩ = some (.int .i64 0) := A2.cell 2; have zf2 := A2.free 2; have z3 : w2.cell? ⟨w.heap.size, 3, none⟩ = some (.int .i64 0) := A2.cell 3; have zf3 := A2.free 3; have z4 : w2.cell? ⟨w.heap.size, 4, none⟩ = some (.int .i64 0) := A2.cell 4; have zf4 := A2.free 4; have z5 : w2.cell? ⟨w.heap.size, 5, none⟩ = some (.bool false) := A2.cell 5; have zf5 := A2.free 5))
 exact bodyPost_ret (v := .agg #[.func (.func nf) #[] cf, .bool false, .int .i64 0, .int .i64 0, .int .i64 0, .bool false]) (by simp [results, Tryz.results131, go_sem, z0, z1, z2, z3, z4, z5]) rfl (ran_end (x := ⟨some (.shade y k), false, Ou.zero⟩) A2 g2 R2)
set_option maxHeartbeats 400000 in
theorem kComp2SF {c b : Int} {t : Nat} (hm : Mm w L s) (ft : s.Fit) (hc : s.c < 1000000) (rr : s.Rng) (W : H.Wid w) (z : 1 ∉ L.fp) {q p o : Nat} (bq : Bx w q 174 #[.func (.func 121) #[] #[pt t]]) (bp : Bx w p 3 #[.int .i64 c]) (bo : Bx w o 3 #[.int .i64 b]) (hcm : (c == mv (s.got b) b) = false) :
  Calls Tryz.prog 129 #[pt L.b, pt q, pt p, pt o] w fun e w' => Ran w L (⟨none, false, Ou.zero⟩) (s.load b) e w' := by
 have A0 := at0 hm W z
 have bq0 := bq.below ((Below.refl _ w).alloc (Nat.le_refl _) (.cells #[.nilFunc, .bool false, .int .i64 0, .int .i64 0, .int .i64 0, .bool false] 109))
 have bp0 := bp.below ((Below.refl _ w).alloc (Nat.le_refl _) (.cells #[.nilFunc, .bool false, .int .i64 0, .int .i64 0, .int .i64 0, .bool false] 109))
 have bo0 := bo.below ((Below.refl _ w).alloc (Nat.le_refl _) (.cells #[.nilFunc, .bool false, .int .i64 0, .int .i64 0, .int .i64 0, .bool false] 109))
 have g0 : Went (w.alloc (.cells #[.nilFunc, .bool false, .int .i64 0, .int .i64 0, .int .i64 0, .bool false] 109)) L w.heap.size (w.alloc (.cells #[.nilFunc, .bool false, .int .i64 0, .int .i64 0, .int .i64 0, .bool false] 109)) L := Went.refl _ _ _
 obtain ⟨wa, hwa⟩ : ∃ wa, w.alloc (.cells #[.nilFunc, .bool false, .int .i64 0, .int .i64 0, .int .i64 0, .bool false] 109) = wa := ⟨_, rfl⟩
 rw [hwa] at A0 bq0 bp0 bo0
 have ga : Went (w.alloc (.cells #[.nilFunc, .bool false, .int .i64 0, .int .i64 0, .int .i64 0, .bool false] 109)) L w.heap.size wa L := (by rw [hwa]; exact Went.refl _ _ _)
 clear g0
 obtain ⟨m, hmv⟩ : ∃ m, mv (s.got b) b = m := ⟨_, rfl⟩
 rw [hmv] at hcm
 go_enter Tryz.func129, Tryz.ntmps129
 go_upto_region 1 with (fail)
 clear hwa
 have keep : ∀ w', Below wa.heap.size wa w' → w'.cell? ⟨q, 0, none⟩ = some (.func (.func 121) #[] #[pt t]) ∧ w'.cell? ⟨p, 0, none⟩ = some (.int .i64 c) ∧ w'.cell? ⟨o, 0, none⟩ = some (.int .i64 b) := fun w' hb => ⟨(bq0.below hb).cell 0, (bp0.below hb).cell 0, (bo0.below hb).cell 0⟩
 have hbd : Below wa.heap.size wa wa.drew := (Below.refl wa.heap.size wa).drew
 have RD := keep _ hbd
 refine wp_region_noPanic ?_
 refine wp_region_held_drew (S := fun w' => w'.cell? ⟨q, 0, none⟩ = some (.func (.func 121) #[] #[pt t]) ∧ w'.cell? ⟨p, 0, none⟩ = some (.int .i64 c) ∧ w'.cell? ⟨o, 0, none⟩ = some (.int .i64 b)) (by kernel_rfl) RD (fun hHeld => ?_)
 refine tkH (i := 0) 6 (.func (.func 121) #[] #[pt t]) rfl rfl ?_
 simp only [sA1, sA2, sA3]
 refine tkH (i := 1) 7 (.int .i64 c) rfl rfl ?_
 simp only [sA1, sA2, sA3]
 refine tkH (i := 2) 8 (pt L.b) rfl rfl ?_
 simp only [sA1, sA2, sA3]
 refine tkH (i := 3) 9 (.int .i64 b) rfl rfl ?_
 simp only [sA1, sA2, sA3]
 refine rd1 4 rfl fun K hK => ?_
 go_simp
 refine (cPlace (A0.below hbd).mem ft hc rr (A0.below hbd).wid (A0.below hbd).zero.1 b).mono ?_
 rintro e w1 ⟨rfl, L1, hm1, st⟩
 rw [hmv]
 have A1 := (A0.below hbd).step hm1 st
 have g1 := (ga.trans (Went.of_below hbd L _)).trans (Went.of_step st _)
 have bq1 := (bq0.below hbd).step (A0.below hbd).mem mmM ft st
 have bp1 := (bp0.below hbd).step (A0.below hbd).mem mmM ft st
 have bo1 := (bo0.below hbd).step (A0.below hbd).mem mmM ft st
 refine hK.out _ _ ⟨(bq1).cell 0, (bp1).cell 0, (bo1).cell 0⟩ (fun hHeld => ?_)
 clear hK K
 try simp only [Act.put, sA1, sA2, sA3]
 refine tkH (i := 5) 11 (.bool false) rfl rfl ?_
 simp only [sA1, sA2, sA3]
 refine rd1 6 rfl fun K hK => ?_
 go_simp
 refine (cThenF t _).mono ?_
 rintro e w2 ⟨rfl, hb2⟩
 have A2 := A1.below hb2
 have g2 := g1.trans (Went.of_below hb2 _ _)
 have bq2 := bq1.below hb2
 have bp2 := bp1.below hb2
 have bo2 := bo1.below hb2
 have z0 : w2.cell? ⟨w.heap.size, 0, none⟩ = some (.nilFunc) := A2.cell 0
 have zf0 := A2.free 0
 have z1 : w2.cell? ⟨w.heap.size, 1, none⟩ = some (.bool false) := A2.cell 1
 have zf1 := A2.free 1
 have z2 : w2.cell? ⟨w.heap.size, 2, none⟩ = some (.int .i64 0) := A2.cell 2
 have zf2 := A2.free 2
 have z3 : w2.cell? ⟨w.heap.size, 3, none⟩ = some (.int .i64 0) := A2.cell 3
 have zf3 := A2.free 3
 have z4 : w2.cell? ⟨w.heap.size, 4, none⟩ = some (.int .i64 0) := A2.cell 4
 have zf4 := A2.free 4
 have z5 : w2.cell? ⟨w.heap.size, 5, none⟩ = some (.bool false) := A2.cell 5
 have zf5 := A2.free 5
 refine hK.out _ _ ⟨(bq2).cell 0, (bp2).cell 0, (bo2).cell 0⟩ (fun hHeld => ?_)
 clear hK K
 try simp only [Act.put, sA1, sA2, sA3]
 refine rd1 7 rfl fun K hK => ?_
 go_simp
 refine hK.out _ _ ⟨(bq2.put6 A2 _ _ _ _ _ _).cell 0, (bp2.put6 A2 _ _ _ _ _ _).cell 0, (bo2.put6 A2 _ _ _ _ _ _).cell 0⟩ (fun hHeld => ?_)
 clear hK K
 try simp only [Act.put, sA1, sA2, sA3]
 refine wpAnyH_done (by kernel_rfl) ?_ _
 refine NoPanic.normal ?_
 go_wp2
 exact bodyPost_ret (v := .agg #[.nilFunc, .bool false, .int .i64 0, .int .i64 0, .int .i64 0, .bool false]) (by simp [results, Tryz.results129, go_sem, z0, z1, z2, z3, z4, z5]) rfl (ran_end (x := ⟨none, false, Ou.zero⟩) A2 g2 rfl)
set_option maxHeartbeats 400000 in
theorem kComp2ST {c b : Int} {t : Nat} {k : K} {u : Value} (hm : Mm w L s) (ft : s.Fit) (hc : s.c < 1000000) (rr : s.Rng) (W : H.Wid w) (z : 1 ∉ L.fp) {q p o : Nat} (bq : Bx w q 174 #[.func (.func 121) #[] #[pt t]]) (bp : Bx w p 3 #[.int .i64 c]) (bo : Bx w o 3 #[.int .i64 b]) (bt : Bx w t 107 #[u]) (R : Rep w k u) (hcm : (c == mv (s.got b) b) = true) :
  Calls Tryz.prog 129 #[pt L.b, pt q, pt p, pt o] w fun e w' => Ran w L (⟨some k, false, Ou.zero⟩) (s.load b) e w' := by
 obtain ⟨n, cs, rfl⟩ := R.fn
 have A0 := at0 hm W z
 have bq0 := bq.below ((Below.refl _ w).alloc (Nat.le_refl _) (.cells #[.nilFunc, .bool false, .int .i64 0, .int .i64 0, .int .i64 0, .bool false] 109))
 have bp0 := bp.below ((Below.refl _ w).alloc (Nat.le_refl _) (.cells #[.nilFunc, .bool false, .int .i64 0, .int .i64 0, .int .i64 0, .bool false] 109))
 have bo0 := bo.below ((Below.refl _ w).alloc (Nat.le_refl _) (.cells #[.nilFunc, .bool false, .int .i64 0, .int .i64 0, .int .i64 0, .bool false] 109))
 have bt0 := bt.below ((Below.refl _ w).alloc (Nat.le_refl _) (.cells #[.nilFunc, .bool false, .int .i64 0, .int .i64 0, .int .i64 0, .bool false] 109))
 have g0 : Went (w.alloc (.cells #[.nilFunc, .bool false, .int .i64 0, .int .i64 0, .int .i64 0, .bool false] 109)) L w.heap.size (w.alloc (.cells #[.nilFunc, .bool false, .int .i64 0, .int .i64 0, .int .i64 0, .bool false] 109)) L := Went.refl _ _ _
 obtain ⟨wa, hwa⟩ : ∃ wa, w.alloc (.cells #[.nilFunc, .bool false, .int .i64 0, .int .i64 0, .int .i64 0, .bool false] 109) = wa := ⟨_, rfl⟩
 rw [hwa] at A0 bq0 bp0 bo0 bt0
 have ga : Went (w.alloc (.cells #[.nilFunc, .bool false, .int .i64 0, .int .i64 0, .int .i64 0, .bool false] 109)) L w.heap.size wa L := (by rw [hwa]; exact Went.refl _ _ _)
 clear g0
 obtain ⟨m, hmv⟩ : ∃ m, mv (s.got b) b = m := ⟨_, rfl⟩
 have R0 := R.below ((Below.refl _ w).alloc (Nat.le_refl _) (.cells #[.nilFunc, .bool false, .int .i64 0, .int .i64 0, .int .i64 0, .bool false] 109))
 rw [hwa] at R0
 rw [hmv] at hcm
 go_enter Tryz.func129, Tryz.ntmps129
 go_upto_region 1 with (fail)
 clear hwa
 have keep : ∀ w', Below wa.heap.size wa w' → w'.cell? ⟨q, 0, none⟩ = some (.func (.func 121) #[] #[pt t]) ∧ w'.cell? ⟨p, 0, none⟩ = some (.int .i64 c) ∧ w'.cell? ⟨o, 0, none⟩ = some (.int .i64 b) := fun w' hb => ⟨(bq0.below hb).cell 0, (bp0.below hb).cell 0, (bo0.below hb).cell 0⟩
 have hbd : Below wa.heap.size wa wa.drew := (Below.refl wa.heap.size wa).drew
 have RD := keep _ hbd
 refine wp_region_noPanic ?_
 refine wp_region_held_drew (S := fun w' => w'.cell? ⟨q, 0, none⟩ = some (.func (.func 121) #[] #[pt t]) ∧ w'.cell? ⟨p, 0, none⟩ = some (.int .i64 c) ∧ w'.cell? ⟨o, 0, none⟩ = some (.int .i64 b)) (by kernel_rfl) RD (fun hHeld => ?_)
 refine tkH (i := 0) 6 (.func (.func 121) #[] #[pt t]) rfl rfl ?_
 simp only [sA1, sA2, sA3]
 refine tkH (i := 1) 7 (.int .i64 c) rfl rfl ?_
 simp only [sA1, sA2, sA3]
 refine tkH (i := 2) 8 (pt L.b) rfl rfl ?_
 simp only [sA1, sA2, sA3]
 refine tkH (i := 3) 9 (.int .i64 b) rfl rfl ?_
 simp only [sA1, sA2, sA3]
 refine rd1 4 rfl fun K hK => ?_
 go_simp
 refine (cPlace (A0.below hbd).mem ft hc rr (A0.below hbd).wid (A0.below hbd).zero.1 b).mono ?_
 rintro e w1 ⟨rfl, L1, hm1, st⟩
 rw [hmv]
 have A1 := (A0.below hbd).step hm1 st
 have g1 := (ga.trans (Went.of_below hbd L _)).trans (Went.of_step st _)
 have bq1 := (bq0.below hbd).step (A0.below hbd).mem mmM ft st
 have bp1 := (bp0.below hbd).step (A0.below hbd).mem mmM ft st
 have bo1 := (bo0.below hbd).step (A0.below hbd).mem mmM ft st
 have bt1 := (bt0.below hbd).step (A0.below hbd).mem mmM ft st
 have R1 := (R0.below hbd).step (A0.below hbd).mem mmM ft st
 refine hK.out _ _ ⟨(bq1).cell 0, (bp1).cell 0, (bo1).cell 0⟩ (fun hHeld => ?_)
 clear hK K
 try simp only [Act.put, sA1, sA2, sA3]
 refine tkH (i := 5) 11 (.bool true) rfl rfl ?_
 simp only [sA1, sA2, sA3]
 refine rd1 6 rfl fun K hK => ?_
 go_simp
 refine (cThenT t n cs _ bt1).mono ?_
 rintro e w2 ⟨rfl, hb2⟩
 have R2 := R1.below hb2
 have A2 := A1.below hb2
 have g2 := g1.trans (Went.of_below hb2 _ _)
 have bq2 := bq1.below hb2
 have bp2 := bp1.below hb2
 have bo2 := bo1.below hb2
 have bt2 := bt1.below hb2
 have z0 : w2.cell? ⟨w.heap.size, 0, none⟩ = some (.nilFunc) := A2.cell 0
 have zf0 := A2.free 0
 have z1 : w2.cell? ⟨w.heap.size, 1, none⟩ = some (.bool false) := A2.cell 1
 have zf1 := A2.free 1
 have z2 : w2.cell? ⟨w.heap.size, 2, none⟩ = some (.int .i64 0) := A2.cell 2
 have zf2 := A2.free 2
 have z3 : w2.cell? ⟨w.heap.size, 3, none⟩ = some (.int .i64 0) := A2.cell 3
 have zf3 := A2.free 3
 have z4 : w2.cell? ⟨w.heap.size, 4, none⟩ = some (.int .i64 0) := A2.cell 4
 have zf4 := A2.free 4
 have z5 : w2.cell? ⟨w.heap.size, 5, none⟩ = some (.bool false) := A2.cell 5
 have zf5 := A2.free 5
 refine hK.out _ _ ⟨(bq2).cell 0, (bp2).cell 0, (bo2).cell 0⟩ (fun hHeld => ?_)
 clear hK K
 try simp only [Act.put, sA1, sA2, sA3]
 refine rd1 7 rfl fun K hK => ?_
 go_simp
 refine hK.out _ _ ⟨(bq2.put6 A2 _ _ _ _ _ _).cell 0, (bp2.put6 A2 _ _ _ _ _ _).cell 0, (bo2.put6 A2 _ _ _ _ _ _).cell 0⟩ (fun hHeld => ?_)
 clear hK K
 try simp only [Act.put, sA1, sA2, sA3]
 refine wpAnyH_done (by kernel_rfl) ?_ _
 refine NoPanic.normal ?_
 go_wp2
 exact bodyPost_ret (v := .agg #[.func (.func n) #[] cs, .bool false, .int .i64 0, .int .i64 0, .int .i64 0, .bool false]) (by simp [results, Tryz.results129, go_sem, z0, z1, z2, z3, z4, z5]) rfl (ran_end (x := ⟨some k, false, Ou.zero⟩) A2 g2 R2)
set_option maxHeartbeats 400000 in
theorem kLoad {f : Int} {x : Vl} {h : Hw} (hm : Mm w L s) (ft : s.Fit) (hc : s.c < 1000000) (rr : s.Rng) (W : H.Wid w) (z : 1 ∉ L.fp) {p q o t : Nat} (bp : Bx w p 3 #[.int .i64 f]) (bq : Bx w q 102 h.cells) (bo : Bx w o 38 #[.int .i64 x.k, .int .i64 x.n]) (bt : Bx w t 106 #[.func (.func 115) #[] #[pt p, pt o]]) :
  Calls Tryz.prog 116 #[pt L.b, pt p, pt q, pt o, pt t] w fun e w' => Ran w L (⟨some (shadeK (Vl.of (s.got f)) h (shadeK x h (.store f x))), false, Ou.zero⟩) (s.load f) e w' := by
 have A0 := at0 hm W z
 have cp0 : w.cell? ⟨p, 0, none⟩ = some (.int .i64 f) := bp.cell 0
 have clp := bp.lt
 have hr := rr.got f
 obtain ⟨v, hv⟩ : ∃ v, s.got f = v := ⟨_, rfl⟩
 rw [hv] at hr
 obtain ⟨u, hu⟩ : ∃ u, Vl.of v = u := ⟨_, rfl⟩
 have hk : F.Plain.kind v = u.k := by rw [← hu]; rfl
 have hn : F.Plain.num v = u.n := by rw [← hu]; rfl
 have bp0 := bp.below ((Below.refl _ w).alloc (Nat.le_refl _) (.cells #[.nilFunc, .bool false, .int .i64 0, .int .i64 0, .int .i64 0, .bool false] 109))
 have bq0 := bq.below ((Below.refl _ w).alloc (Nat.le_refl _) (.cells #[.nilFunc, .bool false, .int .i64 0, .int .i64 0, .int .i64 0, .bool false] 109))
 have bo0 := bo.below ((Below.refl _ w).alloc (Nat.le_refl _) (.cells #[.nilFunc, .bool false, .int .i64 0, .int .i64 0, .int .i64 0, .bool false] 109))
 have bt0 := bt.below ((Below.refl _ w).alloc (Nat.le_refl _) (.cells #[.nilFunc, .bool false, .int .i64 0, .int .i64 0, .int .i64 0, .bool false] 109))
 rw [hv, hu]
 go_enter Tryz.func116, Tryz.ntmps116
 go_upto_region 2 with (first
  | (go_at_call 34; refine (cLoad A0.mem ft hc f).mono ?_; rintro e w1 ⟨rfl, L1, hm1, st⟩; rw [hv]; have A1 := A0.step hm1 st; have g1 : Went (w.alloc (.cells #[.nilFunc, .bool false, .int .i64 0, .int .i64 0, .int .i64 0, .bool false] 109)) L w.heap.size w1 L1 := Went.of_step st _; have bp1 := bp0.step A0.mem mmM ft st; have bq1 := bq0.step A0.mem mmM ft st; have bo1 := bo0.step A0.mem mmM ft st; have bt1 := bt0.step A0.mem mmM ft st)
  | (go_at_call 97; refine (F.cOf v hr.1 hr.2 _).mono ?_; rintro e w2 ⟨rfl, hw2⟩; rw [hk, hn] at hw2 ⊢; have hb2 : Below w1.heap.size w1 w2 := (by rw [hw2]; go_grown); clear hw2; have A2 := A1.below hb2; have g2 := g1.trans (Went.of_below hb2 _ _); have bp2 := bp1.below hb2; have bq2 := bq1.below hb2; have bo2 := bo1.below hb2; have bt2 := bt1.below hb2))
 have A3 := A2.alloc (.cells #[.int .i64 u.k, .int .i64 u.n] 38)
 have g3 := g2.trans (Went.of_below ((Below.refl _ w2).alloc (Nat.le_refl _) (.cells #[.int .i64 u.k, .int .i64 u.n] 38)) _ _)
 have bv3 : Bx (w2.alloc (.cells #[.int .i64 u.k, .int .i64 u.n] 38)) w2.heap.size 38 #[.int .i64 u.k, .int .i64 u.n] := ⟨heap_alloc_new _ _, by decide, fun h => absurd h (by decide)⟩
 have bp3 := bp2.below ((Below.refl _ w2).alloc (Nat.le_refl _) (.cells #[.int .i64 u.k, .int .i64 u.n] 38))
 have bq3 := bq2.below ((Below.refl _ w2).alloc (Nat.le_refl _) (.cells #[.int .i64 u.k, .int .i64 u.n] 38))
 have bo3 := bo2.below ((Below.refl _ w2).alloc (Nat.le_refl _) (.cells #[.int .i64 u.k, .int .i64 u.n] 38))
 have bt3 := bt2.below ((Below.refl _ w2).alloc (Nat.le_refl _) (.cells #[.int .i64 u.k, .int .i64 u.n] 38))
 generalize hw3 : w2.alloc (.cells #[.int .i64 u.k, .int .i64 u.n] 38) = w3 at A3 g3 bv3 bp3 bq3 bo3 bt3 ⊢
 clear hw3
 generalize w2.heap.size = nb at bv3 ⊢
 have bnb3 := bv3
 have keep : ∀ w', Below w3.heap.size w3 w' → w'.cell? ⟨nb, 0, none⟩ = some (.int .i64 u.k) ∧ w'.cell? ⟨nb, 1, none⟩ = some (.int .i64 u.n) ∧ w'.cell? ⟨q, 0, none⟩ = some (.bool h.sh) ∧ w'.cell? ⟨q, 1, none⟩ = some (.bool h.ca) ∧ w'.cell? ⟨q, 2, none⟩ = some (.bool h.fx) ∧ w'.cell? ⟨q, 3, none⟩ = some (.int .i64 h.mr) ∧ w'.cell? ⟨o, 0, none⟩ = some (.int .i64 x.k) ∧ w'.cell? ⟨o, 1, none⟩ = some (.int .i64 x.n) ∧ w'.cell? ⟨t, 0, none⟩ = some (.func (.func 115) #[] #[pt p, pt o]) := fun w' hb => ⟨(bnb3.below hb).cell 0, (bnb3.below hb).cell 1, (bq3.below hb).cell 0, (bq3.below hb).cell 1, (bq3.below hb).cell 2, (bq3.below hb).cell 3, (bo3.below hb).cell 0, (bo3.below hb).cell 1, (bt3.below hb).cell 0⟩
 have hbd : Below w3.heap.size w3 w3.drew := (Below.refl w3.heap.size w3).drew
 have RD := keep _ hbd
 refine wp_region_noPanic ?_
 refine wp_region_held_drew (S := fun w' => w'.cell? ⟨nb, 0, none⟩ = some (.int .i64 u.k) ∧ w'.cell? ⟨nb, 1, none⟩ = some (.int .i64 u.n) ∧ w'.cell? ⟨q, 0, none⟩ = some (.bool h.sh) ∧ w'.cell? ⟨q, 1, none⟩ = some (.bool h.ca) ∧ w'.cell? ⟨q, 2, none⟩ = some (.bool h.fx) ∧ w'.cell? ⟨q, 3, none⟩ = some (.int .i64 h.mr) ∧ w'.cell? ⟨o, 0, none⟩ = some (.int .i64 x.k) ∧ w'.cell? ⟨o, 1, none⟩ = some (.int .i64 x.n) ∧ w'.cell? ⟨t, 0, none⟩ = some (.func (.func 115) #[] #[pt p, pt o])) (by kernel_rfl) RD (fun hHeld => ?_)
 refine tkH (i := 0) 12 (.agg #[.int .i64 u.k, .int .i64 u.n]) rfl rfl ?_
 simp only [sA1, sA2, sA3]
 refine tkH (i := 1) 13 (.agg #[.bool h.sh, .bool h.ca, .bool h.fx, .int .i64 h.mr]) rfl rfl ?_
 simp only [sA1, sA2, sA3]
 refine tkH (i := 2) 14 (.agg #[.int .i64 x.k, .int .i64 x.n]) rfl rfl ?_
 simp only [sA1, sA2, sA3]
 refine tkH (i := 3) 15 (.agg #[.bool h.sh, .bool h.ca, .bool h.fx, .int .i64 h.mr]) rfl rfl ?_
 simp only [sA1, sA2, sA3]
 refine tkH (i := 4) 16 (.func (.func 115) #[] #[pt p, pt o]) rfl rfl ?_
 simp only [sA1, sA2, sA3]
 refine rd1 5 rfl fun K hK => ?_
 go_simp
 refine (cShade' x h (.store f x) _ _ (show Rep w3.drew (.store f x) (.func (.func 115) #[] #[pt p, pt o]) from ⟨p, o, rfl, bp3.below hbd, bo3.below hbd⟩)).mono ?_
 rintro e w4 ⟨v4, rfl, R4, hb4⟩
 have hb4' := bel_trans hbd hb4
 obtain ⟨n4, c4, hv4⟩ := R4.fn
 rw [hv4] at R4 ⊢
 clear hv4
 refine hK.out _ _ (keep _ hb4') (fun hHeld => ?_)
 clear hK K
 try simp only [Act.put, sA1, sA2, sA3]
 refine rd1 6 rfl fun K hK => ?_
 go_simp
 refine (cShade' u h (shadeK x h (.store f x)) _ _ R4).mono ?_
 rintro e w5 ⟨v5, rfl, R5, hb5⟩
 have hb5' := bel_trans hb4' hb5
 obtain ⟨nf, cf, hv5⟩ := R5.fn
 rw [hv5] at R5 ⊢
 clear hv5
 have A5 := A3.below hb5'
 have g5 := g3.trans (Went.of_below hb5' _ _)
 have z0 : w5.cell? ⟨w.heap.size, 0, none⟩ = some (.nilFunc) := A5.cell 0
 have zf0 := A5.free 0
 have z1 : w5.cell? ⟨w.heap.size, 1, none⟩ = some (.bool false) := A5.cell 1
 have zf1 := A5.free 1
 have z2 : w5.cell? ⟨w.heap.size, 2, none⟩ = some (.int .i64 0) := A5.cell 2
 have zf2 := A5.free 2
 have z3 : w5.cell? ⟨w.heap.size, 3, none⟩ = some (.int .i64 0) := A5.cell 3
 have zf3 := A5.free 3
 have z4 : w5.cell? ⟨w.heap.size, 4, none⟩ = some (.int .i64 0) := A5.cell 4
 have zf4 := A5.free 4
 have z5 : w5.cell? ⟨w.heap.size, 5, none⟩ = some (.bool false) := A5.cell 5
 have zf5 := A5.free 5
 refine hK.out _ _ (keep _ hb5') (fun hHeld => ?_)
 clear hK K
 try simp only [Act.put, sA1, sA2, sA3]
 refine tkH (i := 7) 19 (.agg #[.func (.func nf) #[] cf, .bool false, .int .i64 0, .int .i64 0, .int .i64 0, .bool false]) rfl rfl ?_
 simp only [sA1, sA2, sA3]
 refine rd1 8 rfl fun K hK => ?_
 go_simp
 refine hK.out _ _ ⟨((bnb3.below hb5').put6 A5 _ _ _ _ _ _).cell 0, ((bnb3.below hb5').put6 A5 _ _ _ _ _ _).cell 1, ((bq3.below hb5').put6 A5 _ _ _ _ _ _).cell 0, ((bq3.below hb5').put6 A5 _ _ _ _ _ _).cell 1, ((bq3.below hb5').put6 A5 _ _ _ _ _ _).cell 2, ((bq3.below hb5').put6 A5 _ _ _ _ _ _).cell 3, ((bo3.below hb5').put6 A5 _ _ _ _ _ _).cell 0, ((bo3.below hb5').put6 A5 _ _ _ _ _ _).cell 1, ((bt3.below hb5').put6 A5 _ _ _ _ _ _).cell 0⟩ (fun hHeld => ?_)
 clear hK K
 try simp only [Act.put, sA1, sA2, sA3]
 refine wpAnyH_done (by kernel_rfl) ?_ _
 refine NoPanic.normal ?_
 go_wp2
 exact bodyPost_ret (v := .agg #[.func (.func nf) #[] cf, .bool false, .int .i64 0, .int .i64 0, .int .i64 0, .bool false]) (by simp [results, Tryz.results116, go_sem, z0, z1, z2, z3, z4, z5]) rfl (ran_end (x := ⟨some (shadeK u h (shadeK x h (.store f x))), false, Ou.zero⟩) A5 g5 R5)
end
end Go.Proofs.YtpcoldpphihfmaaGreatDoor
