/-
  What the closures of layer 12 come to when they are called: one access each (2).
-/
import Derived.Test.YtpcoldpphihfmaaGreatDoorDd
namespace Go.Proofs.YtpcoldpphihfmaaGreatDoor
set_option linter.unusedVariables false
set_option maxRecDepth 100000
open Go.ChangeShapes Go.WideShapes Go.RowKit
open H.Plain (hw pS pC pN pM pG pT pL mv)
section
variable {w : World} {L : Loc} {s : St}
set_option maxHeartbeats 400000 in
theorem kFollow {a : Int} (hm : Mm w L s) (ft : s.Fit) (hc : s.c < 1000000) (rr : s.Rng) (W : H.Wid w) (z : 1 ∉ L.fp) {p : Nat} (bp : Bx w p 3 #[.int .i64 a]) :
    Calls Tryz.prog 123 #[pt L.b, pt p] w fun e w' => Ran w L (⟨none, false, ⟨0, ⟨1, mv (s.got a) a⟩, false⟩⟩) (s.load a) e w' := by
  have A0 := at0 hm W z
  have cp0 : w.cell? ⟨p, 0, none⟩ = some (.int .i64 a) := bp.cell 0
  have clp := bp.lt
  obtain ⟨m, hmv⟩ : ∃ m, mv (s.got a) a = m := ⟨_, rfl⟩
  rw [hmv]
  go_enter Tryz.func123, Tryz.ntmps123
  go_wp2_with (go_at_call 124; refine (cPlace A0.mem ft hc rr A0.wid A0.zero.1 a).mono ?_; rintro e w1 ⟨rfl, L1, hm1, st⟩; rw [hmv]; have A1 := A0.step hm1 st; have g1 : Went (w.alloc (.cells #[.nilFunc, .bool false, .int .i64 0, .int .i64 0, .int .i64 0, .bool false] 109)) L w.heap.size w1 L1 := Went.of_step st _; have z0 : w1.cell? ⟨w.heap.size, 0, none⟩ = some (.nilFunc) := A1.cell 0; have zf0 := A1.free 0; have z1 : w1.cell? ⟨w.heap.size, 1, none⟩ = some (.bool false) := A1.cell 1; have zf1 := A1.free 1; have z2 : w1.cell? ⟨w.heap.size, 2, none⟩ = some (.int .i64 0) := A1.cell 2; have zf2 := A1.free 2; have z3 : w1.cell? ⟨w.heap.size, 3, none⟩ = some (.int .i64 0) := A1.cell 3; have zf3 := A1.free 3; have z4 : w1.cell? ⟨w.heap.size, 4, none⟩ = some (.int .i64 0) := A1.cell 4; have zf4 := A1.free 4; have z5 : w1.cell? ⟨w.heap.size, 5, none⟩ = some (.bool false) := A1.cell 5; have zf5 := A1.free 5)
  exact bodyPost_ret (v := .agg #[.nilFunc, .bool false, .int .i64 0, .int .i64 1, .int .i64 m, .bool false]) (by simp [results, Tryz.results123, go_sem, z0, z1, z2, z3, z4, z5]) rfl (ran_end (x := ⟨none, false, ⟨0, ⟨1, m⟩, false⟩⟩) A1 g1 rfl)
set_option maxHeartbeats 400000 in
theorem kStore {f : Int} {x : Vl} (hm : Mm w L s) (ft : s.Fit) (hc : s.c < 1000000) (rr : s.Rng) (W : H.Wid w) (z : 1 ∉ L.fp) {p q : Nat} (bp : Bx w p 3 #[.int .i64 f]) (bq : Bx w q 38 #[.int .i64 x.k, .int .i64 x.n]) :
    Calls Tryz.prog 115 #[pt L.b, pt p, pt q] w fun e w' => Ran w L (⟨none, true, Ou.zero⟩) (s.store f (F.Plain.word x.k x.n)) e w' := by
  have A0 := at0 hm W z
  have bp0 := bp.below ((Below.refl _ w).alloc (Nat.le_refl _) (.cells #[.nilFunc, .bool false, .int .i64 0, .int .i64 0, .int .i64 0, .bool false] 109))
  have bq0 := bq.below ((Below.refl _ w).alloc (Nat.le_refl _) (.cells #[.nilFunc, .bool false, .int .i64 0, .int .i64 0, .int .i64 0, .bool false] 109))
  have g0 : Went (w.alloc (.cells #[.nilFunc, .bool false, .int .i64 0, .int .i64 0, .int .i64 0, .bool false] 109)) L w.heap.size (w.alloc (.cells #[.nilFunc, .bool false, .int .i64 0, .int .i64 0, .int .i64 0, .bool false] 109)) L := Went.refl _ _ _
  obtain ⟨wa, hwa⟩ : ∃ wa, w.alloc (.cells #[.nilFunc, .bool false, .int .i64 0, .int .i64 0, .int .i64 0, .bool false] 109) = wa := ⟨_, rfl⟩
  rw [hwa] at A0 bp0 bq0
  have ga : Went (w.alloc (.cells #[.nilFunc, .bool false, .int .i64 0, .int .i64 0, .int .i64 0, .bool false] 109)) L w.heap.size wa L := (by rw [hwa]; exact Went.refl _ _ _)
  clear g0
  go_enter Tryz.func115, Tryz.ntmps115
  go_upto_region 1 with (fail)
  clear hwa
  have keep : ∀ w', Below wa.heap.size wa w' → w'.cell? ⟨p, 0, none⟩ = some (.int .i64 f) ∧ w'.cell? ⟨q, 0, none⟩ = some (.int .i64 x.k) ∧ w'.cell? ⟨q, 1, none⟩ = some (.int .i64 x.n) := fun w' hb => ⟨(bp0.below hb).cell 0, (bq0.below hb).cell 0, (bq0.below hb).cell 1⟩
  have hbd : Below wa.heap.size wa wa.drew := (Below.refl wa.heap.size wa).drew
  have RD := keep _ hbd
  go_region_held3 (fun w' => w'.cell? ⟨p, 0, none⟩ = some (.int .i64 f) ∧ w'.cell? ⟨q, 0, none⟩ = some (.int .i64 x.k) ∧ w'.cell? ⟨q, 1, none⟩ = some (.int .i64 x.n)) (first | assumption | exact RD | exact keep _ (by assumption))
    (first
      | (go_at_call 83; refine (F.cWord x.k x.n _).mono ?_; rintro e w1 ⟨rfl, hw1⟩; have hb1 : Below wa.heap.size wa w1 := (by rw [hw1]; exact bel_trans hbd ((Below.refl _ _).alloc (Nat.le_refl _) _)); clear hw1)
      | (go_at_call 13; refine (cStore (A0.below hb1).mem ft hc f (F.Plain.word x.k x.n)).mono ?_; rintro e w2 ⟨rfl, L2, hm2, st2⟩; have A2 := (A0.below hb1).step hm2 st2; have g2 := (ga.trans (Went.of_below hb1 L _)).trans (Went.of_step st2 _); have S2 : w2.cell? ⟨p, 0, none⟩ = some (.int .i64 f) ∧ w2.cell? ⟨q, 0, none⟩ = some (.int .i64 x.k) ∧ w2.cell? ⟨q, 1, none⟩ = some (.int .i64 x.n) := ⟨((bp0.below hb1).step (A0.below hb1).mem mmM ft st2).cell 0, ((bq0.below hb1).step (A0.below hb1).mem mmM ft st2).cell 0, ((bq0.below hb1).step (A0.below hb1).mem mmM ft st2).cell 1⟩; have z0 : w2.cell? ⟨w.heap.size, 0, none⟩ = some (.nilFunc) := A2.cell 0; have zf0 := A2.free 0; have z1 : w2.cell? ⟨w.heap.size, 1, none⟩ = some (.bool false) := A2.cell 1; have zf1 := A2.free 1; have z2 : w2.cell? ⟨w.heap.size, 2, none⟩ = some (.int .i64 0) := A2.cell 2; have zf2 := A2.free 2; have z3 : w2.cell? ⟨w.heap.size, 3, none⟩ = some (.int .i64 0) := A2.cell 3; have zf3 := A2.free 3; have z4 : w2.cell? ⟨w.heap.size, 4, none⟩ = some (.int .i64 0) := A2.cell 4; have zf4 := A2.free 4; have z5 : w2.cell? ⟨w.heap.size, 5, none⟩ = some (.bool false) := A2.cell 5; have zf5 := A2.free 5))
  go_wp2
  exact bodyPost_ret (v := .agg #[.nilFunc, .bool true, .int .i64 0, .int .i64 0, .int .i64 0, .bool false]) (by simp [results, Tryz.results115, go_sem, z0, z1, z2, z3, z4, z5]) rfl (ran_end (x := ⟨none, true, Ou.zero⟩) A2 g2 rfl)
set_option maxHeartbeats 400000 in
theorem kExchT {f y : Int} {rq : Rq} {h : Hw} (hm : Mm w L s) (ft : s.Fit) (hc : s.c < 1000000) (rr : s.Rng) (W : H.Wid w) (z : 1 ∉ L.fp) {p q t o : Nat} (bp : Bx w p 3 #[.int .i64 f]) (bq : Bx w q 43 #[.int .u64 y]) (bt : Bx w t 48 rq.cells) (bo : Bx w o 102 h.cells) (hok : s.ok1 f y = true) :
    Calls Tryz.prog 127 #[pt L.b, pt p, pt q, pt t, pt o] w fun e w' => Ran w L (⟨none, true, ⟨0, Vl.zero, true⟩⟩) (s.cas f y (F.Plain.word rq.y.k rq.y.n)) e w' := by
  have A0 := at0 hm W z
  have bp0 := bp.below ((Below.refl _ w).alloc (Nat.le_refl _) (.cells #[.nilFunc, .bool false, .int .i64 0, .int .i64 0, .int .i64 0, .bool false] 109))
  have bq0 := bq.below ((Below.refl _ w).alloc (Nat.le_refl _) (.cells #[.nilFunc, .bool false, .int .i64 0, .int .i64 0, .int .i64 0, .bool false] 109))
  have bt0 := bt.below ((Below.refl _ w).alloc (Nat.le_refl _) (.cells #[.nilFunc, .bool false, .int .i64 0, .int .i64 0, .int .i64 0, .bool false] 109))
  have bo0 := bo.below ((Below.refl _ w).alloc (Nat.le_refl _) (.cells #[.nilFunc, .bool false, .int .i64 0, .int .i64 0, .int .i64 0, .bool false] 109))
  have g0 : Went (w.alloc (.cells #[.nilFunc, .bool false, .int .i64 0, .int .i64 0, .int .i64 0, .bool false] 109)) L w.heap.size (w.alloc (.cells #[.nilFunc, .bool false, .int .i64 0, .int .i64 0, .int .i64 0, .bool false] 109)) L := Went.refl _ _ _
  obtain ⟨wa, hwa⟩ : ∃ wa, w.alloc (.cells #[.nilFunc, .bool false, .int .i64 0, .int .i64 0, .int .i64 0, .bool false] 109) = wa := ⟨_, rfl⟩
  rw [hwa] at A0 bp0 bq0 bt0 bo0
  have ga : Went (w.alloc (.cells #[.nilFunc, .bool false, .int .i64 0, .int .i64 0, .int .i64 0, .bool false] 109)) L w.heap.size wa L := (by rw [hwa]; exact Went.refl _ _ _)
  clear g0
  go_enter Tryz.func127, Tryz.ntmps127
  go_upto_region 1 with (fail)
  clear hwa
  have keep : ∀ w', Below wa.heap.size wa w' → w'.cell? ⟨p, 0, none⟩ = some (.int .i64 f) ∧ w'.cell? ⟨q, 0, none⟩ = some (.int .u64 y) ∧ w'.cell? ⟨t, 0, none⟩ = some (.int .i64 rq.op) ∧ w'.cell? ⟨t, 1, none⟩ = some (.int .i64 rq.at_) ∧ w'.cell? ⟨t, 2, none⟩ = some (.int .i64 rq.fd) ∧ w'.cell? ⟨t, 3, none⟩ = some (.int .i64 rq.x.k) ∧ w'.cell? ⟨t, 4, none⟩ = some (.int .i64 rq.x.n) ∧ w'.cell? ⟨t, 5, none⟩ = some (.int .i64 rq.y.k) ∧ w'.cell? ⟨t, 6, none⟩ = some (.int .i64 rq.y.n) := fun w' hb => ⟨(bp0.below hb).cell 0, (bq0.below hb).cell 0, (bt0.below hb).cell 0, (bt0.below hb).cell 1, (bt0.below hb).cell 2, (bt0.below hb).cell 3, (bt0.below hb).cell 4, (bt0.below hb).cell 5, (bt0.below hb).cell 6⟩
  have hbd : Below wa.heap.size wa wa.drew := (Below.refl wa.heap.size wa).drew
  have RD := keep _ hbd
  go_region_held3 (fun w' => w'.cell? ⟨p, 0, none⟩ = some (.int .i64 f) ∧ w'.cell? ⟨q, 0, none⟩ = some (.int .u64 y) ∧ w'.cell? ⟨t, 0, none⟩ = some (.int .i64 rq.op) ∧ w'.cell? ⟨t, 1, none⟩ = some (.int .i64 rq.at_) ∧ w'.cell? ⟨t, 2, none⟩ = some (.int .i64 rq.fd) ∧ w'.cell? ⟨t, 3, none⟩ = some (.int .i64 rq.x.k) ∧ w'.cell? ⟨t, 4, none⟩ = some (.int .i64 rq.x.n) ∧ w'.cell? ⟨t, 5, none⟩ = some (.int .i64 rq.y.k) ∧ w'.cell? ⟨t, 6, none⟩ = some (.int .i64 rq.y.n)) (first | assumption | exact RD | exact keep _ (by assumption))
    (first
      | (go_at_call 83; refine (F.cWord rq.y.k rq.y.n _).mono ?_; rintro e w1 ⟨rfl, hw1⟩; have hb1 : Below wa.heap.size wa w1 := (by rw [hw1]; exact bel_trans hbd ((Below.refl _ _).alloc (Nat.le_refl _) _)); clear hw1)
      | (go_at_call 62; refine (cCAS (A0.below hb1).mem ft hc f y (F.Plain.word rq.y.k rq.y.n)).mono ?_; rintro e w2 ⟨rfl, L2, hm2, st2⟩; rw [hok]; have A2 := (A0.below hb1).step hm2 st2; have g2 := (ga.trans (Went.of_below hb1 L _)).trans (Went.of_step st2 _); have S2 : w2.cell? ⟨p, 0, none⟩ = some (.int .i64 f) ∧ w2.cell? ⟨q, 0, none⟩ = some (.int .u64 y) ∧ w2.cell? ⟨t, 0, none⟩ = some (.int .i64 rq.op) ∧ w2.cell? ⟨t, 1, none⟩ = some (.int .i64 rq.at_) ∧ w2.cell? ⟨t, 2, none⟩ = some (.int .i64 rq.fd) ∧ w2.cell? ⟨t, 3, none⟩ = some (.int .i64 rq.x.k) ∧ w2.cell? ⟨t, 4, none⟩ = some (.int .i64 rq.x.n) ∧ w2.cell? ⟨t, 5, none⟩ = some (.int .i64 rq.y.k) ∧ w2.cell? ⟨t, 6, none⟩ = some (.int .i64 rq.y.n) := ⟨((bp0.below hb1).step (A0.below hb1).mem mmM ft st2).cell 0, ((bq0.below hb1).step (A0.below hb1).mem mmM ft st2).cell 0, ((bt0.below hb1).step (A0.below hb1).mem mmM ft st2).cell 0, ((bt0.below hb1).step (A0.below hb1).mem mmM ft st2).cell 1, ((bt0.below hb1).step (A0.below hb1).mem mmM ft st2).cell 2, ((bt0.below hb1).step (A0.below hb1).mem mmM ft st2).cell 3, ((bt0.below hb1).step (A0.below hb1).mem mmM ft st2).cell 4, ((bt0.below hb1).step (A0.below hb1).mem mmM ft st2).cell 5, ((bt0.below hb1).step (A0.below hb1).mem mmM ft st2).cell 6⟩; have z0 : w2.cell? ⟨w.heap.size, 0, none⟩ = some (.nilFunc) := A2.cell 0; have zf0 := A2.free 0; have z1 : w2.cell? ⟨w.heap.size, 1, none⟩ = some (.bool false) := A2.cell 1; have zf1 := A2.free 1; have z2 : w2.cell? ⟨w.heap.size, 2, none⟩ = some (.int .i64 0) := A2.cell 2; have zf2 := A2.free 2; have z3 : w2.cell? ⟨w.heap.size, 3, none⟩ = some (.int .i64 0) := A2.cell 3; have zf3 := A2.free 3; have z4 : w2.cell? ⟨w.heap.size, 4, none⟩ = some (.int .i64 0) := A2.cell 4; have zf4 := A2.free 4; have z5 : w2.cell? ⟨w.heap.size, 5, none⟩ = some (.bool false) := A2.cell 5; have zf5 := A2.free 5))
  go_wp2
  exact bodyPost_ret (v := .agg #[.nilFunc, .bool true, .int .i64 0, .int .i64 0, .int .i64 0, .bool true]) (by simp [results, Tryz.results127, go_sem, z0, z1, z2, z3, z4, z5]) rfl (ran_end (x := ⟨none, true, ⟨0, Vl.zero, true⟩⟩) A2 g2 rfl)
set_option maxHeartbeats 400000 in
theorem kExchF {f y : Int} {rq : Rq} {h : Hw} (hm : Mm w L s) (ft : s.Fit) (hc : s.c < 1000000) (rr : s.Rng) (W : H.Wid w) (z : 1 ∉ L.fp) {p q t o : Nat} (bp : Bx w p 3 #[.int .i64 f]) (bq : Bx w q 43 #[.int .u64 y]) (bt : Bx w t 48 rq.cells) (bo : Bx w o 102 h.cells) (hok : s.ok1 f y = false) :
    Calls Tryz.prog 127 #[pt L.b, pt p, pt q, pt t, pt o] w fun e w' => Ran w L (⟨some (.swap f rq h), false, Ou.zero⟩) (s.cas f y (F.Plain.word rq.y.k rq.y.n)) e w' := by
  have A0 := at0 hm W z
  have bp0 := bp.below ((Below.refl _ w).alloc (Nat.le_refl _) (.cells #[.nilFunc, .bool false, .int .i64 0, .int .i64 0, .int .i64 0, .bool false] 109))
  have bq0 := bq.below ((Below.refl _ w).alloc (Nat.le_refl _) (.cells #[.nilFunc, .bool false, .int .i64 0, .int .i64 0, .int .i64 0, .bool false] 109))
  have bt0 := bt.below ((Below.refl _ w).alloc (Nat.le_refl _) (.cells #[.nilFunc, .bool false, .int .i64 0, .int .i64 0, .int .i64 0, .bool false] 109))
  have bo0 := bo.below ((Below.refl _ w).alloc (Nat.le_refl _) (.cells #[.nilFunc, .bool false, .int .i64 0, .int .i64 0, .int .i64 0, .bool false] 109))
  have g0 : Went (w.alloc (.cells #[.nilFunc, .bool false, .int .i64 0, .int .i64 0, .int .i64 0, .bool false] 109)) L w.heap.size (w.alloc (.cells #[.nilFunc, .bool false, .int .i64 0, .int .i64 0, .int .i64 0, .bool false] 109)) L := Went.refl _ _ _
  obtain ⟨wa, hwa⟩ : ∃ wa, w.alloc (.cells #[.nilFunc, .bool false, .int .i64 0, .int .i64 0, .int .i64 0, .bool false] 109) = wa := ⟨_, rfl⟩
  rw [hwa] at A0 bp0 bq0 bt0 bo0
  have ga : Went (w.alloc (.cells #[.nilFunc, .bool false, .int .i64 0, .int .i64 0, .int .i64 0, .bool false] 109)) L w.heap.size wa L := (by rw [hwa]; exact Went.refl _ _ _)
  clear g0
  go_enter Tryz.func127, Tryz.ntmps127
  go_upto_region 1 with (fail)
  clear hwa
  have keep : ∀ w', Below wa.heap.size wa w' → w'.cell? ⟨p, 0, none⟩ = some (.int .i64 f) ∧ w'.cell? ⟨q, 0, none⟩ = some (.int .u64 y) ∧ w'.cell? ⟨t, 0, none⟩ = some (.int .i64 rq.op) ∧ w'.cell? ⟨t, 1, none⟩ = some (.int .i64 rq.at_) ∧ w'.cell? ⟨t, 2, none⟩ = some (.int .i64 rq.fd) ∧ w'.cell? ⟨t, 3, none⟩ = some (.int .i64 rq.x.k) ∧ w'.cell? ⟨t, 4, none⟩ = some (.int .i64 rq.x.n) ∧ w'.cell? ⟨t, 5, none⟩ = some (.int .i64 rq.y.k) ∧ w'.cell? ⟨t, 6, none⟩ = some (.int .i64 rq.y.n) := fun w' hb => ⟨(bp0.below hb).cell 0, (bq0.below hb).cell 0, (bt0.below hb).cell 0, (bt0.below hb).cell 1, (bt0.below hb).cell 2, (bt0.below hb).cell 3, (bt0.below hb).cell 4, (bt0.below hb).cell 5, (bt0.below hb).cell 6⟩
  have hbd : Below wa.heap.size wa wa.drew := (Below.refl wa.heap.size wa).drew
  have RD := keep _ hbd
  go_region_held3 (fun w' => w'.cell? ⟨p, 0, none⟩ = some (.int .i64 f) ∧ w'.cell? ⟨q, 0, none⟩ = some (.int .u64 y) ∧ w'.cell? ⟨t, 0, none⟩ = some (.int .i64 rq.op) ∧ w'.cell? ⟨t, 1, none⟩ = some (.int .i64 rq.at_) ∧ w'.cell? ⟨t, 2, none⟩ = some (.int .i64 rq.fd) ∧ w'.cell? ⟨t, 3, none⟩ = some (.int .i64 rq.x.k) ∧ w'.cell? ⟨t, 4, none⟩ = some (.int .i64 rq.x.n) ∧ w'.cell? ⟨t, 5, none⟩ = some (.int .i64 rq.y.k) ∧ w'.cell? ⟨t, 6, none⟩ = some (.int .i64 rq.y.n)) (first | assumption | exact RD | exact keep _ (by assumption))
    (first
      | (go_at_call 83; refine (F.cWord rq.y.k rq.y.n _).mono ?_; rintro e w1 ⟨rfl, hw1⟩; have hb1 : Below wa.heap.size wa w1 := (by rw [hw1]; exact bel_trans hbd ((Below.refl _ _).alloc (Nat.le_refl _) _)); clear hw1)
      | (go_at_call 62; refine (cCAS (A0.below hb1).mem ft hc f y (F.Plain.word rq.y.k rq.y.n)).mono ?_; rintro e w2 ⟨rfl, L2, hm2, st2⟩; rw [hok]; have A2 := (A0.below hb1).step hm2 st2; have g2 := (ga.trans (Went.of_below hb1 L _)).trans (Went.of_step st2 _); have S2 : w2.cell? ⟨p, 0, none⟩ = some (.int .i64 f) ∧ w2.cell? ⟨q, 0, none⟩ = some (.int .u64 y) ∧ w2.cell? ⟨t, 0, none⟩ = some (.int .i64 rq.op) ∧ w2.cell? ⟨t, 1, none⟩ = some (.int .i64 rq.at_) ∧ w2.cell? ⟨t, 2, none⟩ = some (.int .i64 rq.fd) ∧ w2.cell? ⟨t, 3, none⟩ = some (.int .i64 rq.x.k) ∧ w2.cell? ⟨t, 4, none⟩ = some (.int .i64 rq.x.n) ∧ w2.cell? ⟨t, 5, none⟩ = some (.int .i64 rq.y.k) ∧ w2.cell? ⟨t, 6, none⟩ = some (.int .i64 rq.y.n) := ⟨((bp0.below hb1).step (A0.below hb1).mem mmM ft st2).cell 0, ((bq0.below hb1).step (A0.below hb1).mem mmM ft st2).cell 0, ((bt0.below hb1).step (A0.below hb1).mem mmM ft st2).cell 0, ((bt0.below hb1).step (A0.below hb1).mem mmM ft st2).cell 1, ((bt0.below hb1).step (A0.below hb1).mem mmM ft st2).cell 2, ((bt0.below hb1).step (A0.below hb1).mem mmM ft st2).cell 3, ((bt0.below hb1).step (A0.below hb1).mem mmM ft st2).cell 4, ((bt0.below hb1).step (A0.below hb1).mem mmM ft st2).cell 5, ((bt0.below hb1).step (A0.below hb1).mem mmM ft st2).cell 6⟩; have bo2 := (bo0.below hb1).step (A0.below hb1).mem mmM ft st2; have bp2 := (bp0.below hb1).step (A0.below hb1).mem mmM ft st2; have bt2 := (bt0.below hb1).step (A0.below hb1).mem mmM ft st2; have xo0 : w2.cell? ⟨o, 0, none⟩ = some (.bool h.sh) := bo2.cell 0; have xo1 : w2.cell? ⟨o, 1, none⟩ = some (.bool h.ca) := bo2.cell 1; have xo2 : w2.cell? ⟨o, 2, none⟩ = some (.bool h.fx) := bo2.cell 2; have xo3 : w2.cell? ⟨o, 3, none⟩ = some (.int .i64 h.mr) := bo2.cell 3; have xlo := bo2.lt; have xp0 : w2.cell? ⟨p, 0, none⟩ = some (.int .i64 f) := bp2.cell 0; have xlp := bp2.lt; have xt0 : w2.cell? ⟨t, 0, none⟩ = some (.int .i64 rq.op) := bt2.cell 0; have xt1 : w2.cell? ⟨t, 1, none⟩ = some (.int .i64 rq.at_) := bt2.cell 1; have xt2 : w2.cell? ⟨t, 2, none⟩ = some (.int .i64 rq.fd) := bt2.cell 2; have xt3 : w2.cell? ⟨t, 3, none⟩ = some (.int .i64 rq.x.k) := bt2.cell 3; have xt4 : w2.cell? ⟨t, 4, none⟩ = some (.int .i64 rq.x.n) := bt2.cell 4; have xt5 : w2.cell? ⟨t, 5, none⟩ = some (.int .i64 rq.y.k) := bt2.cell 5; have xt6 : w2.cell? ⟨t, 6, none⟩ = some (.int .i64 rq.y.n) := bt2.cell 6; have xlt := bt2.lt))
  go_wp2_with (go_at_call 110; refine (cSwapK f rq h _).mono ?_; rintro e w3 ⟨vf, rfl, R3, hb3⟩; have A3 := A2.below hb3; have g3 := g2.trans (Went.of_below hb3 _ _); obtain ⟨nf, cf, hvf⟩ := R3.fn; rw [hvf] at R3 ⊢; have z0 : w3.cell? ⟨w.heap.size, 0, none⟩ = some (.nilFunc) := A3.cell 0; have zf0 := A3.free 0; have z1 : w3.cell? ⟨w.heap.size, 1, none⟩ = some (.bool false) := A3.cell 1; have zf1 := A3.free 1; have z2 : w3.cell? ⟨w.heap.size, 2, none⟩ = some (.int .i64 0) := A3.cell 2; have zf2 := A3.free 2; have z3 : w3.cell? ⟨w.heap.size, 3, none⟩ = some (.int .i64 0) := A3.cell 3; have zf3 := A3.free 3; have z4 : w3.cell? ⟨w.heap.size, 4, none⟩ = some (.int .i64 0) := A3.cell 4; have zf4 := A3.free 4; have z5 : w3.cell? ⟨w.heap.size, 5, none⟩ = some (.bool false) := A3.cell 5; have zf5 := A3.free 5)
  exact bodyPost_ret (v := .agg #[.func (.func nf) #[] cf, .bool false, .int .i64 0, .int .i64 0, .int .i64 0, .bool false]) (by simp [results, Tryz.results127, go_sem, z0, z1, z2, z3, z4, z5]) rfl (ran_end (x := ⟨some (.swap f rq h), false, Ou.zero⟩) A3 g3 R3)
set_option maxHeartbeats 400000 in
theorem kCompS {a b : Int} {k : K} {u : Value} {t : Nat} (hm : Mm w L s) (ft : s.Fit) (hc : s.c < 1000000) (rr : s.Rng) (W : H.Wid w) (z : 1 ∉ L.fp) {p q r : Nat} (bp : Bx w p 3 #[.int .i64 a]) (bq : Bx w q 174 #[.func (.func 121) #[] #[pt t]]) (br : Bx w r 3 #[.int .i64 b]) (bt : Bx w t 107 #[u]) (R : Rep w k u) :
    Calls Tryz.prog 128 #[pt L.b, pt p, pt q, pt r] w fun e w' => Ran w L (⟨some (.comp2S (mv (s.got a) a) b k), false, Ou.zero⟩) (s.load a) e w' := by
  have A0 := at0 hm W z
  have cp0 : w.cell? ⟨p, 0, none⟩ = some (.int .i64 a) := bp.cell 0
  have clp := bp.lt
  have bq0 := bq.below ((Below.refl _ w).alloc (Nat.le_refl _) (.cells #[.nilFunc, .bool false, .int .i64 0, .int .i64 0, .int .i64 0, .bool false] 109))
  have br0 := br.below ((Below.refl _ w).alloc (Nat.le_refl _) (.cells #[.nilFunc, .bool false, .int .i64 0, .int .i64 0, .int .i64 0, .bool false] 109))
  have bt0 := bt.below ((Below.refl _ w).alloc (Nat.le_refl _) (.cells #[.nilFunc, .bool false, .int .i64 0, .int .i64 0, .int .i64 0, .bool false] 109))
  have R0 := R.below ((Below.refl _ w).alloc (Nat.le_refl _) (.cells #[.nilFunc, .bool false, .int .i64 0, .int .i64 0, .int .i64 0, .bool false] 109))
  obtain ⟨m, hmv⟩ : ∃ m, mv (s.got a) a = m := ⟨_, rfl⟩
  rw [hmv]
  go_enter Tryz.func128, Tryz.ntmps128
  go_upto_region 2 with (go_at_call 124; refine (cPlace A0.mem ft hc rr A0.wid A0.zero.1 a).mono ?_; rintro e w1 ⟨rfl, L1, hm1, st⟩; rw [hmv]; have A1 := A0.step hm1 st; have g1 : Went (w.alloc (.cells #[.nilFunc, .bool false, .int .i64 0, .int .i64 0, .int .i64 0, .bool false] 109)) L w.heap.size w1 L1 := Went.of_step st _; have bq1 := bq0.step A0.mem mmM ft st; have br1 := br0.step A0.mem mmM ft st; have bt1 := bt0.step A0.mem mmM ft st; have R1 := R0.step A0.mem mmM ft st)
  have b2 : Below w1.heap.size w1 (w1.alloc (.cells #[.int .i64 m] 3)) := (Below.refl _ w1).alloc (Nat.le_refl _) (.cells #[.int .i64 m] 3)
  have A2 := A1.below b2
  have g2 := g1.trans (Went.of_below b2 _ _)
  have bm2 : Bx (w1.alloc (.cells #[.int .i64 m] 3)) w1.heap.size 3 #[.int .i64 m] := ⟨heap_alloc_new _ _, by decide, fun h => absurd h (by decide)⟩
  have bq2 := bq1.below b2
  have br2 := br1.below b2
  have bt2 := bt1.below b2
  have R2 := R1.below b2
  generalize hw2 : w1.alloc (.cells #[.int .i64 m] 3) = w2 at A2 g2 bm2 bq2 br2 bt2 R2 ⊢
  clear hw2 b2
  generalize w1.heap.size = nb at bm2 ⊢
  have z0 : w2.cell? ⟨w.heap.size, 0, none⟩ = some (.nilFunc) := A2.cell 0
  have zf0 := A2.free 0
  have z1 : w2.cell? ⟨w.heap.size, 1, none⟩ = some (.bool false) := A2.cell 1
  have zf1 := A2.free 1
  have z2 : w2.cell? ⟨w.heap.size, 2, none⟩ = some (.int .i64 0) := A2.cell 2
  have zf2 := A2.free 2
  have z3 : w2.cell? ⟨w.heap.size, 3, none⟩ = some (.int .i64 0) := A2.cell 3
  have zf3 := A2.free 3
  have z4 : w2.cell? ⟨w.heap.size, 4, none⟩ = some (.int .i64 0) := A2.cell 4
  have zf4 := A2.free 4
  have z5 : w2.cell? ⟨w.heap.size, 5, none⟩ = some (.bool false) := A2.cell 5
  have zf5 := A2.free 5
  go_wp2
  exact bodyPost_ret (v := .agg #[.func (.func 129) #[] #[pt q, pt nb, pt r], .bool false, .int .i64 0, .int .i64 0, .int .i64 0, .bool false]) (by simp [results, Tryz.results128, go_sem, z0, z1, z2, z3, z4, z5]) rfl (ran_end (x := ⟨some (.comp2S (m) b k), false, Ou.zero⟩) A2 g2 ⟨nb, q, r, t, u, rfl, bm2, bq2, br2, bt2, R2⟩)
end
end Go.Proofs.YtpcoldpphihfmaaGreatDoor
