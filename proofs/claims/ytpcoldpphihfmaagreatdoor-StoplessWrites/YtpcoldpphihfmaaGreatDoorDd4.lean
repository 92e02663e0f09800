/-
  What the closures of layer 12 come to when they are called: one access each (4).
-/
import Derived.Test.YtpcoldpphihfmaaGreatDoorDd
import Derived.Test.YtpcoldpphihfmaaGreatDoorDeq
namespace Go.Proofs.YtpcoldpphihfmaaGreatDoor
set_option linter.unusedVariables false
set_option maxRecDepth 100000
open Go.ChangeShapes Go.WideShapes Go.RowKit
open H.Plain (hw pS pC pN pM pG pT pL mv)
section
variable {w : World} {L : Loc} {s : St}
set_option maxHeartbeats 400000 in
theorem kPlainE1 {rq : Rq} {en : En} (hm : Mm w L s) (ft : s.Fit) (hc : s.c < 1000000) (rr : s.Rng) (W : H.Wid w) (z : 1 ∉ L.fp) {p q : Nat} (bp : Bx w p 48 rq.cells) (bq : Bx w q 51 en.cells) (h1 : decide (rq.fd < 0) = true) (hN : pN (s.got rq.at_) = pN (s.got rq.at_)) :
    Calls Tryz.prog 68 #[pt L.b, pt p, pt q] w fun e w' => Ran w L (⟨none, false, ⟨15, Vl.zero, false⟩⟩) (s.load rq.at_) e w' := by
  have A0 := at0 hm W z
  have cp0 : w.cell? ⟨p, 0, none⟩ = some (.int .i64 rq.op) := bp.cell 0
  have cp1 : w.cell? ⟨p, 1, none⟩ = some (.int .i64 rq.at_) := bp.cell 1
  have cp2 : w.cell? ⟨p, 2, none⟩ = some (.int .i64 rq.fd) := bp.cell 2
  have cp3 : w.cell? ⟨p, 3, none⟩ = some (.int .i64 rq.x.k) := bp.cell 3
  have cp4 : w.cell? ⟨p, 4, none⟩ = some (.int .i64 rq.x.n) := bp.cell 4
  have cp5 : w.cell? ⟨p, 5, none⟩ = some (.int .i64 rq.y.k) := bp.cell 5
  have cp6 : w.cell? ⟨p, 6, none⟩ = some (.int .i64 rq.y.n) := bp.cell 6
  have clp := bp.lt
  have hr := rr.got rq.at_
  obtain ⟨v, hv⟩ : ∃ v, s.got rq.at_ = v := ⟨_, rfl⟩
  rw [hv] at hr hN
  obtain ⟨m, hmm⟩ : ∃ m, pN v = m := ⟨_, rfl⟩
  rw [hmm] at hN
  have fh := fhead2 (pS v) (pC v) m (pM v) (pG v) (pT v) (pL v)
  have bp0 := bp.below ((Below.refl _ w).alloc (Nat.le_refl _) (.cells #[.nilFunc, .bool false, .int .i64 0, .int .i64 0, .int .i64 0, .bool false] 109))
  have bq0 := bq.below ((Below.refl _ w).alloc (Nat.le_refl _) (.cells #[.nilFunc, .bool false, .int .i64 0, .int .i64 0, .int .i64 0, .bool false] 109))
  go_enter Tryz.func68, Tryz.ntmps68
  go_upto_region 2 with (first
    | (go_at_call 34; refine (cLoad A0.mem ft hc rq.at_).mono ?_; rintro e w1 ⟨rfl, L1, hm1, st⟩; rw [hv]; have A1 := A0.step hm1 st; have g1 : Went (w.alloc (.cells #[.nilFunc, .bool false, .int .i64 0, .int .i64 0, .int .i64 0, .bool false] 109)) L w.heap.size w1 L1 := Went.of_step st _; have bp1 := bp0.step A0.mem mmM ft st; have bq1 := bq0.step A0.mem mmM ft st)
    | (go_at_call 69; refine (H.cOf v hr.1 hr.2 _ A1.wid).mono ?_; rintro e w2 ⟨rfl, hw2⟩; rw [hmm] at hw2 ⊢; have hb2 : Below w1.heap.size w1 w2 := (by rw [hw2]; go_grown); clear hw2; have A2 := A1.below hb2; have g2 := g1.trans (Went.of_below hb2 _ _); have bp2 := bp1.below hb2; have bq2 := bq1.below hb2))
  have xp0 : w2.cell? ⟨p, 0, none⟩ = some (.int .i64 rq.op) := bp2.cell 0
  have xp1 : w2.cell? ⟨p, 1, none⟩ = some (.int .i64 rq.at_) := bp2.cell 1
  have xp2 : w2.cell? ⟨p, 2, none⟩ = some (.int .i64 rq.fd) := bp2.cell 2
  have xp3 : w2.cell? ⟨p, 3, none⟩ = some (.int .i64 rq.x.k) := bp2.cell 3
  have xp4 : w2.cell? ⟨p, 4, none⟩ = some (.int .i64 rq.x.n) := bp2.cell 4
  have xp5 : w2.cell? ⟨p, 5, none⟩ = some (.int .i64 rq.y.k) := bp2.cell 5
  have xp6 : w2.cell? ⟨p, 6, none⟩ = some (.int .i64 rq.y.n) := bp2.cell 6
  have xlp := bp2.lt
  have z0 : w2.cell? ⟨w.heap.size, 0, none⟩ = some (.nilFunc) := A2.cell 0
  have zf0 := A2.free 0
  have z1 : w2.cell? ⟨w.heap.size, 1, none⟩ = some (.bool false) := A2.cell 1
  have zf1 := A2.free 1
  have z2 : w2.cell? ⟨w.heap.size, 2, none⟩ = some (.int .i64 0) := A2.cell 2
  have zf2 := A2.free 2
  have z3 : w2.cell? ⟨w.heap.size, 3, none⟩ = some (.int .i64 0) := A2.cell 3
  have zf3 := A2.free 3
  have z4 : w2.cell? ⟨w.heap.size, 4, none⟩ = some (.int .i64 0) := A2.cell 4
  have zf4 := A2.free 4
  have z5 : w2.cell? ⟨w.heap.size, 5, none⟩ = some (.bool false) := A2.cell 5
  have zf5 := A2.free 5
  go_wp2
  exact bodyPost_ret (v := .agg #[.nilFunc, .bool false, .int .i64 15, .int .i64 0, .int .i64 0, .bool false]) (by simp [results, Tryz.results68, go_sem, z0, z1, z2, z3, z4, z5]) rfl (ran_end (x := ⟨none, false, ⟨15, Vl.zero, false⟩⟩) A2 g2 rfl)
set_option maxHeartbeats 400000 in
theorem kPlainE2 {rq : Rq} {en : En} (hm : Mm w L s) (ft : s.Fit) (hc : s.c < 1000000) (rr : s.Rng) (W : H.Wid w) (z : 1 ∉ L.fp) {p q : Nat} (bp : Bx w p 48 rq.cells) (bq : Bx w q 51 en.cells) (h1 : decide (rq.fd < 0) = false) (hN : pN (s.got rq.at_) ≤ rq.fd) :
    Calls Tryz.prog 68 #[pt L.b, pt p, pt q] w fun e w' => Ran w L (⟨none, false, ⟨15, Vl.zero, false⟩⟩) (s.load rq.at_) e w' := by
  have A0 := at0 hm W z
  have cp0 : w.cell? ⟨p, 0, none⟩ = some (.int .i64 rq.op) := bp.cell 0
  have cp1 : w.cell? ⟨p, 1, none⟩ = some (.int .i64 rq.at_) := bp.cell 1
  have cp2 : w.cell? ⟨p, 2, none⟩ = some (.int .i64 rq.fd) := bp.cell 2
  have cp3 : w.cell? ⟨p, 3, none⟩ = some (.int .i64 rq.x.k) := bp.cell 3
  have cp4 : w.cell? ⟨p, 4, none⟩ = some (.int .i64 rq.x.n) := bp.cell 4
  have cp5 : w.cell? ⟨p, 5, none⟩ = some (.int .i64 rq.y.k) := bp.cell 5
  have cp6 : w.cell? ⟨p, 6, none⟩ = some (.int .i64 rq.y.n) := bp.cell 6
  have clp := bp.lt
  have hr := rr.got rq.at_
  obtain ⟨v, hv⟩ : ∃ v, s.got rq.at_ = v := ⟨_, rfl⟩
  rw [hv] at hr hN
  obtain ⟨m, hmm⟩ : ∃ m, pN v = m := ⟨_, rfl⟩
  rw [hmm] at hN
  have fh := fhead2 (pS v) (pC v) m (pM v) (pG v) (pT v) (pL v)
  have bp0 := bp.below ((Below.refl _ w).alloc (Nat.le_refl _) (.cells #[.nilFunc, .bool false, .int .i64 0, .int .i64 0, .int .i64 0, .bool false] 109))
  have bq0 := bq.below ((Below.refl _ w).alloc (Nat.le_refl _) (.cells #[.nilFunc, .bool false, .int .i64 0, .int .i64 0, .int .i64 0, .bool false] 109))
  go_enter Tryz.func68, Tryz.ntmps68
  go_upto_region 2 with (first
    | (go_at_call 34; refine (cLoad A0.mem ft hc rq.at_).mono ?_; rintro e w1 ⟨rfl, L1, hm1, st⟩; rw [hv]; have A1 := A0.step hm1 st; have g1 : Went (w.alloc (.cells #[.nilFunc, .bool false, .int .i64 0, .int .i64 0, .int .i64 0, .bool false] 109)) L w.heap.size w1 L1 := Went.of_step st _; have bp1 := bp0.step A0.mem mmM ft st; have bq1 := bq0.step A0.mem mmM ft st)
    | (go_at_call 69; refine (H.cOf v hr.1 hr.2 _ A1.wid).mono ?_; rintro e w2 ⟨rfl, hw2⟩; rw [hmm] at hw2 ⊢; have hb2 : Below w1.heap.size w1 w2 := (by rw [hw2]; go_grown); clear hw2; have A2 := A1.below hb2; have g2 := g1.trans (Went.of_below hb2 _ _); have bp2 := bp1.below hb2; have bq2 := bq1.below hb2))
  have xp0 : w2.cell? ⟨p, 0, none⟩ = some (.int .i64 rq.op) := bp2.cell 0
  have xp1 : w2.cell? ⟨p, 1, none⟩ = some (.int .i64 rq.at_) := bp2.cell 1
  have xp2 : w2.cell? ⟨p, 2, none⟩ = some (.int .i64 rq.fd) := bp2.cell 2
  have xp3 : w2.cell? ⟨p, 3, none⟩ = some (.int .i64 rq.x.k) := bp2.cell 3
  have xp4 : w2.cell? ⟨p, 4, none⟩ = some (.int .i64 rq.x.n) := bp2.cell 4
  have xp5 : w2.cell? ⟨p, 5, none⟩ = some (.int .i64 rq.y.k) := bp2.cell 5
  have xp6 : w2.cell? ⟨p, 6, none⟩ = some (.int .i64 rq.y.n) := bp2.cell 6
  have xlp := bp2.lt
  have z0 : w2.cell? ⟨w.heap.size, 0, none⟩ = some (.nilFunc) := A2.cell 0
  have zf0 := A2.free 0
  have z1 : w2.cell? ⟨w.heap.size, 1, none⟩ = some (.bool false) := A2.cell 1
  have zf1 := A2.free 1
  have z2 : w2.cell? ⟨w.heap.size, 2, none⟩ = some (.int .i64 0) := A2.cell 2
  have zf2 := A2.free 2
  have z3 : w2.cell? ⟨w.heap.size, 3, none⟩ = some (.int .i64 0) := A2.cell 3
  have zf3 := A2.free 3
  have z4 : w2.cell? ⟨w.heap.size, 4, none⟩ = some (.int .i64 0) := A2.cell 4
  have zf4 := A2.free 4
  have z5 : w2.cell? ⟨w.heap.size, 5, none⟩ = some (.bool false) := A2.cell 5
  have zf5 := A2.free 5
  have hN' : decide (m ≤ rq.fd) = true := by simpa using hN
  go_wp2
  exact bodyPost_ret (v := .agg #[.nilFunc, .bool false, .int .i64 15, .int .i64 0, .int .i64 0, .bool false]) (by simp [results, Tryz.results68, go_sem, z0, z1, z2, z3, z4, z5]) rfl (ran_end (x := ⟨none, false, ⟨15, Vl.zero, false⟩⟩) A2 g2 rfl)
set_option maxHeartbeats 400000 in
theorem kPlain0 {rq : Rq} {en : En} (hm : Mm w L s) (ft : s.Fit) (hc : s.c < 1000000) (rr : s.Rng) (W : H.Wid w) (z : 1 ∉ L.fp) {p q : Nat} (bp : Bx w p 48 rq.cells) (bq : Bx w q 51 en.cells) (h1 : decide (rq.fd < 0) = false) (hN : rq.fd < pN (s.got rq.at_)) (h3 : 0 ≤ rq.at_) (h4 : rq.at_ < 4096) (hk : firstK (rq.at_ + 1 + rq.fd) rq ⟨shadesM en.md, false, false, en.mr⟩ = none) :
    Calls Tryz.prog 68 #[pt L.b, pt p, pt q] w fun e w' => Ran w L (Sx.new (rq.at_ + 1 + rq.fd) rq ⟨shadesM en.md, false, false, en.mr⟩) (s.load rq.at_) e w' := by
  obtain ⟨sm, hsm⟩ : ∃ sm, shadesM en.md = sm := ⟨_, rfl⟩
  rw [hsm] at hk ⊢
  have A0 := at0 hm W z
  have cp0 : w.cell? ⟨p, 0, none⟩ = some (.int .i64 rq.op) := bp.cell 0
  have cp1 : w.cell? ⟨p, 1, none⟩ = some (.int .i64 rq.at_) := bp.cell 1
  have cp2 : w.cell? ⟨p, 2, none⟩ = some (.int .i64 rq.fd) := bp.cell 2
  have cp3 : w.cell? ⟨p, 3, none⟩ = some (.int .i64 rq.x.k) := bp.cell 3
  have cp4 : w.cell? ⟨p, 4, none⟩ = some (.int .i64 rq.x.n) := bp.cell 4
  have cp5 : w.cell? ⟨p, 5, none⟩ = some (.int .i64 rq.y.k) := bp.cell 5
  have cp6 : w.cell? ⟨p, 6, none⟩ = some (.int .i64 rq.y.n) := bp.cell 6
  have clp := bp.lt
  have hr := rr.got rq.at_
  obtain ⟨v, hv⟩ : ∃ v, s.got rq.at_ = v := ⟨_, rfl⟩
  rw [hv] at hr hN
  obtain ⟨m, hmm⟩ : ∃ m, pN v = m := ⟨_, rfl⟩
  rw [hmm] at hN
  have fh := fhead2 (pS v) (pC v) m (pM v) (pG v) (pT v) (pL v)
  have bp0 := bp.below ((Below.refl _ w).alloc (Nat.le_refl _) (.cells #[.nilFunc, .bool false, .int .i64 0, .int .i64 0, .int .i64 0, .bool false] 109))
  have bq0 := bq.below ((Below.refl _ w).alloc (Nat.le_refl _) (.cells #[.nilFunc, .bool false, .int .i64 0, .int .i64 0, .int .i64 0, .bool false] 109))
  go_enter Tryz.func68, Tryz.ntmps68
  go_upto_region 2 with (first
    | (go_at_call 34; refine (cLoad A0.mem ft hc rq.at_).mono ?_; rintro e w1 ⟨rfl, L1, hm1, st⟩; rw [hv]; have A1 := A0.step hm1 st; have g1 : Went (w.alloc (.cells #[.nilFunc, .bool false, .int .i64 0, .int .i64 0, .int .i64 0, .bool false] 109)) L w.heap.size w1 L1 := Went.of_step st _; have bp1 := bp0.step A0.mem mmM ft st; have bq1 := bq0.step A0.mem mmM ft st)
    | (go_at_call 69; refine (H.cOf v hr.1 hr.2 _ A1.wid).mono ?_; rintro e w2 ⟨rfl, hw2⟩; rw [hmm] at hw2 ⊢; have hb2 : Below w1.heap.size w1 w2 := (by rw [hw2]; go_grown); clear hw2; have A2 := A1.below hb2; have g2 := g1.trans (Went.of_below hb2 _ _); have bp2 := bp1.below hb2; have bq2 := bq1.below hb2))
  have xp0 : w2.cell? ⟨p, 0, none⟩ = some (.int .i64 rq.op) := bp2.cell 0
  have xp1 : w2.cell? ⟨p, 1, none⟩ = some (.int .i64 rq.at_) := bp2.cell 1
  have xp2 : w2.cell? ⟨p, 2, none⟩ = some (.int .i64 rq.fd) := bp2.cell 2
  have xp3 : w2.cell? ⟨p, 3, none⟩ = some (.int .i64 rq.x.k) := bp2.cell 3
  have xp4 : w2.cell? ⟨p, 4, none⟩ = some (.int .i64 rq.x.n) := bp2.cell 4
  have xp5 : w2.cell? ⟨p, 5, none⟩ = some (.int .i64 rq.y.k) := bp2.cell 5
  have xp6 : w2.cell? ⟨p, 6, none⟩ = some (.int .i64 rq.y.n) := bp2.cell 6
  have xlp := bp2.lt
  have hN' : decide (m ≤ rq.fd) = false := by simpa using hN
  have h5 : 0 ≤ rq.fd := by simpa using h1
  have h6 : rq.fd < 4096 := by have : m < 8 := by rw [← hmm]; unfold H.Plain.pN; omega
                               omega
  go_upto_region 4 with (fail)
  have keep : ∀ w', Below w2.heap.size w2 w' → w'.cell? ⟨p, 0, none⟩ = some (.int .i64 rq.op) ∧ w'.cell? ⟨p, 1, none⟩ = some (.int .i64 rq.at_) ∧ w'.cell? ⟨p, 2, none⟩ = some (.int .i64 rq.fd) ∧ w'.cell? ⟨p, 3, none⟩ = some (.int .i64 rq.x.k) ∧ w'.cell? ⟨p, 4, none⟩ = some (.int .i64 rq.x.n) ∧ w'.cell? ⟨p, 5, none⟩ = some (.int .i64 rq.y.k) ∧ w'.cell? ⟨p, 6, none⟩ = some (.int .i64 rq.y.n) ∧ w'.cell? ⟨q, 0, none⟩ = some (.int .i64 en.md) ∧ w'.cell? ⟨q, 1, none⟩ = some (.int .i64 en.mr) ∧ w'.cell? ⟨q, 2, none⟩ = some (.int .i64 en.al) := fun w' hb => ⟨(bp2.below hb).cell 0, (bp2.below hb).cell 1, (bp2.below hb).cell 2, (bp2.below hb).cell 3, (bp2.below hb).cell 4, (bp2.below hb).cell 5, (bp2.below hb).cell 6, (bq2.below hb).cell 0, (bq2.below hb).cell 1, (bq2.below hb).cell 2⟩
  have hbd : Below w2.heap.size w2 w2.drew := (Below.refl w2.heap.size w2).drew
  have RD := keep _ hbd
  refine wp_region_noPanic ?_
  refine wp_region_held_drew (S := fun w' => w'.cell? ⟨p, 0, none⟩ = some (.int .i64 rq.op) ∧ w'.cell? ⟨p, 1, none⟩ = some (.int .i64 rq.at_) ∧ w'.cell? ⟨p, 2, none⟩ = some (.int .i64 rq.fd) ∧ w'.cell? ⟨p, 3, none⟩ = some (.int .i64 rq.x.k) ∧ w'.cell? ⟨p, 4, none⟩ = some (.int .i64 rq.x.n) ∧ w'.cell? ⟨p, 5, none⟩ = some (.int .i64 rq.y.k) ∧ w'.cell? ⟨p, 6, none⟩ = some (.int .i64 rq.y.n) ∧ w'.cell? ⟨q, 0, none⟩ = some (.int .i64 en.md) ∧ w'.cell? ⟨q, 1, none⟩ = some (.int .i64 en.mr) ∧ w'.cell? ⟨q, 2, none⟩ = some (.int .i64 en.al)) (by kernel_rfl) RD (fun hHeld => ?_)
  refine takeH (i := 0) 23 (.pointer (some ⟨p, 1, none⟩)) rfl rfl (by kernel_rfl) (by kernel_rfl) (by kernel_rfl) (fun _ _ _ h => h) (by rfl) ?_ (by assumption) ?_
  · intro w hSw; (try dsimp only at hSw); go_simp
  simp only [List.setIfInBounds_toArray, List.set_cons_zero, List.set_cons_succ]
  refine takeH (i := 1) 24 (.int .i64 rq.at_) rfl rfl (by kernel_rfl) (by kernel_rfl) (by kernel_rfl) (fun _ _ _ h => h) (by rfl) ?_ (by assumption) ?_
  · intro w hSw; (try dsimp only at hSw); go_simp
  simp only [List.setIfInBounds_toArray, List.set_cons_zero, List.set_cons_succ]
  refine takeH (i := 2) 25 (.agg #[.int .i64 rq.op, .int .i64 rq.at_, .int .i64 rq.fd, .int .i64 rq.x.k, .int .i64 rq.x.n, .int .i64 rq.y.k, .int .i64 rq.y.n]) rfl rfl (by kernel_rfl) (by kernel_rfl) (by kernel_rfl) (fun _ _ _ h => h) (by rfl) ?_ (by assumption) ?_
  · intro w hSw; (try dsimp only at hSw); go_simp
  simp only [List.setIfInBounds_toArray, List.set_cons_zero, List.set_cons_succ]
  refine takeH (i := 3) 26 (pt q) rfl rfl (by kernel_rfl) (by kernel_rfl) (by kernel_rfl) (fun _ _ _ h => h) (by rfl) ?_ (by assumption) ?_
  · intro w hSw; (try dsimp only at hSw); go_simp
  simp only [List.setIfInBounds_toArray, List.set_cons_zero, List.set_cons_succ]
  refine takeH (i := 4) 27 (.int .i64 en.md) rfl rfl (by kernel_rfl) (by kernel_rfl) (by kernel_rfl) (fun _ _ _ h => h) (by rfl) ?_ (by assumption) ?_
  · intro w hSw; (try dsimp only at hSw); go_simp
  simp only [List.setIfInBounds_toArray, List.set_cons_zero, List.set_cons_succ]
  refine takeH (i := 6) 29 (.pointer (some ⟨q, 1, none⟩)) rfl rfl (by kernel_rfl) (by kernel_rfl) (by kernel_rfl) (fun _ _ _ h => h) (by rfl) ?_ (by assumption) ?_
  · intro w hSw; (try dsimp only at hSw); go_simp
  simp only [List.setIfInBounds_toArray, List.set_cons_zero, List.set_cons_succ]
  refine takeH (i := 7) 30 (.int .i64 en.mr) rfl rfl (by kernel_rfl) (by kernel_rfl) (by kernel_rfl) (fun _ _ _ h => h) (by rfl) ?_ (by assumption) ?_
  · intro w hSw; (try dsimp only at hSw); go_simp
  simp only [List.setIfInBounds_toArray, List.set_cons_zero, List.set_cons_succ]
  refine wpAnyH_ready (rs := [5]) (by kernel_rfl) (by simp) ?_
  refine AllReadyH.cons rfl (fun K hK => ?_) AllReadyH.nil
  go_simp
  refine (cShades en.md _).mono ?_
  rintro e w3 ⟨rfl, hw3⟩
  rw [hw3, hsm]
  clear hw3 w3
  refine hK.out _ _ RD (fun hHeld => ?_)
  clear hK K
  try simp only [Act.put, List.setIfInBounds_toArray, List.set_cons_zero, List.set_cons_succ]
  refine takeH (i := 8) 31 (.agg #[.bool sm, .bool false, .bool false, .int .i64 en.mr]) rfl rfl (by kernel_rfl) (by kernel_rfl) (by kernel_rfl) (fun _ _ _ h => h) (by rfl) ?_ (by assumption) ?_
  · intro w hSw; (try dsimp only at hSw); go_simp
  simp only [List.setIfInBounds_toArray, List.set_cons_zero, List.set_cons_succ]
  refine wpAnyH_ready (rs := [9]) (by kernel_rfl) (by simp) ?_
  refine AllReadyH.cons rfl (fun K hK => ?_) AllReadyH.nil
  go_simp
  refine (cNewDirect rq.at_ rq ⟨sm, false, false, en.mr⟩ _ h3 h4 h5 h6).mono ?_
  rintro e w4 ⟨n4, rfl, M4⟩
  have hb4 := bel_trans hbd M4.bel
  obtain ⟨v4, hq4, R4⟩ := M4.blk
  have R5 : v4 = .nilFunc := (by unfold Sx.new at R4; simp only [hk] at R4; exact R4)
  subst R5
  have A4 := A2.below hb4
  have g4 := g2.trans (Went.of_below hb4 _ _)
  have y0 : w4.cell? ⟨n4, 0, none⟩ = some (.nilFunc) := cell_of_row w4 n4 0 _ _ _ hq4
  have y1 : w4.cell? ⟨n4, 1, none⟩ = some (.bool false) := cell_of_row w4 n4 1 _ _ _ hq4
  have y2 : w4.cell? ⟨n4, 2, none⟩ = some (.int .i64 0) := cell_of_row w4 n4 2 _ _ _ hq4
  have y3 : w4.cell? ⟨n4, 3, none⟩ = some (.int .i64 0) := cell_of_row w4 n4 3 _ _ _ hq4
  have y4 : w4.cell? ⟨n4, 4, none⟩ = some (.int .i64 0) := cell_of_row w4 n4 4 _ _ _ hq4
  have y5 : w4.cell? ⟨n4, 5, none⟩ = some (.bool false) := cell_of_row w4 n4 5 _ _ _ hq4
  have z0 : w4.cell? ⟨w.heap.size, 0, none⟩ = some (.nilFunc) := A4.cell 0
  have zf0 := A4.free 0
  have z1 : w4.cell? ⟨w.heap.size, 1, none⟩ = some (.bool false) := A4.cell 1
  have zf1 := A4.free 1
  have z2 : w4.cell? ⟨w.heap.size, 2, none⟩ = some (.int .i64 0) := A4.cell 2
  have zf2 := A4.free 2
  have z3 : w4.cell? ⟨w.heap.size, 3, none⟩ = some (.int .i64 0) := A4.cell 3
  have zf3 := A4.free 3
  have z4 : w4.cell? ⟨w.heap.size, 4, none⟩ = some (.int .i64 0) := A4.cell 4
  have zf4 := A4.free 4
  have z5 : w4.cell? ⟨w.heap.size, 5, none⟩ = some (.bool false) := A4.cell 5
  have zf5 := A4.free 5
  refine hK.out _ _ (keep _ hb4) (fun hHeld => ?_)
  clear hK K
  try simp only [Act.put, List.setIfInBounds_toArray, List.set_cons_zero, List.set_cons_succ]
  refine takeH (i := 10) 33 (pt n4) rfl rfl (by kernel_rfl) (by kernel_rfl) (by kernel_rfl) (fun _ _ _ h => h) (by rfl) ?_ (by assumption) ?_
  · intro w hSw; (try dsimp only at hSw); go_simp
  simp only [List.setIfInBounds_toArray, List.set_cons_zero, List.set_cons_succ]
  refine takeH (i := 11) 34 (pt n4) rfl rfl (by kernel_rfl) (by kernel_rfl) (by kernel_rfl) (fun _ _ _ h => h) (by rfl) ?_ (by assumption) ?_
  · intro w hSw; (try dsimp only at hSw); go_simp
  simp only [List.setIfInBounds_toArray, List.set_cons_zero, List.set_cons_succ]
  refine wpAnyH_ready (rs := [12]) (by kernel_rfl) (by simp) ?_
  refine AllReadyH.cons rfl (fun K hK => ?_) AllReadyH.nil
  go_simp
  refine hK.out _ _ (keep _ hb4) (fun hHeld => ?_)
  clear hK K
  try simp only [Act.put, List.setIfInBounds_toArray, List.set_cons_zero, List.set_cons_succ]
  refine wpAnyH_ready (rs := [13]) (by kernel_rfl) (by simp) ?_
  refine AllReadyH.cons rfl (fun K hK => ?_) AllReadyH.nil
  go_simp
  refine hK.out _ _ ⟨((bp2.below hb4).put6 A4 _ _ _ _ _ _).cell 0, ((bp2.below hb4).put6 A4 _ _ _ _ _ _).cell 1, ((bp2.below hb4).put6 A4 _ _ _ _ _ _).cell 2, ((bp2.below hb4).put6 A4 _ _ _ _ _ _).cell 3, ((bp2.below hb4).put6 A4 _ _ _ _ _ _).cell 4, ((bp2.below hb4).put6 A4 _ _ _ _ _ _).cell 5, ((bp2.below hb4).put6 A4 _ _ _ _ _ _).cell 6, ((bq2.below hb4).put6 A4 _ _ _ _ _ _).cell 0, ((bq2.below hb4).put6 A4 _ _ _ _ _ _).cell 1, ((bq2.below hb4).put6 A4 _ _ _ _ _ _).cell 2⟩ (fun hHeld => ?_)
  clear hK K
  try simp only [Act.put, List.setIfInBounds_toArray, List.set_cons_zero, List.set_cons_succ]
  refine wpAnyH_done (by kernel_rfl) ?_ _
  refine NoPanic.normal ?_
  go_wp2
  exact bodyPost_ret (v := .agg #[.nilFunc, .bool false, .int .i64 0, .int .i64 0, .int .i64 0, .bool false]) (by simp [results, Tryz.results68, go_sem, z0, z1, z2, z3, z4, z5]) rfl (ran_end (x := Sx.new (rq.at_ + 1 + rq.fd) rq ⟨sm, false, false, en.mr⟩) A4 g4 R4)
set_option maxHeartbeats 400000 in
theorem kPlain1 {rq : Rq} {en : En} {k : K} (hm : Mm w L s) (ft : s.Fit) (hc : s.c < 1000000) (rr : s.Rng) (W : H.Wid w) (z : 1 ∉ L.fp) {p q : Nat} (bp : Bx w p 48 rq.cells) (bq : Bx w q 51 en.cells) (h1 : decide (rq.fd < 0) = false) (hN : rq.fd < pN (s.got rq.at_)) (h3 : 0 ≤ rq.at_) (h4 : rq.at_ < 4096) (hk : firstK (rq.at_ + 1 + rq.fd) rq ⟨shadesM en.md, false, false, en.mr⟩ = some k) :
    Calls Tryz.prog 68 #[pt L.b, pt p, pt q] w fun e w' => Ran w L (Sx.new (rq.at_ + 1 + rq.fd) rq ⟨shadesM en.md, false, false, en.mr⟩) (s.load rq.at_) e w' := by
  obtain ⟨sm, hsm⟩ : ∃ sm, shadesM en.md = sm := ⟨_, rfl⟩
  rw [hsm] at hk ⊢
  have A0 := at0 hm W z
  have cp0 : w.cell? ⟨p, 0, none⟩ = some (.int .i64 rq.op) := bp.cell 0
  have cp1 : w.cell? ⟨p, 1, none⟩ = some (.int .i64 rq.at_) := bp.cell 1
  have cp2 : w.cell? ⟨p, 2, none⟩ = some (.int .i64 rq.fd) := bp.cell 2
  have cp3 : w.cell? ⟨p, 3, none⟩ = some (.int .i64 rq.x.k) := bp.cell 3
  have cp4 : w.cell? ⟨p, 4, none⟩ = some (.int .i64 rq.x.n) := bp.cell 4
  have cp5 : w.cell? ⟨p, 5, none⟩ = some (.int .i64 rq.y.k) := bp.cell 5
  have cp6 : w.cell? ⟨p, 6, none⟩ = some (.int .i64 rq.y.n) := bp.cell 6
  have clp := bp.lt
  have hr := rr.got rq.at_
  obtain ⟨v, hv⟩ : ∃ v, s.got rq.at_ = v := ⟨_, rfl⟩
  rw [hv] at hr hN
  obtain ⟨m, hmm⟩ : ∃ m, pN v = m := ⟨_, rfl⟩
  rw [hmm] at hN
  have fh := fhead2 (pS v) (pC v) m (pM v) (pG v) (pT v) (pL v)
  have bp0 := bp.below ((Below.refl _ w).alloc (Nat.le_refl _) (.cells #[.nilFunc, .bool false, .int .i64 0, .int .i64 0, .int .i64 0, .bool false] 109))
  have bq0 := bq.below ((Below.refl _ w).alloc (Nat.le_refl _) (.cells #[.nilFunc, .bool false, .int .i64 0, .int .i64 0, .int .i64 0, .bool false] 109))
  go_enter Tryz.func68, Tryz.ntmps68
  go_upto_region 2 with (first
    | (go_at_call 34; refine (cLoad A0.mem ft hc rq.at_).mono ?_; rintro e w1 ⟨rfl, L1, hm1, st⟩; rw [hv]; have A1 := A0.step hm1 st; have g1 : Went (w.alloc (.cells #[.nilFunc, .bool false, .int .i64 0, .int .i64 0, .int .i64 0, .bool false] 109)) L w.heap.size w1 L1 := Went.of_step st _; have bp1 := bp0.step A0.mem mmM ft st; have bq1 := bq0.step A0.mem mmM ft st)
    | (go_at_call 69; refine (H.cOf v hr.1 hr.2 _ A1.wid).mono ?_; rintro e w2 ⟨rfl, hw2⟩; rw [hmm] at hw2 ⊢; have hb2 : Below w1.heap.size w1 w2 := (by rw [hw2]; go_grown); clear hw2; have A2 := A1.below hb2; have g2 := g1.trans (Went.of_below hb2 _ _); have bp2 := bp1.below hb2; have bq2 := bq1.below hb2))
  have xp0 : w2.cell? ⟨p, 0, none⟩ = some (.int .i64 rq.op) := bp2.cell 0
  have xp1 : w2.cell? ⟨p, 1, none⟩ = some (.int .i64 rq.at_) := bp2.cell 1
  have xp2 : w2.cell? ⟨p, 2, none⟩ = some (.int .i64 rq.fd) := bp2.cell 2
  have xp3 : w2.cell? ⟨p, 3, none⟩ = some (.int .i64 rq.x.k) := bp2.cell 3
  have xp4 : w2.cell? ⟨p, 4, none⟩ = some (.int .i64 rq.x.n) := bp2.cell 4
  have xp5 : w2.cell? ⟨p, 5, none⟩ = some (.int .i64 rq.y.k) := bp2.cell 5
  have xp6 : w2.cell? ⟨p, 6, none⟩ = some (.int .i64 rq.y.n) := bp2.cell 6
  have xlp := bp2.lt
  have hN' : decide (m ≤ rq.fd) = false := by simpa using hN
  have h5 : 0 ≤ rq.fd := by simpa using h1
  have h6 : rq.fd < 4096 := by have : m < 8 := by rw [← hmm]; unfold H.Plain.pN; omega
                               omega
  go_upto_region 4 with (fail)
  have keep : ∀ w', Below w2.heap.size w2 w' → w'.cell? ⟨p, 0, none⟩ = some (.int .i64 rq.op) ∧ w'.cell? ⟨p, 1, none⟩ = some (.int .i64 rq.at_) ∧ w'.cell? ⟨p, 2, none⟩ = some (.int .i64 rq.fd) ∧ w'.cell? ⟨p, 3, none⟩ = some (.int .i64 rq.x.k) ∧ w'.cell? ⟨p, 4, none⟩ = some (.int .i64 rq.x.n) ∧ w'.cell? ⟨p, 5, none⟩ = some (.int .i64 rq.y.k) ∧ w'.cell? ⟨p, 6, none⟩ = some (.int .i64 rq.y.n) ∧ w'.cell? ⟨q, 0, none⟩ = some (.int .i64 en.md) ∧ w'.cell? ⟨q, 1, none⟩ = some (.int .i64 en.mr) ∧ w'.cell? ⟨q, 2, none⟩ = some (.int .i64 en.al) := fun w' hb => ⟨(bp2.below hb).cell 0, (bp2.below hb).cell 1, (bp2.below hb).cell 2, (bp2.below hb).cell 3, (bp2.below hb).cell 4, (bp2.below hb).cell 5, (bp2.below hb).cell 6, (bq2.below hb).cell 0, (bq2.below hb).cell 1, (bq2.below hb).cell 2⟩
  have hbd : Below w2.heap.size w2 w2.drew := (Below.refl w2.heap.size w2).drew
  have RD := keep _ hbd
  refine wp_region_noPanic ?_
  refine wp_region_held_drew (S := fun w' => w'.cell? ⟨p, 0, none⟩ = some (.int .i64 rq.op) ∧ w'.cell? ⟨p, 1, none⟩ = some (.int .i64 rq.at_) ∧ w'.cell? ⟨p, 2, none⟩ = some (.int .i64 rq.fd) ∧ w'.cell? ⟨p, 3, none⟩ = some (.int .i64 rq.x.k) ∧ w'.cell? ⟨p, 4, none⟩ = some (.int .i64 rq.x.n) ∧ w'.cell? ⟨p, 5, none⟩ = some (.int .i64 rq.y.k) ∧ w'.cell? ⟨p, 6, none⟩ = some (.int .i64 rq.y.n) ∧ w'.cell? ⟨q, 0, none⟩ = some (.int .i64 en.md) ∧ w'.cell? ⟨q, 1, none⟩ = some (.int .i64 en.mr) ∧ w'.cell? ⟨q, 2, none⟩ = some (.int .i64 en.al)) (by kernel_rfl) RD (fun hHeld => ?_)
  refine takeH (i := 0) 23 (.pointer (some ⟨p, 1, none⟩)) rfl rfl (by kernel_rfl) (by kernel_rfl) (by kernel_rfl) (fun _ _ _ h => h) (by rfl) ?_ (by assumption) ?_
  · intro w hSw; (try dsimp only at hSw); go_simp
  simp only [List.setIfInBounds_toArray, List.set_cons_zero, List.set_cons_succ]
  refine takeH (i := 1) 24 (.int .i64 rq.at_) rfl rfl (by kernel_rfl) (by kernel_rfl) (by kernel_rfl) (fun _ _ _ h => h) (by rfl) ?_ (by assumption) ?_
  · intro w hSw; (try dsimp only at hSw); go_simp
  simp only [List.setIfInBounds_toArray, List.set_cons_zero, List.set_cons_succ]
  refine takeH (i := 2) 25 (.agg #[.int .i64 rq.op, .int .i64 rq.at_, .int .i64 rq.fd, .int .i64 rq.x.k, .int .i64 rq.x.n, .int .i64 rq.y.k, .int .i64 rq.y.n]) rfl rfl (by kernel_rfl) (by kernel_rfl) (by kernel_rfl) (fun _ _ _ h => h) (by rfl) ?_ (by assumption) ?_
  · intro w hSw; (try dsimp only at hSw); go_simp
  simp only [List.setIfInBounds_toArray, List.set_cons_zero, List.set_cons_succ]
  refine takeH (i := 3) 26 (pt q) rfl rfl (by kernel_rfl) (by kernel_rfl) (by kernel_rfl) (fun _ _ _ h => h) (by rfl) ?_ (by assumption) ?_
  · intro w hSw; (try dsimp only at hSw); go_simp
  simp only [List.setIfInBounds_toArray, List.set_cons_zero, List.set_cons_succ]
  refine takeH (i := 4) 27 (.int .i64 en.md) rfl rfl (by kernel_rfl) (by kernel_rfl) (by kernel_rfl) (fun _ _ _ h => h) (by rfl) ?_ (by assumption) ?_
  · intro w hSw; (try dsimp only at hSw); go_simp
  simp only [List.setIfInBounds_toArray, List.set_cons_zero, List.set_cons_succ]
  refine takeH (i := 6) 29 (.pointer (some ⟨q, 1, none⟩)) rfl rfl (by kernel_rfl) (by kernel_rfl) (by kernel_rfl) (fun _ _ _ h => h) (by rfl) ?_ (by assumption) ?_
  · intro w hSw; (try dsimp only at hSw); go_simp
  simp only [List.setIfInBounds_toArray, List.set_cons_zero, List.set_cons_succ]
  refine takeH (i := 7) 30 (.int .i64 en.mr) rfl rfl (by kernel_rfl) (by kernel_rfl) (by kernel_rfl) (fun _ _ _ h => h) (by rfl) ?_ (by assumption) ?_
  · intro w hSw; (try dsimp only at hSw); go_simp
  simp only [List.setIfInBounds_toArray, List.set_cons_zero, List.set_cons_succ]
  refine wpAnyH_ready (rs := [5]) (by kernel_rfl) (by simp) ?_
  refine AllReadyH.cons rfl (fun K hK => ?_) AllReadyH.nil
  go_simp
  refine (cShades en.md _).mono ?_
  rintro e w3 ⟨rfl, hw3⟩
  rw [hw3, hsm]
  clear hw3 w3
  refine hK.out _ _ RD (fun hHeld => ?_)
  clear hK K
  try simp only [Act.put, List.setIfInBounds_toArray, List.set_cons_zero, List.set_cons_succ]
  refine takeH (i := 8) 31 (.agg #[.bool sm, .bool false, .bool false, .int .i64 en.mr]) rfl rfl (by kernel_rfl) (by kernel_rfl) (by kernel_rfl) (fun _ _ _ h => h) (by rfl) ?_ (by assumption) ?_
  · intro w hSw; (try dsimp only at hSw); go_simp
  simp only [List.setIfInBounds_toArray, List.set_cons_zero, List.set_cons_succ]
  refine wpAnyH_ready (rs := [9]) (by kernel_rfl) (by simp) ?_
  refine AllReadyH.cons rfl (fun K hK => ?_) AllReadyH.nil
  go_simp
  refine (cNewDirect rq.at_ rq ⟨sm, false, false, en.mr⟩ _ h3 h4 h5 h6).mono ?_
  rintro e w4 ⟨n4, rfl, M4⟩
  have hb4 := bel_trans hbd M4.bel
  obtain ⟨v4, hq4, R4⟩ := M4.blk
  obtain ⟨nf, cf, rfl⟩ : ∃ nf cf, v4 = .func (.func nf) #[] cf := (by unfold Sx.new at R4; simp only [hk] at R4; exact Rep.fn R4)
  have A4 := A2.below hb4
  have g4 := g2.trans (Went.of_below hb4 _ _)
  have y0 : w4.cell? ⟨n4, 0, none⟩ = some (.func (.func nf) #[] cf) := cell_of_row w4 n4 0 _ _ _ hq4
  have y1 : w4.cell? ⟨n4, 1, none⟩ = some (.bool false) := cell_of_row w4 n4 1 _ _ _ hq4
  have y2 : w4.cell? ⟨n4, 2, none⟩ = some (.int .i64 0) := cell_of_row w4 n4 2 _ _ _ hq4
  have y3 : w4.cell? ⟨n4, 3, none⟩ = some (.int .i64 0) := cell_of_row w4 n4 3 _ _ _ hq4
  have y4 : w4.cell? ⟨n4, 4, none⟩ = some (.int .i64 0) := cell_of_row w4 n4 4 _ _ _ hq4
  have y5 : w4.cell? ⟨n4, 5, none⟩ = some (.bool false) := cell_of_row w4 n4 5 _ _ _ hq4
  have z0 : w4.cell? ⟨w.heap.size, 0, none⟩ = some (.nilFunc) := A4.cell 0
  have zf0 := A4.free 0
  have z1 : w4.cell? ⟨w.heap.size, 1, none⟩ = some (.bool false) := A4.cell 1
  have zf1 := A4.free 1
  have z2 : w4.cell? ⟨w.heap.size, 2, none⟩ = some (.int .i64 0) := A4.cell 2
  have zf2 := A4.free 2
  have z3 : w4.cell? ⟨w.heap.size, 3, none⟩ = some (.int .i64 0) := A4.cell 3
  have zf3 := A4.free 3
  have z4 : w4.cell? ⟨w.heap.size, 4, none⟩ = some (.int .i64 0) := A4.cell 4
  have zf4 := A4.free 4
  have z5 : w4.cell? ⟨w.heap.size, 5, none⟩ = some (.bool false) := A4.cell 5
  have zf5 := A4.free 5
  refine hK.out _ _ (keep _ hb4) (fun hHeld => ?_)
  clear hK K
  try simp only [Act.put, List.setIfInBounds_toArray, List.set_cons_zero, List.set_cons_succ]
  refine takeH (i := 10) 33 (pt n4) rfl rfl (by kernel_rfl) (by kernel_rfl) (by kernel_rfl) (fun _ _ _ h => h) (by rfl) ?_ (by assumption) ?_
  · intro w hSw; (try dsimp only at hSw); go_simp
  simp only [List.setIfInBounds_toArray, List.set_cons_zero, List.set_cons_succ]
  refine takeH (i := 11) 34 (pt n4) rfl rfl (by kernel_rfl) (by kernel_rfl) (by kernel_rfl) (fun _ _ _ h => h) (by rfl) ?_ (by assumption) ?_
  · intro w hSw; (try dsimp only at hSw); go_simp
  simp only [List.setIfInBounds_toArray, List.set_cons_zero, List.set_cons_succ]
  refine wpAnyH_ready (rs := [12]) (by kernel_rfl) (by simp) ?_
  refine AllReadyH.cons rfl (fun K hK => ?_) AllReadyH.nil
  go_simp
  refine hK.out _ _ (keep _ hb4) (fun hHeld => ?_)
  clear hK K
  try simp only [Act.put, List.setIfInBounds_toArray, List.set_cons_zero, List.set_cons_succ]
  refine wpAnyH_ready (rs := [13]) (by kernel_rfl) (by simp) ?_
  refine AllReadyH.cons rfl (fun K hK => ?_) AllReadyH.nil
  go_simp
  refine hK.out _ _ ⟨((bp2.below hb4).put6 A4 _ _ _ _ _ _).cell 0, ((bp2.below hb4).put6 A4 _ _ _ _ _ _).cell 1, ((bp2.below hb4).put6 A4 _ _ _ _ _ _).cell 2, ((bp2.below hb4).put6 A4 _ _ _ _ _ _).cell 3, ((bp2.below hb4).put6 A4 _ _ _ _ _ _).cell 4, ((bp2.below hb4).put6 A4 _ _ _ _ _ _).cell 5, ((bp2.below hb4).put6 A4 _ _ _ _ _ _).cell 6, ((bq2.below hb4).put6 A4 _ _ _ _ _ _).cell 0, ((bq2.below hb4).put6 A4 _ _ _ _ _ _).cell 1, ((bq2.below hb4).put6 A4 _ _ _ _ _ _).cell 2⟩ (fun hHeld => ?_)
  clear hK K
  try simp only [Act.put, List.setIfInBounds_toArray, List.set_cons_zero, List.set_cons_succ]
  refine wpAnyH_done (by kernel_rfl) ?_ _
  refine NoPanic.normal ?_
  go_wp2
  exact bodyPost_ret (v := .agg #[.func (.func nf) #[] cf, .bool false, .int .i64 0, .int .i64 0, .int .i64 0, .bool false]) (by simp [results, Tryz.results68, go_sem, z0, z1, z2, z3, z4, z5]) rfl (ran_end (x := Sx.new (rq.at_ + 1 + rq.fd) rq ⟨sm, false, false, en.mr⟩) A4 g4 R4)
end
end Go.Proofs.YtpcoldpphihfmaaGreatDoor
