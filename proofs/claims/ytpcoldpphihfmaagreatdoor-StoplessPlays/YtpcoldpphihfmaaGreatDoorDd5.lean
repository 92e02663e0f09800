import Derived.Test.YtpcoldpphihfmaaGreatDoorDd2
import Derived.Test.YtpcoldpphihfmaaGreatDoorDeq
namespace Go.Proofs.YtpcoldpphihfmaaGreatDoor
set_option linter.unusedVariables false
set_option maxRecDepth 100000
open Go.ChangeShapes Go.WideShapes Go.RowKit
open H.Plain (hw pS pC pN pM pG pT pL mv)
section
variable {w : World} {L : Loc} {s : St}
set_option maxHeartbeats 400000 in
theorem kPlainE1 {rq : Rq} {en : En} (hm : Mm w L s) (ft : s.Fit) (hc : s.c < 1000000) (rr : s.Rng) (W : H.Wid w) (z : 1 ∉ L.fp) {p q : Nat} (bp : Bx w p 48 rq.cells) (bq : Bx w q 51 en.cells) (h1 : decide (rq.fd < 0) = true) (hN : pN (s.got rq.at_) = pN (s.got rq.at_)) :
  Calls Tryz.prog 68 #[pt L.b, pt p, pt q] w fun e w' => Ran w L (⟨none, false, ⟨15, Vl.zero, false⟩⟩) (s.load rq.at_) e w' := by
 have A0 := at0 hm W z
 have cp0 : w.cell? ⟨p, 0, none⟩ = some (.int .i64 rq.op) := bp.cell 0
 have cp1 : w.cell? ⟨p, 1, none⟩ = some (.int .i64 rq.at_) := bp.cell 1
 have cp2 : w.cell? ⟨p, 2, none⟩ = some (.int .i64 rq.fd) := bp.cell 2
 have cp3 : w.cell? ⟨p, 3, none⟩ = some (.int .i64 rq.x.k) := bp.cell 3
 have cp4 : w.cell? ⟨p, 4, none⟩ = some (.int .i64 rq.x.n) := bp.cell 4
 have cp5 : w.cell? ⟨p, 5, none⟩ = some (.int .i64 rq.y.k) := bp.cell 5
 have cp6 : w.cell? ⟨p, 6, none⟩ = some (.int .i64 rq.y.n) := bp.cell 6
 have clp := bp.lt
 have hr := rr.got rq.at_
 obtain ⟨v, hv⟩ : ∃ v, s.got rq.at_ = v := ⟨_, rfl⟩
 rw [hv] at hr hN
 obtain ⟨m, hmm⟩ : ∃ m, pN v = m := ⟨_, rfl⟩
 rw [hmm] at hN
 have fh := fhead2 (pS v) (pC v) m (pM v) (pG v) (pT v) (pL v)
 have bp0 := bp.below ((Below.refl _ w).alloc (Nat.le_refl _) (.cells #[.nilFunc, .bool false, .int .i64 0, .int .i64 0, .int .i64 0, .bool false] 109))
 have bq0 := bq.below ((Below.refl _ w).alloc (Nat.le_refl _) (.cells #[.nilFunc, .bool false, .int .i64 0, .int .i64 0, .int .i64 0, .bool false] 109))
 go_enter Tryz.func68, Tryz.ntmps68
 go_upto_region 2 with (first
  | (go_at_call 34; refine (cLoad A0.mem ft hc rq.at_).mono ?_; rintro e w1 ⟨rfl, L1, hm1, st⟩; rw [hv]; have A1 := A0.step hm1 st; have g1 : Went (w.alloc (.cells #[.nilFunc, .bool false, .int .i64 0, .int .i64 0, .int .i64 0, .bool false] 109)) L w.heap.size w1 L1 := Went.of_step st _; have bp1 := bp0.step A0.mem mmM ft st; have bq1 := bq0.step A0.mem mmM ft st)
  | (go_at_call 69; refine (H.cOf v hr.1 hr.2 _ A1.wid).mono ?_; rintro e w2 ⟨rfl, hw2⟩; rw [hmm] at hw2 ⊢; have hb2 : Below w1.heap.size w1 w2 := (by rw [hw2]; go_grown); clear hw2; have A2 := A1.below hb2; have g2 := g1.trans (Went.of_below hb2 _ _); have bp2 := bp1.below hb2; have bq2 := bq1.below hb2))
 have xp0 : w2.cell? ⟨p, 0, none⟩ = some (.int .i64 rq.op) := bp2.cell 0
 have xp1 : w2.cell? ⟨p, 1, none⟩ = some (.int .i64 rq.at_) := bp2.cell 1
 have xp2 : w2.cell? ⟨p, 2, none⟩ = some (.int .i64 rq.fd) := bp2.cell 2
 have xp3 : w2.cell? ⟨p, 3, none⟩ = some (.int .i64 rq.x.k) := bp2.cell 3
 have xp4 : w2.cell? ⟨p, 4, none⟩ = some (.int .i64 rq.x.n) := bp2.cell 4
 have xp5 : w2.cell? ⟨p, 5, none⟩ = some (.int .i64 rq.y.k) := bp2.cell 5
 have xp6 : w2.cell? ⟨p, 6, none⟩ = some (.int .i64 rq.y.n) := bp2.cell 6
 have xlp := bp2.lt
 have z0 : w2.cell? ⟨w.heap.size, 0, none⟩ = some (.nilFunc) := A2.cell 0
 have zf0 := A2.free 0
 have z1 : w2.cell? ⟨w.heap.size, 1, none⟩ = some (.bool false) := A2.cell 1
 have zf1 := A2.free 1
 have z2 : w2.cell? ⟨w.heap.size, 2, none⟩ = some (.int .i64 0) := A2.cell 2
 have zf2 := A2.free 2
 have z3 : w2.cell? ⟨w.heap.size, 3, none⟩ = some (.int .i64 0) := A2.cell 3
 have zf3 := A2.free 3
 have z4 : w2.cell? ⟨w.heap.size, 4, none⟩ = some (.int .i64 0) := A2.cell 4
 have zf4 := A2.free 4
 have z5 : w2.cell? ⟨w.heap.size, 5, none⟩ = some (.bool false) := A2.cell 5
 have zf5 := A2.free 5
 go_wp2
 exact bodyPost_ret (v := .agg #[.nilFunc, .bool false, .int .i64 15, .int .i64 0, .int .i64 0, .bool false]) (by simp [results, Tryz.results68, go_sem, z0, z1, z2, z3, z4, z5]) rfl (ran_end (x := ⟨none, false, ⟨15, Vl.zero, false⟩⟩) A2 g2 rfl)
set_option maxHeartbeats 400000 in
theorem kPlainE2 {rq : Rq} {en : En} (hm : Mm w L s) (ft : s.Fit) (hc : s.c < 1000000) (rr : s.Rng) (W : H.Wid w) (z : 1 ∉ L.fp) {p q : Nat} (bp : Bx w p 48 rq.cells) (bq : Bx w q 51 en.cells) (h1 : decide (rq.fd < 0) = false) (hN : pN (s.got rq.at_) ≤ rq.fd) :
  Calls Tryz.prog 68 #[pt L.b, pt p, pt q] w fun e w' => Ran w L (⟨none, false, ⟨15, Vl.zero, false⟩⟩) (s.load rq.at_) e w' := by
 have A0 := at0 hm W z
 have cp0 : w.cell? ⟨p, 0, none⟩ = some (.int .i64 rq.op) := bp.cell 0
 have cp1 : w.cell? ⟨p, 1, none⟩ = some (.int .i64 rq.at_) := bp.cell 1
 have cp2 : w.cell? ⟨p, 2, none⟩ = some (.int .i64 rq.fd) := bp.cell 2
 have cp3 : w.cell? ⟨p, 3, none⟩ = some (.int .i64 rq.x.k) := bp.cell 3
 have cp4 : w.cell? ⟨p, 4, none⟩ = some (.int .i64 rq.x.n) := bp.cell 4
 have cp5 : w.cell? ⟨p, 5, none⟩ = some (.int .i64 rq.y.k) := bp.cell 5
 have cp6 : w.cell? ⟨p, 6, none⟩ = some (.int .i64 rq.y.n) := bp.cell 6
 have clp := bp.lt
 have hr := rr.got rq.at_
 obtain ⟨v, hv⟩ : ∃ v, s.got rq.at_ = v := ⟨_, rfl⟩
 rw [hv] at hr hN
 obtain ⟨m, hmm⟩ : ∃ m, pN v = m := ⟨_, rfl⟩
 rw [hmm] at hN
 have fh := fhead2 (pS v) (pC v) m (pM v) (pG v) (pT v) (pL v)
 have bp0 := bp.below ((Below.refl _ w).alloc (Nat.le_refl _) (.cells #[.nilFunc, .bool false, .int .i64 0, .int .i64 0, .int .i64 0, .bool false] 109))
 have bq0 := bq.below ((Below.refl _ w).alloc (Nat.le_refl _) (.cells #[.nilFunc, .bool false, .int .i64 0, .int .i64 0, .int .i64 0, .bool false] 109))
 go_enter Tryz.func68, Tryz.ntmps68
 go_upto_region 2 with (first
  | (go_at_call 34; refine (cLoad A0.mem ft hc rq.at_).mono ?_; rintro e w1 ⟨rfl, L1, hm1, st⟩; rw [hv]; have A1 := A0.step hm1 st; have g1 : Went (w.alloc (.cells #[.nilFunc, .bool false, .int .i64 0, .int .i64 0, .int .i64 0, .bool false] 109)) L w.heap.size w1 L1 := Went.of_step st _; have bp1 := bp0.step A0.mem mmM ft st; have bq1 := bq0.step A0.mem mmM ft st)
  | (go_at_call 69; refine (H.cOf v hr.1 hr.2 _ A1.wid).mono ?_; rintro e w2 ⟨rfl, hw2⟩; rw [hmm] at hw2 ⊢; have hb2 : Below w1.heap.size w1 w2 := (by rw [hw2]; go_grown); clear hw2; have A2 := A1.below hb2; have g2 := g1.trans (Went.of_below hb2 _ _); have bp2 := bp1.below hb2; have bq2 := bq1.below hb2))
 have xp0 : w2.cell? ⟨p, 0, none⟩ = some (.int .i64 rq.op) := bp2.cell 0
 have xp1 : w2.cell? ⟨p, 1, none⟩ = some (.int .i64 rq.at_) := bp2.cell 1
 have xp2 : w2.cell? ⟨p, 2, none⟩ = some (.int .i64 rq.fd) := bp2.cell 2
 have xp3 : w2.cell? ⟨p, 3, none⟩ = some (.int .i64 rq.x.k) := bp2.cell 3
 have xp4 : w2.cell? ⟨p, 4, none⟩ = some (.int .i64 rq.x.n) := bp2.cell 4
 have xp5 : w2.cell? ⟨p, 5, none⟩ = some (.int .i64 rq.y.k) := bp2.cell 5
 have xp6 : w2.cell? ⟨p, 6, none⟩ = some (.int .i64 rq.y.n) := bp2.cell 6
 have xlp := bp2.lt
 have z0 : w2.cell? ⟨w.heap.size, 0, none⟩ = some (.nilFunc) := A2.cell 0
 have zf0 := A2.free 0
 have z1 : w2.cell? ⟨w.heap.size, 1, none⟩ = some (.bool false) := A2.cell 1
 have zf1 := A2.free 1
 have z2 : w2.cell? ⟨w.heap.size, 2, none⟩ = some (.int .i64 0) := A2.cell 2
 have zf2 := A2.free 2
 have z3 : w2.cell? ⟨w.heap.size, 3, none⟩ = some (.int .i64 0) := A2.cell 3
 have zf3 := A2.free 3
 have z4 : w2.cell? ⟨w.heap.size, 4, none⟩ = some (.int .i64 0) := A2.cell 4
 have zf4 := A2.free 4
 have z5 : w2.cell? ⟨w.heap.size, 5, none⟩ = some (.bool false) := A2.cell 5
 have zf5 := A2.free 5
 have hN' : decide (m ≤ rq.fd) = true := by simpa using hN
 go_wp2
 exact bodyPost_ret (v := .agg #[.nilFunc, .bool false, .int .i64 15, .int .i64 0, .int .i64 0, .bool false]) (by simp [results, Tryz.results68, go_sem, z0, z1, z2, z3, z4, z5]) rfl (ran_end (x := ⟨none, false, ⟨15, Vl.zero, false⟩⟩) A2 g2 rfl)
set_option maxHeartbeats 400000 in
theorem kPlain0 {rq : Rq} {en : En} (hm : Mm w L s) (ft : s.Fit) (hc : s.c < 1000000) (rr : s.Rng) (W : H.Wid w) (z : 1 ∉ L.fp) {p q : Nat} (bp : Bx w p 48 rq.cells) (bq : Bx w q 51 en.cells) (h1 : decide (rq.fd < 0) = false) (hN : rq.fd < pN (s.got rq.at_)) (h3 : 0 ≤ rq.at_) (h4 : rq.at_ < 4096) (hk : firstK (rq.at_ + 1 + rq.fd) rq ⟨shadesM en.md, false, false, en.mr⟩ = none) :
  Calls Tryz.prog 68 #[pt L.b, pt p, pt q] w fun e w' => Ran w L (Sx.new (rq.at_ + 1 + rq.fd) rq ⟨shadesM en.md, false, false, en.mr⟩) (s.load rq.at_) e w' := by
 obtain ⟨sm, hsm⟩ : ∃ sm, shadesM en.md = sm := ⟨_, rfl⟩
 rw [hsm] at hk ⊢
 have A0 := at0 hm W z
 have cp0 : w.cell? ⟨p, 0, none⟩ = some (.int .i64 rq.op) := bp.cell 0
 have cp1 : w.cell? ⟨p, 1, none⟩ = some (.int .i64 rq.at_) := bp.cell 1
 have cp2 : w.cell? ⟨p, 2, none⟩ = some (.int .i64 rq.fd) := bp.cell 2
 have cp3 : w.cell? ⟨p, 3, none⟩ = some (.int .i64 rq.x.k) := bp.cell 3
 have cp4 : w.cell? ⟨p, 4, none⟩ = some (.int .i64 rq.x.n) := bp.cell 4
 have cp5 : w.cell? ⟨p, 5, none⟩ = some (.int .i64 rq.y.k) := bp.cell 5
 have cp6 : w.cell? ⟨p, 6, none⟩ = some (.int .i64 rq.y.n) := bp.cell 6
 have clp := bp.lt
 have hr := rr.got rq.at_
 obtain ⟨v, hv⟩ : ∃ v, s.got rq.at_ = v := ⟨_, rfl⟩
 rw [hv] at hr hN
 obtain ⟨m, hmm⟩ : ∃ m, pN v = m := ⟨_, rfl⟩
 rw [hmm] at hN
 have fh := fhead2 (pS v) (pC v) m (pM v) (pG v) (pT v) (pL v)
 have bp0 := bp.below ((Below.refl _ w).alloc (Nat.le_refl _) (.cells #[.nilFunc, .bool false, .int .i64 0, .int .i64 0, .int .i64 0, .bool false] 109))
 have bq0 := bq.below ((Below.refl _ w).alloc (Nat.le_refl _) (.cells #[.nilFunc, .bool false, .int .i64 0, .int .i64 0, .int .i64 0, .bool false] 109))
 go_enter Tryz.func68, Tryz.ntmps68
 go_upto_region 2 with (first
  | (go_at_call 34; refine (cLoad A0.mem ft hc rq.at_).mono ?_; rintro e w1 ⟨rfl, L1, hm1, st⟩; rw [hv]; have A1 := A0.step hm1 st; have g1 : Went (w.alloc (.cells #[.nilFunc, .bool false, .int .i64 0, .int .i64 0, .int .i64 0, .bool false] 109)) L w.heap.size w1 L1 := Went.of_step st _; have bp1 := bp0.step A0.mem mmM ft st; have bq1 := bq0.step A0.mem mmM ft st)
  | (go_at_call 69; refine (H.cOf v hr.1 hr.2 _ A1.wid).mono ?_; rintro e w2 ⟨rfl, hw2⟩; rw [hmm] at hw2 ⊢; have hb2 : Below w1.heap.size w1 w2 := (by rw [hw2]; go_grown); clear hw2; have A2 := A1.below hb2; have g2 := g1.trans (Went.of_below hb2 _ _); have bp2 := bp1.below hb2; have bq2 := bq1.below hb2))
 have xp0 : w2.cell? ⟨p, 0, none⟩ = some (.int .i64 rq.op) := bp2.cell 0
 have xp1 : w2.cell? ⟨p, 1, none⟩ = some (.int .i64 rq.at_) := bp2.cell 1
 have xp2 : w2.cell? ⟨p, 2, none⟩ = some (.int .i64 rq.fd) := bp2.cell 2
 have xp3 : w2.cell? ⟨p, 3, none⟩ = some (.int .i64 rq.x.k) := bp2.cell 3
 have xp4 : w2.cell? ⟨p, 4, none⟩ = some (.int .i64 rq.x.n) := bp2.cell 4
 have xp5 : w2.cell? ⟨p, 5, none⟩ = some (.int .i64 rq.y.k) := bp2.cell 5
 have xp6 : w2.cell? ⟨p, 6, none⟩ = some (.int .i64 rq.y.n) := bp2.cell 6
 have xlp := bp2.lt
 have hN' : decide (m ≤ rq.fd) = false := by simpa using hN
 have h5 : 0 ≤ rq.fd := by simpa using h1
 have h6 : rq.fd < 4096 := by
  have : m < 8 := (by rw [← hmm]; unfold H.Plain.pN; omega)
  omega
 go_upto_region 4 with (fail)
 have keep : ∀ w', Below w2.heap.size w2 w' → w'.cell? ⟨p, 0, none⟩ = some (.int .i64 rq.op) ∧ w'.cell? ⟨p, 1, none⟩ = some (.int .i64 rq.at_) ∧ w'.cell? ⟨p, 2, none⟩ = some (.int .i64 rq.fd) ∧ w'.cell? ⟨p, 3, none⟩ = some (.int .i64 rq.x.k) ∧ w'.cell? ⟨p, 4, none⟩ = some (.int .i64 rq.x.n) ∧ w'.cell? ⟨p, 5, none⟩ = some (.int .i64 rq.y.k) ∧ w'.cell? ⟨p, 6, none⟩ = some (.int .i64 rq.y.n) ∧ w'.cell? ⟨q, 0, none⟩ = some (.int .i64 en.md) ∧ w'.cell? ⟨q, 1, none⟩ = some (.int .i64 en.mr) ∧ w'.cell? ⟨q, 2, none⟩ = some (.int .i64 en.al) := fun w' hb => ⟨(bp2.below hb).cell 0, (bp2.below hb).cell 1, (bp2.below hb).cell 2, (bp2.below hb).cell 3, (bp2.below hb).cell 4, (bp2.below hb).cell 5, (bp2.below hb).cell 6, (bq2.below hb).cell 0, (bq2.below hb).cell 1, (bq2.below hb).cell 2⟩
 have hbd : Below w2.heap.size w2 w2.drew := (Below.refl w2.heap.size w2).drew
 have RD := keep _ hbd
 refine wp_region_noPanic ?_
 refine wp_region_held_drew (S := fun w' => w'.cell? ⟨p, 0, none⟩ = some (.int .i64 rq.op) ∧ w'.cell? ⟨p, 1, none⟩ = some (.int .i64 rq.at_) ∧ w'.cell? ⟨p, 2, none⟩ = some (.int .i64 rq.fd) ∧ w'.cell? ⟨p, 3, none⟩ = some (.int .i64 rq.x.k) ∧ w'.cell? ⟨p, 4, none⟩ = some (.int .i64 rq.x.n) ∧ w'.cell? ⟨p, 5, none⟩ = some (.int .i64 rq.y.k) ∧ w'.cell? ⟨p, 6, none⟩ = some (.int .i64 rq.y.n) ∧ w'.cell? ⟨q, 0, none⟩ = some (.int .i64 en.md) ∧ w'.cell? ⟨q, 1, none⟩ = some (.int .i64 en.mr) ∧ w'.cell? ⟨q, 2, none⟩ = some (.int .i64 en.al)) (by kernel_rfl) RD (fun hHeld => ?_)
 refine tkH (i := 0) 23 (.pointer (some ⟨p, 1, none⟩)) rfl rfl ?_
 simp only [sA1, sA2, sA3]
 refine tkH (i := 1) 24 (.int .i64 rq.at_) rfl rfl ?_
 simp only [sA1, sA2, sA3]
 refine tkH (i := 2) 25 (.agg #[.int .i64 rq.op, .int .i64 rq.at_, .int .i64 rq.fd, .int .i64 rq.x.k, .int .i64 rq.x.n, .int .i64 rq.y.k, .int .i64 rq.y.n]) rfl rfl ?_
 simp only [sA1, sA2, sA3]
 refine tkH (i := 3) 26 (pt q) rfl rfl ?_
 simp only [sA1, sA2, sA3]
 refine tkH (i := 4) 27 (.int .i64 en.md) rfl rfl ?_
 simp only [sA1, sA2, sA3]
 refine tkH (i := 6) 29 (.pointer (some ⟨q, 1, none⟩)) rfl rfl ?_
 simp only [sA1, sA2, sA3]
 refine tkH (i := 7) 30 (.int .i64 en.mr) rfl rfl ?_
 simp only [sA1, sA2, sA3]
 refine rd1 5 rfl fun K hK => ?_
 go_simp
 refine (cShades en.md _).mono ?_
 rintro e w3 ⟨rfl, hw3⟩
 rw [hw3, hsm]
 clear hw3 w3
 refine hK.out _ _ RD (fun hHeld => ?_)
 clear hK K
 try simp only [Act.put, sA1, sA2, sA3]
 refine tkH (i := 8) 31 (.agg #[.bool sm, .bool false, .bool false, .int .i64 en.mr]) rfl rfl ?_
 simp only [sA1, sA2, sA3]
 refine rd1 9 rfl fun K hK => ?_
 go_simp
 refine (cNewDirect rq.at_ rq ⟨sm, false, false, en.mr⟩ _ h3 h4 h5 h6).mono ?_
 rintro e w4 ⟨n4, rfl, M4⟩
 have hb4 := bel_trans hbd M4.bel
 obtain ⟨v4, hq4, R4⟩ := M4.blk
 have R5 : v4 = .nilFunc := (by unfold Sx.new at R4; simp only [hk] at R4; exact R4)
 subst R5
 have A4 := A2.below hb4
 have g4 := g2.trans (Went.of_below hb4 _ _)
 have y0 : w4.cell? ⟨n4, 0, none⟩ = some (.nilFunc) := cell_of_row w4 n4 0 _ _ _ hq4
 have y1 : w4.cell? ⟨n4, 1, none⟩ = some (.bool false) := cell_of_row w4 n4 1 _ _ _ hq4
 have y2 : w4.cell? ⟨n4, 2, none⟩ = some (.int .i64 0) := cell_of_row w4 n4 2 _ _ _ hq4
 have y3 : w4.cell? ⟨n4, 3, none⟩ = some (.int .i64 0) := cell_of_row w4 n4 3 _ _ _ hq4
 have y4 : w4.cell? ⟨n4, 4, none⟩ = some (.int .i64 0) := cell_of_row w4 n4 4 _ _ _ hq4
 have y5 : w4.cell? ⟨n4, 5, none⟩ = some (.bool false) := cell_of_row w4 n4 5 _ _ _ hq4
 have z0 : w4.cell? ⟨w.heap.size, 0, none⟩ = some (.nilFunc) := A4.cell 0
 have zf0 := A4.free 0
 have z1 : w4.cell? ⟨w.heap.size, 1, none⟩ = some (.bool false) := A4.cell 1
 have zf1 := A4.free 1
 have z2 : w4.cell? ⟨w.heap.size, 2, none⟩ = some (.int .i64 0) := A4.cell 2
 have zf2 := A4.free 2
 have z3 : w4.cell? ⟨w.heap.size, 3, none⟩ = some (.int .i64 0) := A4.cell 3
 have zf3 := A4.free 3
 have z4 : w4.cell? ⟨w.heap.size, 4, none⟩ = some (.int .i64 0) := A4.cell 4
 have zf4 := A4.free 4
 have z5 : w4.cell? ⟨w.heap.size, 5, none⟩ = some (.bool false) := A4.cell 5
 have zf5 := A4.free 5
 refine hK.out _ _ (keep _ hb4) (fun hHeld => ?_)
 clear hK K
 try simp only [Act.put, sA1, sA2, sA3]
 refine tkH (i := 10) 33 (pt n4) rfl rfl ?_
 simp only [sA1, sA2, sA3]
 refine tkH (i := 11) 34 (pt n4) rfl rfl ?_
 simp only [sA1, sA2, sA3]
 refine rd1 12 rfl fun K hK => ?_
 go_simp
 refine hK.out _ _ (keep _ hb4) (fun hHeld => ?_)
 clear hK K
 try simp only [Act.put, sA1, sA2, sA3]
 refine rd1 13 rfl fun K hK => ?_
 go_simp
 refine hK.out _ _ ⟨((bp2.below hb4).put6 A4 _ _ _ _ _ _).cell 0, ((bp2.below hb4).put6 A4 _ _ _ _ _ _).cell 1, ((bp2.below hb4).put6 A4 _ _ _ _ _ _).cell 2, ((bp2.below hb4).put6 A4 _ _ _ _ _ _).cell 3, ((bp2.below hb4).put6 A4 _ _ _ _ _ _).cell 4, ((bp2.below hb4).put6 A4 _ _ _ _ _ _).cell 5, ((bp2.below hb4).put6 A4 _ _ _ _ _ _).cell 6, ((bq2.below hb4).put6 A4 _ _ _ _ _ _).cell 0, ((bq2.below hb4).put6 A4 _ _ _ _ _ _).cell 1, ((bq2.below hb4).put6 A4 _ _ _ _ _ _).cell 2⟩ (fun hHeld => ?_)
 clear hK K
 try simp only [Act.put, sA1, sA2, sA3]
 refine wpAnyH_done (by kernel_rfl) ?_ _
 refine NoPanic.normal ?_
 go_wp2
 exact bodyPost_ret (v := .agg #[.nilFunc, .bool false, .int .i64 0, .int .i64 0, .int .i64 0, .bool false]) (by simp [results, Tryz.results68, go_sem, z0, z1, z2, z3, z4, z5]) rfl (ran_end (x := Sx.new (rq.at_ + 1 + rq.fd) rq ⟨sm, false, false, en.mr⟩) A4 g4 R4)
set_option maxHeartbeats 400000 in
theorem kPlain1 {rq : Rq} {en : En} {k : K} (hm : Mm w L s) (ft : s.Fit) (hc : s.c < 1000000) (rr : s.Rng) (W : H.Wid w) (z : 1 ∉ L.fp) {p q : Nat} (bp : Bx w p 48 rq.cells) (bq : Bx w q 51 en.cells) (h1 : decide (rq.fd < 0) = false) (hN : rq.fd < pN (s.got rq.at_)) (h3 : 0 ≤ rq.at_) (h4 : rq.at_ < 4096) (hk : firstK (rq.at_ + 1 + rq.fd) rq ⟨shadesM en.md, false, false, en.mr⟩ = some k) :
  Calls Tryz.prog 68 #[pt L.b, pt p, pt q] w fun e w' => Ran w L (Sx.new (rq.at_ + 1 + rq.fd) rq ⟨shadesM en.md, false, false, en.mr⟩) (s.load rq.at_) e w' := by
 obtain ⟨sm, hsm⟩ : ∃ sm, shadesM en.md = sm := ⟨_, rfl⟩
 rw [hsm] at hk ⊢
 have A0 := at0 hm W z
 have cp0 : w.cell? ⟨p, 0, none⟩ = some (.int .i64 rq.op) := bp.cell 0
 have cp1 : w.cell? ⟨p, 1, none⟩ = some (.int .i64 rq.at_) := bp.cell 1
 have cp2 : w.cell? ⟨p, 2, none⟩ = some (.int .i64 rq.fd) := bp.cell 2
 have cp3 : w.cell? ⟨p, 3, none⟩ = some (.int .i64 rq.x.k) := bp.cell 3
 have cp4 : w.cell? ⟨p, 4, none⟩ = some (.int .i64 rq.x.n) := bp.cell 4
 have cp5 : w.cell? ⟨p, 5, none⟩ = some (.int .i64 rq.y.k) := bp.cell 5
 have cp6 : w.cell? ⟨p, 6, none⟩ = some (.int .i64 rq.y.n) := bp.cell 6
 have clp := bp.lt
 have hr := rr.got rq.at_
 obtain ⟨v, hv⟩ : ∃ v, s.got rq.at_ = v := ⟨_, rfl⟩
 rw [hv] at hr hN
 obtain ⟨m, hmm⟩ : ∃ m, pN v = m := ⟨_, rfl⟩
 rw [hmm] at hN
 have fh := fhead2 (pS v) (pC v) m (pM v) (pG v) (pT v) (pL v)
 have bp0 := bp.below ((Below.refl _ w).alloc (Nat.le_refl _) (.cells #[.nilFunc, .bool false, .int .i64 0, .int .i64 0, .int .i64 0, .bool false] 109))
 have bq0 := bq.below ((Below.refl _ w).alloc (Nat.le_refl _) (.cells #[.nilFunc, .bool false, .int .i64 0, .int .i64 0, .int .i64 0, .bool false] 109))
 go_enter Tryz.func68, Tryz.ntmps68
 go_upto_region 2 with (first
  | (go_at_call 34; refine (cLoad A0.mem ft hc rq.at_).mono ?_; rintro e w1 ⟨rfl, L1, hm1, st⟩; rw [hv]; have A1 := A0.step hm1 st; have g1 : Went (w.alloc (.cells #[.nilFunc, .bool false, .int .i64 0, .int .i64 0, .int .i64 0, .bool false] 109)) L w.heap.size w1 L1 := Went.of_step st _; have bp1 := bp0.step A0.mem mmM ft st; have bq1 := bq0.step A0.mem mmM ft st)
  | (go_at_call 69; refine (H.cOf v hr.1 hr.2 _ A1.wid).mono ?_; rintro e w2 ⟨rfl, hw2⟩; rw [hmm] at hw2 ⊢; have hb2 : Below w1.heap.size w1 w2 := (by rw [hw2]; go_grown); clear hw2; have A2 := A1.below hb2; have g2 := g1.trans (Went.of_below hb2 _ _); have bp2 := bp1.below hb2; have bq2 := bq1.below hb2))
 have xp0 : w2.cell? ⟨p, 0, none⟩ = some (.int .i64 rq.op) := bp2.cell 0
 have xp1 : w2.cell? ⟨p, 1, none⟩ = some (.int .i64 rq.at_) := bp2.cell 1
 have xp2 : w2.cell? ⟨p, 2, none⟩ = some (.int .i64 rq.fd) := bp2.cell 2
 have xp3 : w2.cell? ⟨p, 3, none⟩ = some (.int .i64 rq.x.k) := bp2.cell 3
 have xp4 : w2.cell? ⟨p, 4, none⟩ = some (.int .i64 rq.x.n) := bp2.cell 4
 have xp5 : w2.cell? ⟨p, 5, none⟩ = some (.int .i64 rq.y.k) := bp2.cell 5
 have xp6 : w2.cell? ⟨p, 6, none⟩ = some (.int .i64 rq.y.n) := bp2.cell 6
 have xlp := bp2.lt
 have hN' : decide (m ≤ rq.fd) = false := by simpa using hN
 have h5 : 0 ≤ rq.fd := by simpa using h1
 have h6 : rq.fd < 4096 := by
  have : m < 8 := (by rw [← hmm]; unfold H.Plain.pN; omega)
  omega
 go_upto_region 4 with (fail)
 have keep : ∀ w', Below w2.heap.size w2 w' → w'.cell? ⟨p, 0, none⟩ = some (.int .i64 rq.op) ∧ w'.cell? ⟨p, 1, none⟩ = some (.int .i64 rq.at_) ∧ w'.cell? ⟨p, 2, none⟩ = some (.int .i64 rq.fd) ∧ w'.cell? ⟨p, 3, none⟩ = some (.int .i64 rq.x.k) ∧ w'.cell? ⟨p, 4, none⟩ = some (.int .i64 rq.x.n) ∧ w'.cell? ⟨p, 5, none⟩ = some (.int .i64 rq.y.k) ∧ w'.cell? ⟨p, 6, none⟩ = some (.int .i64 rq.y.n) ∧ w'.cell? ⟨q, 0, none⟩ = some (.int .i64 en.md) ∧ w'.cell? ⟨q, 1, none⟩ = some (.int .i64 en.mr) ∧ w'.cell? ⟨q, 2, none⟩ = some (.int .i64 en.al) := fun w' hb => ⟨(bp2.below hb).cell 0, (bp2.below hb).cell 1, (bp2.below hb).cell 2, (bp2.below hb).cell 3, (bp2.below hb).cell 4, (bp2.below hb).cell 5, (bp2.below hb).cell 6, (bq2.below hb).cell 0, (bq2.below hb).cell 1, (bq2.below hb).cell 2⟩
 have hbd : Below w2.heap.size w2 w2.drew := (Below.refl w2.heap.size w2).drew
 have RD := keep _ hbd
 refine wp_region_noPanic ?_
 refine wp_region_held_drew (S := fun w' => w'.cell? ⟨p, 0, none⟩ = some (.int .i64 rq.op) ∧ w'.cell? ⟨p, 1, none⟩ = some (.int .i64 rq.at_) ∧ w'.cell? ⟨p, 2, none⟩ = some (.int .i64 rq.fd) ∧ w'.cell? ⟨p, 3, none⟩ = some (.int .i64 rq.x.k) ∧ w'.cell? ⟨p, 4, none⟩ = some (.int .i64 rq.x.n) ∧ w'.cell? ⟨p, 5, none⟩ = some (.int .i64 rq.y.k) ∧ w'.cell? ⟨p, 6, none⟩ = some (.int .i64 rq.y.n) ∧ w'.cell? ⟨q, 0, none⟩ = some (.int .i64 en.md) ∧ w'.cell? ⟨q, 1, none⟩ = some (.int .i64 en.mr) ∧ w'.cell? ⟨q, 2, none⟩ = some (.int .i64 en.al)) (by kernel_rfl) RD (fun hHeld => ?_)
 refine tkH (i := 0) 23 (.pointer (some ⟨p, 1, none⟩)) rfl rfl ?_
 simp only [sA1, sA2, sA3]
 refine tkH (i := 1) 24 (.int .i64 rq.at_) rfl rfl ?_
 simp only [sA1, sA2, sA3]
 refine tkH (i := 2) 25 (.agg #[.int .i64 rq.op, .int .i64 rq.at_, .int .i64 rq.fd, .int .i64 rq.x.k, .int .i64 rq.x.n, .int .i64 rq.y.k, .int .i64 rq.y.n]) rfl rfl ?_
 simp only [sA1, sA2, sA3]
 refine tkH (i := 3) 26 (pt q) rfl rfl ?_
 simp only [sA1, sA2, sA3]
 refine tkH (i := 4) 27 (.int .i64 en.md) rfl rfl ?_
 simp only [sA1, sA2, sA3]
 refine tkH (i := 6) 29 (.pointer (some ⟨q, 1, none⟩)) rfl rfl ?_
 simp only [sA1, sA2, sA3]
 refine tkH (i := 7) 30 (.int .i64 en.mr) rfl rfl ?_
 simp only [sA1, sA2, sA3]
 refine rd1 5 rfl fun K hK => ?_
 go_simp
 refine (cShades en.md _).mono ?_
 rintro e w3 ⟨rfl, hw3⟩
 rw [hw3, hsm]
 clear hw3 w3
 refine hK.out _ _ RD (fun hHeld => ?_)
 clear hK K
 try simp only [Act.put, sA1, sA2, sA3]
 refine tkH (i := 8) 31 (.agg #[.bool sm, .bool false, .bool false, .int .i64 en.mr]) rfl rfl ?_
 simp only [sA1, sA2, sA3]
 refine rd1 9 rfl fun K hK => ?_
 go_simp
 refine (cNewDirect rq.at_ rq ⟨sm, false, false, en.mr⟩ _ h3 h4 h5 h6).mono ?_
 rintro e w4 ⟨n4, rfl, M4⟩
 have hb4 := bel_trans hbd M4.bel
 obtain ⟨v4, hq4, R4⟩ := M4.blk
 obtain ⟨nf, cf, rfl⟩ : ∃ nf cf, v4 = .func (.func nf) #[] cf := (by unfold Sx.new at R4; simp only [hk] at R4; exact Rep.fn R4)
 have A4 := A2.below hb4
 have g4 := g2.trans (Went.of_below hb4 _ _)
 have y0 : w4.cell? ⟨n4, 0, none⟩ = some (.func (.func nf) #[] cf) := cell_of_row w4 n4 0 _ _ _ hq4
 have y1 : w4.cell? ⟨n4, 1, none⟩ = some (.bool false) := cell_of_row w4 n4 1 _ _ _ hq4
 have y2 : w4.cell? ⟨n4, 2, none⟩ = some (.int .i64 0) := cell_of_row w4 n4 2 _ _ _ hq4
 have y3 : w4.cell? ⟨n4, 3, none⟩ = some (.int .i64 0) := cell_of_row w4 n4 3 _ _ _ hq4
 have y4 : w4.cell? ⟨n4, 4, none⟩ = some (.int .i64 0) := cell_of_row w4 n4 4 _ _ _ hq4
 have y5 : w4.cell? ⟨n4, 5, none⟩ = some (.bool false) := cell_of_row w4 n4 5 _ _ _ hq4
 have z0 : w4.cell? ⟨w.heap.size, 0, none⟩ = some (.nilFunc) := A4.cell 0
 have zf0 := A4.free 0
 have z1 : w4.cell? ⟨w.heap.size, 1, none⟩ = some (.bool false) := A4.cell 1
 have zf1 := A4.free 1
 have z2 : w4.cell? ⟨w.heap.size, 2, none⟩ = some (.int .i64 0) := A4.cell 2
 have zf2 := A4.free 2
 have z3 : w4.cell? ⟨w.heap.size, 3, none⟩ = some (.int .i64 0) := A4.cell 3
 have zf3 := A4.free 3
 have z4 : w4.cell? ⟨w.heap.size, 4, none⟩ = some (.int .i64 0) := A4.cell 4
 have zf4 := A4.free 4
 have z5 : w4.cell? ⟨w.heap.size, 5, none⟩ = some (.bool false) := A4.cell 5
 have zf5 := A4.free 5
 refine hK.out _ _ (keep _ hb4) (fun hHeld => ?_)
 clear hK K
 try simp only [Act.put, sA1, sA2, sA3]
 refine tkH (i := 10) 33 (pt n4) rfl rfl ?_
 simp only [sA1, sA2, sA3]
 refine tkH (i := 11) 34 (pt n4) rfl rfl ?_
 simp only [sA1, sA2, sA3]
 refine rd1 12 rfl fun K hK => ?_
 go_simp
 refine hK.out _ _ (keep _ hb4) (fun hHeld => ?_)
 clear hK K
 try simp only [Act.put, sA1, sA2, sA3]
 refine rd1 13 rfl fun K hK => ?_
 go_simp
 refine hK.out _ _ ⟨((bp2.below hb4).put6 A4 _ _ _ _ _ _).cell 0, ((bp2.below hb4).put6 A4 _ _ _ _ _ _).cell 1, ((bp2.below hb4).put6 A4 _ _ _ _ _ _).cell 2, ((bp2.below hb4).put6 A4 _ _ _ _ _ _).cell 3, ((bp2.below hb4).put6 A4 _ _ _ _ _ _).cell 4, ((bp2.below hb4).put6 A4 _ _ _ _ _ _).cell 5, ((bp2.below hb4).put6 A4 _ _ _ _ _ _).cell 6, ((bq2.below hb4).put6 A4 _ _ _ _ _ _).cell 0, ((bq2.below hb4).put6 A4 _ _ _ _ _ _).cell 1, ((bq2.below hb4).put6 A4 _ _ _ _ _ _).cell 2⟩ (fun hHeld => ?_)
 clear hK K
 try simp only [Act.put, sA1, sA2, sA3]
 refine wpAnyH_done (by kernel_rfl) ?_ _
 refine NoPanic.normal ?_
 go_wp2
 exact bodyPost_ret (v := .agg #[.func (.func nf) #[] cf, .bool false, .int .i64 0, .int .i64 0, .int .i64 0, .bool false]) (by simp [results, Tryz.results68, go_sem, z0, z1, z2, z3, z4, z5]) rfl (ran_end (x := Sx.new (rq.at_ + 1 + rq.fd) rq ⟨sm, false, false, en.mr⟩) A4 g4 R4)
end
end Go.Proofs.YtpcoldpphihfmaaGreatDoor
namespace Go.Proofs.YtpcoldpphihfmaaGreatDoor
set_option linter.unusedVariables false
set_option maxRecDepth 100000
open Go.ChangeShapes Go.WideShapes Go.RowKit
open H.Plain (hw pS pC pN pM pG pT pL mv)
section
variable {w : World} {L : Loc} {s : St}
set_option maxHeartbeats 1000000 in
theorem kSwapE {f : Int} {rq : Rq} {h : Hw} (hm : Mm w L s) (ft : s.Fit) (hc : s.c < 1000000) (rr : s.Rng) (W : H.Wid w) (z : 1 ∉ L.fp) {p q t : Nat} (bp : Bx w p 3 #[.int .i64 f]) (bq : Bx w q 102 h.cells) (bt : Bx w t 48 rq.cells) (he : Vl.of (s.got f) = rq.x) :
  Calls Tryz.prog 118 #[pt L.b, pt p, pt q, pt t] w fun e w' => Ran w L (⟨some (behind f (s.got f) rq h), true, Ou.zero⟩) (s.load f) e w' := by
 have A0 := at0 hm W z
 have cp0 : w.cell? ⟨p, 0, none⟩ = some (.int .i64 f) := bp.cell 0
 have clp := bp.lt
 have hr := rr.got f
 obtain ⟨v, hv⟩ : ∃ v, s.got f = v := ⟨_, rfl⟩
 rw [hv] at hr
 obtain ⟨u, hu⟩ : ∃ u, Vl.of v = u := ⟨_, rfl⟩
 have hk : F.Plain.kind v = u.k := by rw [← hu]; rfl
 have hn : F.Plain.num v = u.n := by rw [← hu]; rfl
 have bp0 := bp.below ((Below.refl _ w).alloc (Nat.le_refl _) (.cells #[.nilFunc, .bool false, .int .i64 0, .int .i64 0, .int .i64 0, .bool false] 109))
 have bq0 := bq.below ((Below.refl _ w).alloc (Nat.le_refl _) (.cells #[.nilFunc, .bool false, .int .i64 0, .int .i64 0, .int .i64 0, .bool false] 109))
 have bt0 := bt.below ((Below.refl _ w).alloc (Nat.le_refl _) (.cells #[.nilFunc, .bool false, .int .i64 0, .int .i64 0, .int .i64 0, .bool false] 109))
 rw [hv, hu] at he
 have heq := eqVal_t he
 clear he
 have hbe : behind f v rq h = shadeK u h (shadeK rq.y h (.exch f v rq h)) := by rw [← hu]; rfl
 rw [hv, hbe]
 go_enter Tryz.func118, Tryz.ntmps118
 go_upto_region 3 with (first
  | (go_at_call 34; refine (cLoad A0.mem ft hc f).mono ?_; rintro e w1 ⟨rfl, L1, hm1, st⟩; rw [hv]; have A1 := A0.step hm1 st; have g1 : Went (w.alloc (.cells #[.nilFunc, .bool false, .int .i64 0, .int .i64 0, .int .i64 0, .bool false] 109)) L w.heap.size w1 L1 := Went.of_step st _; have bp1 := bp0.step A0.mem mmM ft st; have bq1 := bq0.step A0.mem mmM ft st; have bt1 := bt0.step A0.mem mmM ft st)
  | (go_at_call 97; refine (F.cOf v hr.1 hr.2 _).mono ?_; rintro e w2 ⟨rfl, hw2⟩; rw [hk, hn] at hw2 ⊢; have hb2 : Below w1.heap.size w1 w2 := (by rw [hw2]; go_grown); clear hw2; have A2 := A1.below hb2; have g2 := g1.trans (Went.of_below hb2 _ _); have bp2 := bp1.below hb2; have bq2 := bq1.below hb2; have bt2 := bt1.below hb2))
 have A3 := A2.alloc (.cells #[.int .i64 u.k, .int .i64 u.n] 38)
 have g3 := g2.trans (Went.of_below ((Below.refl _ w2).alloc (Nat.le_refl _) (.cells #[.int .i64 u.k, .int .i64 u.n] 38)) _ _)
 have bv3 : Bx (w2.alloc (.cells #[.int .i64 u.k, .int .i64 u.n] 38)) w2.heap.size 38 #[.int .i64 u.k, .int .i64 u.n] := ⟨heap_alloc_new _ _, by decide, fun h => absurd h (by decide)⟩
 have bp3 := bp2.below ((Below.refl _ w2).alloc (Nat.le_refl _) (.cells #[.int .i64 u.k, .int .i64 u.n] 38))
 have bq3 := bq2.below ((Below.refl _ w2).alloc (Nat.le_refl _) (.cells #[.int .i64 u.k, .int .i64 u.n] 38))
 have bt3 := bt2.below ((Below.refl _ w2).alloc (Nat.le_refl _) (.cells #[.int .i64 u.k, .int .i64 u.n] 38))
 generalize hw3 : w2.alloc (.cells #[.int .i64 u.k, .int .i64 u.n] 38) = w3 at A3 g3 bv3 bp3 bq3 bt3 ⊢
 clear hw3
 generalize w2.heap.size = nb at bv3 ⊢
 have bnb3 := bv3
 have keep : ∀ w', Below w3.heap.size w3 w' → w'.cell? ⟨nb, 0, none⟩ = some (.int .i64 u.k) ∧ w'.cell? ⟨nb, 1, none⟩ = some (.int .i64 u.n) ∧ w'.cell? ⟨q, 0, none⟩ = some (.bool h.sh) ∧ w'.cell? ⟨q, 1, none⟩ = some (.bool h.ca) ∧ w'.cell? ⟨q, 2, none⟩ = some (.bool h.fx) ∧ w'.cell? ⟨q, 3, none⟩ = some (.int .i64 h.mr) ∧ w'.cell? ⟨t, 0, none⟩ = some (.int .i64 rq.op) ∧ w'.cell? ⟨t, 1, none⟩ = some (.int .i64 rq.at_) ∧ w'.cell? ⟨t, 2, none⟩ = some (.int .i64 rq.fd) ∧ w'.cell? ⟨t, 3, none⟩ = some (.int .i64 rq.x.k) ∧ w'.cell? ⟨t, 4, none⟩ = some (.int .i64 rq.x.n) ∧ w'.cell? ⟨t, 5, none⟩ = some (.int .i64 rq.y.k) ∧ w'.cell? ⟨t, 6, none⟩ = some (.int .i64 rq.y.n) ∧ w'.cell? ⟨p, 0, none⟩ = some (.int .i64 f) := fun w' hb => ⟨(bnb3.below hb).cell 0, (bnb3.below hb).cell 1, (bq3.below hb).cell 0, (bq3.below hb).cell 1, (bq3.below hb).cell 2, (bq3.below hb).cell 3, (bt3.below hb).cell 0, (bt3.below hb).cell 1, (bt3.below hb).cell 2, (bt3.below hb).cell 3, (bt3.below hb).cell 4, (bt3.below hb).cell 5, (bt3.below hb).cell 6, (bp3.below hb).cell 0⟩
 have hbd : Below w3.heap.size w3 w3.drew := (Below.refl w3.heap.size w3).drew
 have RD := keep _ hbd
 refine wp_region_noPanic ?_
 refine wp_region_held_drew (S := fun w' => w'.cell? ⟨nb, 0, none⟩ = some (.int .i64 u.k) ∧ w'.cell? ⟨nb, 1, none⟩ = some (.int .i64 u.n) ∧ w'.cell? ⟨q, 0, none⟩ = some (.bool h.sh) ∧ w'.cell? ⟨q, 1, none⟩ = some (.bool h.ca) ∧ w'.cell? ⟨q, 2, none⟩ = some (.bool h.fx) ∧ w'.cell? ⟨q, 3, none⟩ = some (.int .i64 h.mr) ∧ w'.cell? ⟨t, 0, none⟩ = some (.int .i64 rq.op) ∧ w'.cell? ⟨t, 1, none⟩ = some (.int .i64 rq.at_) ∧ w'.cell? ⟨t, 2, none⟩ = some (.int .i64 rq.fd) ∧ w'.cell? ⟨t, 3, none⟩ = some (.int .i64 rq.x.k) ∧ w'.cell? ⟨t, 4, none⟩ = some (.int .i64 rq.x.n) ∧ w'.cell? ⟨t, 5, none⟩ = some (.int .i64 rq.y.k) ∧ w'.cell? ⟨t, 6, none⟩ = some (.int .i64 rq.y.n) ∧ w'.cell? ⟨p, 0, none⟩ = some (.int .i64 f)) (by kernel_rfl) RD (fun hHeld => ?_)
 refine tkH (i := 0) 14 (.agg #[.int .i64 u.k, .int .i64 u.n]) rfl rfl ?_
 simp only [sA1, sA2, sA3]
 refine tkH (i := 1) 15 (.agg #[.bool h.sh, .bool h.ca, .bool h.fx, .int .i64 h.mr]) rfl rfl ?_
 simp only [sA1, sA2, sA3]
 refine tkH (i := 2) 16 (.pointer (some ⟨t, 5, none⟩)) rfl rfl ?_
 simp only [sA1, sA2, sA3]
 refine tkH (i := 3) 17 (.agg #[.int .i64 rq.y.k, .int .i64 rq.y.n]) rfl rfl ?_
 simp only [sA1, sA2, sA3]
 refine tkH (i := 4) 18 (.agg #[.bool h.sh, .bool h.ca, .bool h.fx, .int .i64 h.mr]) rfl rfl ?_
 simp only [sA1, sA2, sA3]
 refine tkH (i := 5) 19 (.int .i64 f) rfl rfl ?_
 simp only [sA1, sA2, sA3]
 refine tkH (i := 6) 20 (.int .u64 v) rfl rfl ?_
 simp only [sA1, sA2, sA3]
 refine tkH (i := 7) 21 (.agg #[.int .i64 rq.op, .int .i64 rq.at_, .int .i64 rq.fd, .int .i64 rq.x.k, .int .i64 rq.x.n, .int .i64 rq.y.k, .int .i64 rq.y.n]) rfl rfl ?_
 simp only [sA1, sA2, sA3]
 refine tkH (i := 8) 22 (.agg #[.bool h.sh, .bool h.ca, .bool h.fx, .int .i64 h.mr]) rfl rfl ?_
 simp only [sA1, sA2, sA3]
 refine rd2 9 12 rfl rfl (fun K hK => ?_) (fun K hK => ?_)
 ·go_simp
  refine (cExchange f v rq h w3.drew).mono ?_
  rintro e w4 ⟨vw4, rfl, R4, hbw4⟩
  have hcw4 := bel_trans hbd hbw4
  obtain ⟨nw4, cw4, hvw4⟩ := R4.fn
  rw [hvw4] at R4 ⊢
  clear hvw4
  refine hK.out _ _ (keep _ hcw4) (fun hHeld => ?_)
  clear hK K
  try simp only [Act.put, sA1, sA2, sA3]
  refine rd2 10 12 rfl rfl (fun K hK => ?_) (fun K hK => ?_)
  ·go_simp
   refine (cShade' rq.y h (.exch f v rq h) _ w4 R4).mono ?_
   rintro e w5 ⟨vw5, rfl, R5, hbw5⟩
   have hcw5 := bel_trans hcw4 hbw5
   obtain ⟨nw5, cw5, hvw5⟩ := R5.fn
   rw [hvw5] at R5 ⊢
   clear hvw5
   refine hK.out _ _ (keep _ hcw5) (fun hHeld => ?_)
   clear hK K
   try simp only [Act.put, sA1, sA2, sA3]
   refine rd2 11 12 rfl rfl (fun K hK => ?_) (fun K hK => ?_)
   ·go_simp
    refine (cShade' u h (shadeK rq.y h (.exch f v rq h)) _ w5 R5).mono ?_
    rintro e w6 ⟨vw6, rfl, R6, hbw6⟩
    have hcw6 := bel_trans hcw5 hbw6
    obtain ⟨nw6, cw6, hvw6⟩ := R6.fn
    rw [hvw6] at R6 ⊢
    clear hvw6
    refine hK.out _ _ (keep _ hcw6) (fun hHeld => ?_)
    clear hK K
    try simp only [Act.put, sA1, sA2, sA3]
    refine rd1 12 rfl fun K hK => ?_
    go_simp
    refine hK.out _ _ (keep _ (hcw6.alloc (by have := hcw6.size; omega) (.cells #[.nilFunc] 107))) (fun hHeld => ?_)
    clear hK K
    try simp only [Act.put, sA1, sA2, sA3]
    have hbx : Below w3.heap.size w3 (w6.alloc (.cells #[.nilFunc] 107)) := hcw6.alloc (by have := hcw6.size; omega) (.cells #[.nilFunc] 107)
    have b8 : (w6.alloc (.cells #[.nilFunc] 107)).heap[w6.heap.size]? = some (.cells emp 107 (0, 0)) := heap_alloc_new _ _
    have ge8 : w3.heap.size ≤ w6.heap.size := hcw6.size
    have Rx := R6.below ((Below.refl _ w6).alloc (Nat.le_refl _) (.cells #[.nilFunc] 107))
    generalize w6.alloc (.cells #[.nilFunc] 107) = wx at hbx b8 Rx ⊢
    generalize w6.heap.size = n8 at b8 ge8 ⊢
    have d8 : wx.cell? ⟨n8, 0, none⟩ = some .nilFunc := cell_of_row wx n8 0 _ _ _ b8
    have f8 : wx.frozen? ⟨n8, 0, none⟩ = false := frozen_of_row wx _ _ _ _ b8
    refine rd1 13 rfl fun K hK => ?_
    go_simp
    refine hK.out _ _ (keep _ (hbx.setCell ge8 _)) (fun hHeld => ?_)
    clear hK K
    try simp only [Act.put, sA1, sA2, sA3]
    refine wpAnyH_done (by kernel_rfl) ?_ _
    refine NoPanic.normal ?_
    have hbz : Below w3.heap.size w3 (wx.setCell ⟨n8, 0, none⟩ (.func (.func nw6) #[] cw6)) := hbx.setCell ge8 _
    have bz : Bx (wx.setCell ⟨n8, 0, none⟩ (.func (.func nw6) #[] cw6)) n8 107 #[.func (.func nw6) #[] cw6] := ⟨Go.Joins.block_setCell b8 _, by decide, fun h => absurd h (by decide)⟩
    have Rz := Rx.fill b8 (.func (.func nw6) #[] cw6)
    generalize wx.setCell ⟨n8, 0, none⟩ (.func (.func nw6) #[] cw6) = wz at hbz bz Rz ⊢
    have A6 := A3.below hbz
    have g6 := g3.trans (Went.of_below hbz _ _)
    have bnb6 := bnb3.below hbz
    have bq6 := bq3.below hbz
    have bt6 := bt3.below hbz
    have bp6 := bp3.below hbz
    have ynb0 : wz.cell? ⟨nb, 0, none⟩ = some (.int .i64 u.k) := bnb6.cell 0
    have ynb1 : wz.cell? ⟨nb, 1, none⟩ = some (.int .i64 u.n) := bnb6.cell 1
    have ylnb := bnb6.lt
    have yq0 : wz.cell? ⟨q, 0, none⟩ = some (.bool h.sh) := bq6.cell 0
    have yq1 : wz.cell? ⟨q, 1, none⟩ = some (.bool h.ca) := bq6.cell 1
    have yq2 : wz.cell? ⟨q, 2, none⟩ = some (.bool h.fx) := bq6.cell 2
    have yq3 : wz.cell? ⟨q, 3, none⟩ = some (.int .i64 h.mr) := bq6.cell 3
    have ylq := bq6.lt
    have yt0 : wz.cell? ⟨t, 0, none⟩ = some (.int .i64 rq.op) := bt6.cell 0
    have yt1 : wz.cell? ⟨t, 1, none⟩ = some (.int .i64 rq.at_) := bt6.cell 1
    have yt2 : wz.cell? ⟨t, 2, none⟩ = some (.int .i64 rq.fd) := bt6.cell 2
    have yt3 : wz.cell? ⟨t, 3, none⟩ = some (.int .i64 rq.x.k) := bt6.cell 3
    have yt4 : wz.cell? ⟨t, 4, none⟩ = some (.int .i64 rq.x.n) := bt6.cell 4
    have yt5 : wz.cell? ⟨t, 5, none⟩ = some (.int .i64 rq.y.k) := bt6.cell 5
    have yt6 : wz.cell? ⟨t, 6, none⟩ = some (.int .i64 rq.y.n) := bt6.cell 6
    have ylt := bt6.lt
    have yp0 : wz.cell? ⟨p, 0, none⟩ = some (.int .i64 f) := bp6.cell 0
    have ylp := bp6.lt
    have yz : wz.cell? ⟨n8, 0, none⟩ = some (.func (.func nw6) #[] cw6) := bz.cell 0
    have ylz := bz.lt
    clear keep RD hHeld
    have z0 : wz.cell? ⟨w.heap.size, 0, none⟩ = some (.nilFunc) := A6.cell 0
    have zf0 := A6.free 0
    have z1 : wz.cell? ⟨w.heap.size, 1, none⟩ = some (.bool false) := A6.cell 1
    have zf1 := A6.free 1
    have z2 : wz.cell? ⟨w.heap.size, 2, none⟩ = some (.int .i64 0) := A6.cell 2
    have zf2 := A6.free 2
    have z3 : wz.cell? ⟨w.heap.size, 3, none⟩ = some (.int .i64 0) := A6.cell 3
    have zf3 := A6.free 3
    have z4 : wz.cell? ⟨w.heap.size, 4, none⟩ = some (.int .i64 0) := A6.cell 4
    have zf4 := A6.free 4
    have z5 : wz.cell? ⟨w.heap.size, 5, none⟩ = some (.bool false) := A6.cell 5
    have zf5 := A6.free 5
    go_wp2
    exact bodyPost_ret (v := .agg #[.func (.func nw6) #[] cw6, .bool true, .int .i64 0, .int .i64 0, .int .i64 0, .bool false]) (by simp [results, Tryz.results118, go_sem, z0, z1, z2, z3, z4, z5]) rfl (ran_end (x := ⟨some (shadeK u h (shadeK rq.y h (.exch f v rq h))), true, Ou.zero⟩) A6 g6 Rz)
   ·go_simp
    refine hK.out _ _ (keep _ (hcw5.alloc (by have := hcw5.size; omega) (.cells #[.nilFunc] 107))) (fun hHeld => ?_)
    clear hK K
    try simp only [Act.put, sA1, sA2, sA3]
    have hbx : Below w3.heap.size w3 (w5.alloc (.cells #[.nilFunc] 107)) := hcw5.alloc (by have := hcw5.size; omega) (.cells #[.nilFunc] 107)
    have b8 : (w5.alloc (.cells #[.nilFunc] 107)).heap[w5.heap.size]? = some (.cells emp 107 (0, 0)) := heap_alloc_new _ _
    have ge8 : w3.heap.size ≤ w5.heap.size := hcw5.size
    have Rx := R5.below ((Below.refl _ w5).alloc (Nat.le_refl _) (.cells #[.nilFunc] 107))
    generalize w5.alloc (.cells #[.nilFunc] 107) = wx at hbx b8 Rx ⊢
    generalize w5.heap.size = n8 at b8 ge8 ⊢
    refine rd1 11 rfl fun K hK => ?_
    go_simp
    refine (cShade' u h (shadeK rq.y h (.exch f v rq h)) _ wx Rx).mono ?_
    rintro e w6 ⟨vw6, rfl, R6, hbw6⟩
    have hcw6 := bel_trans hbx hbw6
    obtain ⟨nw6, cw6, hvw6⟩ := R6.fn
    rw [hvw6] at R6 ⊢
    clear hvw6
    have b8 := (hbw6.block n8 (lt_of_block b8)).trans b8
    refine hK.out _ _ (keep _ hcw6) (fun hHeld => ?_)
    clear hK K
    try simp only [Act.put, sA1, sA2, sA3]
    have d8 : w6.cell? ⟨n8, 0, none⟩ = some .nilFunc := cell_of_row w6 n8 0 _ _ _ b8
    have f8 : w6.frozen? ⟨n8, 0, none⟩ = false := frozen_of_row w6 _ _ _ _ b8
    refine rd1 13 rfl fun K hK => ?_
    go_simp
    refine hK.out _ _ (keep _ (hcw6.setCell ge8 _)) (fun hHeld => ?_)
    clear hK K
    try simp only [Act.put, sA1, sA2, sA3]
    refine wpAnyH_done (by kernel_rfl) ?_ _
    refine NoPanic.normal ?_
    have hbz : Below w3.heap.size w3 (w6.setCell ⟨n8, 0, none⟩ (.func (.func nw6) #[] cw6)) := hcw6.setCell ge8 _
    have bz : Bx (w6.setCell ⟨n8, 0, none⟩ (.func (.func nw6) #[] cw6)) n8 107 #[.func (.func nw6) #[] cw6] := ⟨Go.Joins.block_setCell b8 _, by decide, fun h => absurd h (by decide)⟩
    have Rz := R6.fill b8 (.func (.func nw6) #[] cw6)
    generalize w6.setCell ⟨n8, 0, none⟩ (.func (.func nw6) #[] cw6) = wz at hbz bz Rz ⊢
    have A6 := A3.below hbz
    have g6 := g3.trans (Went.of_below hbz _ _)
    have bnb6 := bnb3.below hbz
    have bq6 := bq3.below hbz
    have bt6 := bt3.below hbz
    have bp6 := bp3.below hbz
    have ynb0 : wz.cell? ⟨nb, 0, none⟩ = some (.int .i64 u.k) := bnb6.cell 0
    have ynb1 : wz.cell? ⟨nb, 1, none⟩ = some (.int .i64 u.n) := bnb6.cell 1
    have ylnb := bnb6.lt
    have yq0 : wz.cell? ⟨q, 0, none⟩ = some (.bool h.sh) := bq6.cell 0
    have yq1 : wz.cell? ⟨q, 1, none⟩ = some (.bool h.ca) := bq6.cell 1
    have yq2 : wz.cell? ⟨q, 2, none⟩ = some (.bool h.fx) := bq6.cell 2
    have yq3 : wz.cell? ⟨q, 3, none⟩ = some (.int .i64 h.mr) := bq6.cell 3
    have ylq := bq6.lt
    have yt0 : wz.cell? ⟨t, 0, none⟩ = some (.int .i64 rq.op) := bt6.cell 0
    have yt1 : wz.cell? ⟨t, 1, none⟩ = some (.int .i64 rq.at_) := bt6.cell 1
    have yt2 : wz.cell? ⟨t, 2, none⟩ = some (.int .i64 rq.fd) := bt6.cell 2
    have yt3 : wz.cell? ⟨t, 3, none⟩ = some (.int .i64 rq.x.k) := bt6.cell 3
    have yt4 : wz.cell? ⟨t, 4, none⟩ = some (.int .i64 rq.x.n) := bt6.cell 4
    have yt5 : wz.cell? ⟨t, 5, none⟩ = some (.int .i64 rq.y.k) := bt6.cell 5
    have yt6 : wz.cell? ⟨t, 6, none⟩ = some (.int .i64 rq.y.n) := bt6.cell 6
    have ylt := bt6.lt
    have yp0 : wz.cell? ⟨p, 0, none⟩ = some (.int .i64 f) := bp6.cell 0
    have ylp := bp6.lt
    have yz : wz.cell? ⟨n8, 0, none⟩ = some (.func (.func nw6) #[] cw6) := bz.cell 0
    have ylz := bz.lt
    clear keep RD hHeld
    have z0 : wz.cell? ⟨w.heap.size, 0, none⟩ = some (.nilFunc) := A6.cell 0
    have zf0 := A6.free 0
    have z1 : wz.cell? ⟨w.heap.size, 1, none⟩ = some (.bool false) := A6.cell 1
    have zf1 := A6.free 1
    have z2 : wz.cell? ⟨w.heap.size, 2, none⟩ = some (.int .i64 0) := A6.cell 2
    have zf2 := A6.free 2
    have z3 : wz.cell? ⟨w.heap.size, 3, none⟩ = some (.int .i64 0) := A6.cell 3
    have zf3 := A6.free 3
    have z4 : wz.cell? ⟨w.heap.size, 4, none⟩ = some (.int .i64 0) := A6.cell 4
    have zf4 := A6.free 4
    have z5 : wz.cell? ⟨w.heap.size, 5, none⟩ = some (.bool false) := A6.cell 5
    have zf5 := A6.free 5
    go_wp2
    exact bodyPost_ret (v := .agg #[.func (.func nw6) #[] cw6, .bool true, .int .i64 0, .int .i64 0, .int .i64 0, .bool false]) (by simp [results, Tryz.results118, go_sem, z0, z1, z2, z3, z4, z5]) rfl (ran_end (x := ⟨some (shadeK u h (shadeK rq.y h (.exch f v rq h))), true, Ou.zero⟩) A6 g6 Rz)
  ·go_simp
   refine hK.out _ _ (keep _ (hcw4.alloc (by have := hcw4.size; omega) (.cells #[.nilFunc] 107))) (fun hHeld => ?_)
   clear hK K
   try simp only [Act.put, sA1, sA2, sA3]
   have hbx : Below w3.heap.size w3 (w4.alloc (.cells #[.nilFunc] 107)) := hcw4.alloc (by have := hcw4.size; omega) (.cells #[.nilFunc] 107)
   have b8 : (w4.alloc (.cells #[.nilFunc] 107)).heap[w4.heap.size]? = some (.cells emp 107 (0, 0)) := heap_alloc_new _ _
   have ge8 : w3.heap.size ≤ w4.heap.size := hcw4.size
   have Rx := R4.below ((Below.refl _ w4).alloc (Nat.le_refl _) (.cells #[.nilFunc] 107))
   generalize w4.alloc (.cells #[.nilFunc] 107) = wx at hbx b8 Rx ⊢
   generalize w4.heap.size = n8 at b8 ge8 ⊢
   refine rd1 10 rfl fun K hK => ?_
   go_simp
   refine (cShade' rq.y h (.exch f v rq h) _ wx Rx).mono ?_
   rintro e w5 ⟨vw5, rfl, R5, hbw5⟩
   have hcw5 := bel_trans hbx hbw5
   obtain ⟨nw5, cw5, hvw5⟩ := R5.fn
   rw [hvw5] at R5 ⊢
   clear hvw5
   have b8 := (hbw5.block n8 (lt_of_block b8)).trans b8
   refine hK.out _ _ (keep _ hcw5) (fun hHeld => ?_)
   clear hK K
   try simp only [Act.put, sA1, sA2, sA3]
   refine rd1 11 rfl fun K hK => ?_
   go_simp
   refine (cShade' u h (shadeK rq.y h (.exch f v rq h)) _ w5 R5).mono ?_
   rintro e w6 ⟨vw6, rfl, R6, hbw6⟩
   have hcw6 := bel_trans hcw5 hbw6
   obtain ⟨nw6, cw6, hvw6⟩ := R6.fn
   rw [hvw6] at R6 ⊢
   clear hvw6
   have b8 := (hbw6.block n8 (lt_of_block b8)).trans b8
   refine hK.out _ _ (keep _ hcw6) (fun hHeld => ?_)
   clear hK K
   try simp only [Act.put, sA1, sA2, sA3]
   have d8 : w6.cell? ⟨n8, 0, none⟩ = some .nilFunc := cell_of_row w6 n8 0 _ _ _ b8
   have f8 : w6.frozen? ⟨n8, 0, none⟩ = false := frozen_of_row w6 _ _ _ _ b8
   refine rd1 13 rfl fun K hK => ?_
   go_simp
   refine hK.out _ _ (keep _ (hcw6.setCell ge8 _)) (fun hHeld => ?_)
   clear hK K
   try simp only [Act.put, sA1, sA2, sA3]
   refine wpAnyH_done (by kernel_rfl) ?_ _
   refine NoPanic.normal ?_
   have hbz : Below w3.heap.size w3 (w6.setCell ⟨n8, 0, none⟩ (.func (.func nw6) #[] cw6)) := hcw6.setCell ge8 _
   have bz : Bx (w6.setCell ⟨n8, 0, none⟩ (.func (.func nw6) #[] cw6)) n8 107 #[.func (.func nw6) #[] cw6] := ⟨Go.Joins.block_setCell b8 _, by decide, fun h => absurd h (by decide)⟩
   have Rz := R6.fill b8 (.func (.func nw6) #[] cw6)
   generalize w6.setCell ⟨n8, 0, none⟩ (.func (.func nw6) #[] cw6) = wz at hbz bz Rz ⊢
   have A6 := A3.below hbz
   have g6 := g3.trans (Went.of_below hbz _ _)
   have bnb6 := bnb3.below hbz
   have bq6 := bq3.below hbz
   have bt6 := bt3.below hbz
   have bp6 := bp3.below hbz
   have ynb0 : wz.cell? ⟨nb, 0, none⟩ = some (.int .i64 u.k) := bnb6.cell 0
   have ynb1 : wz.cell? ⟨nb, 1, none⟩ = some (.int .i64 u.n) := bnb6.cell 1
   have ylnb := bnb6.lt
   have yq0 : wz.cell? ⟨q, 0, none⟩ = some (.bool h.sh) := bq6.cell 0
   have yq1 : wz.cell? ⟨q, 1, none⟩ = some (.bool h.ca) := bq6.cell 1
   have yq2 : wz.cell? ⟨q, 2, none⟩ = some (.bool h.fx) := bq6.cell 2
   have yq3 : wz.cell? ⟨q, 3, none⟩ = some (.int .i64 h.mr) := bq6.cell 3
   have ylq := bq6.lt
   have yt0 : wz.cell? ⟨t, 0, none⟩ = some (.int .i64 rq.op) := bt6.cell 0
   have yt1 : wz.cell? ⟨t, 1, none⟩ = some (.int .i64 rq.at_) := bt6.cell 1
   have yt2 : wz.cell? ⟨t, 2, none⟩ = some (.int .i64 rq.fd) := bt6.cell 2
   have yt3 : wz.cell? ⟨t, 3, none⟩ = some (.int .i64 rq.x.k) := bt6.cell 3
   have yt4 : wz.cell? ⟨t, 4, none⟩ = some (.int .i64 rq.x.n) := bt6.cell 4
   have yt5 : wz.cell? ⟨t, 5, none⟩ = some (.int .i64 rq.y.k) := bt6.cell 5
   have yt6 : wz.cell? ⟨t, 6, none⟩ = some (.int .i64 rq.y.n) := bt6.cell 6
   have ylt := bt6.lt
   have yp0 : wz.cell? ⟨p, 0, none⟩ = some (.int .i64 f) := bp6.cell 0
   have ylp := bp6.lt
   have yz : wz.cell? ⟨n8, 0, none⟩ = some (.func (.func nw6) #[] cw6) := bz.cell 0
   have ylz := bz.lt
   clear keep RD hHeld
   have z0 : wz.cell? ⟨w.heap.size, 0, none⟩ = some (.nilFunc) := A6.cell 0
   have zf0 := A6.free 0
   have z1 : wz.cell? ⟨w.heap.size, 1, none⟩ = some (.bool false) := A6.cell 1
   have zf1 := A6.free 1
   have z2 : wz.cell? ⟨w.heap.size, 2, none⟩ = some (.int .i64 0) := A6.cell 2
   have zf2 := A6.free 2
   have z3 : wz.cell? ⟨w.heap.size, 3, none⟩ = some (.int .i64 0) := A6.cell 3
   have zf3 := A6.free 3
   have z4 : wz.cell? ⟨w.heap.size, 4, none⟩ = some (.int .i64 0) := A6.cell 4
   have zf4 := A6.free 4
   have z5 : wz.cell? ⟨w.heap.size, 5, none⟩ = some (.bool false) := A6.cell 5
   have zf5 := A6.free 5
   go_wp2
   exact bodyPost_ret (v := .agg #[.func (.func nw6) #[] cw6, .bool true, .int .i64 0, .int .i64 0, .int .i64 0, .bool false]) (by simp [results, Tryz.results118, go_sem, z0, z1, z2, z3, z4, z5]) rfl (ran_end (x := ⟨some (shadeK u h (shadeK rq.y h (.exch f v rq h))), true, Ou.zero⟩) A6 g6 Rz)
 ·go_simp
  refine hK.out _ _ (keep _ (hbd.alloc (by have := hbd.size; omega) (.cells #[.nilFunc] 107))) (fun hHeld => ?_)
  clear hK K
  try simp only [Act.put, sA1, sA2, sA3]
  have hbx : Below w3.heap.size w3 (w3.alloc (.cells #[.nilFunc] 107)).drew := ((Below.refl _ w3).alloc (Nat.le_refl _) (.cells #[.nilFunc] 107)).drew
  have b8 : (w3.alloc (.cells #[.nilFunc] 107)).drew.heap[w3.heap.size]? = some (.cells emp 107 (0, 0)) := heap_alloc_new _ _
  generalize (w3.alloc (.cells #[.nilFunc] 107)).drew = wx at hbx b8 ⊢
  obtain ⟨n8, hn8⟩ : ∃ n8, w3.heap.size = n8 := ⟨_, rfl⟩
  rw [hn8] at b8 ⊢
  have ge8 : w3.heap.size ≤ n8 := Nat.le_of_eq hn8
  clear hn8
  refine rd1 9 rfl fun K hK => ?_
  go_simp
  refine (cExchange f v rq h wx).mono ?_
  rintro e w4 ⟨vw4, rfl, R4, hbw4⟩
  have hcw4 := bel_trans hbx hbw4
  obtain ⟨nw4, cw4, hvw4⟩ := R4.fn
  rw [hvw4] at R4 ⊢
  clear hvw4
  have b8 := (hbw4.block n8 (lt_of_block b8)).trans b8
  refine hK.out _ _ (keep _ hcw4) (fun hHeld => ?_)
  clear hK K
  try simp only [Act.put, sA1, sA2, sA3]
  refine rd1 10 rfl fun K hK => ?_
  go_simp
  refine (cShade' rq.y h (.exch f v rq h) _ w4 R4).mono ?_
  rintro e w5 ⟨vw5, rfl, R5, hbw5⟩
  have hcw5 := bel_trans hcw4 hbw5
  obtain ⟨nw5, cw5, hvw5⟩ := R5.fn
  rw [hvw5] at R5 ⊢
  clear hvw5
  have b8 := (hbw5.block n8 (lt_of_block b8)).trans b8
  refine hK.out _ _ (keep _ hcw5) (fun hHeld => ?_)
  clear hK K
  try simp only [Act.put, sA1, sA2, sA3]
  refine rd1 11 rfl fun K hK => ?_
  go_simp
  refine (cShade' u h (shadeK rq.y h (.exch f v rq h)) _ w5 R5).mono ?_
  rintro e w6 ⟨vw6, rfl, R6, hbw6⟩
  have hcw6 := bel_trans hcw5 hbw6
  obtain ⟨nw6, cw6, hvw6⟩ := R6.fn
  rw [hvw6] at R6 ⊢
  clear hvw6
  have b8 := (hbw6.block n8 (lt_of_block b8)).trans b8
  refine hK.out _ _ (keep _ hcw6) (fun hHeld => ?_)
  clear hK K
  try simp only [Act.put, sA1, sA2, sA3]
  have d8 : w6.cell? ⟨n8, 0, none⟩ = some .nilFunc := cell_of_row w6 n8 0 _ _ _ b8
  have f8 : w6.frozen? ⟨n8, 0, none⟩ = false := frozen_of_row w6 _ _ _ _ b8
  refine rd1 13 rfl fun K hK => ?_
  go_simp
  refine hK.out _ _ (keep _ (hcw6.setCell ge8 _)) (fun hHeld => ?_)
  clear hK K
  try simp only [Act.put, sA1, sA2, sA3]
  refine wpAnyH_done (by kernel_rfl) ?_ _
  refine NoPanic.normal ?_
  have hbz : Below w3.heap.size w3 (w6.setCell ⟨n8, 0, none⟩ (.func (.func nw6) #[] cw6)) := hcw6.setCell ge8 _
  have bz : Bx (w6.setCell ⟨n8, 0, none⟩ (.func (.func nw6) #[] cw6)) n8 107 #[.func (.func nw6) #[] cw6] := ⟨Go.Joins.block_setCell b8 _, by decide, fun h => absurd h (by decide)⟩
  have Rz := R6.fill b8 (.func (.func nw6) #[] cw6)
  generalize w6.setCell ⟨n8, 0, none⟩ (.func (.func nw6) #[] cw6) = wz at hbz bz Rz ⊢
  have A6 := A3.below hbz
  have g6 := g3.trans (Went.of_below hbz _ _)
  have bnb6 := bnb3.below hbz
  have bq6 := bq3.below hbz
  have bt6 := bt3.below hbz
  have bp6 := bp3.below hbz
  have ynb0 : wz.cell? ⟨nb, 0, none⟩ = some (.int .i64 u.k) := bnb6.cell 0
  have ynb1 : wz.cell? ⟨nb, 1, none⟩ = some (.int .i64 u.n) := bnb6.cell 1
  have ylnb := bnb6.lt
  have yq0 : wz.cell? ⟨q, 0, none⟩ = some (.bool h.sh) := bq6.cell 0
  have yq1 : wz.cell? ⟨q, 1, none⟩ = some (.bool h.ca) := bq6.cell 1
  have yq2 : wz.cell? ⟨q, 2, none⟩ = some (.bool h.fx) := bq6.cell 2
  have yq3 : wz.cell? ⟨q, 3, none⟩ = some (.int .i64 h.mr) := bq6.cell 3
  have ylq := bq6.lt
  have yt0 : wz.cell? ⟨t, 0, none⟩ = some (.int .i64 rq.op) := bt6.cell 0
  have yt1 : wz.cell? ⟨t, 1, none⟩ = some (.int .i64 rq.at_) := bt6.cell 1
  have yt2 : wz.cell? ⟨t, 2, none⟩ = some (.int .i64 rq.fd) := bt6.cell 2
  have yt3 : wz.cell? ⟨t, 3, none⟩ = some (.int .i64 rq.x.k) := bt6.cell 3
  have yt4 : wz.cell? ⟨t, 4, none⟩ = some (.int .i64 rq.x.n) := bt6.cell 4
  have yt5 : wz.cell? ⟨t, 5, none⟩ = some (.int .i64 rq.y.k) := bt6.cell 5
  have yt6 : wz.cell? ⟨t, 6, none⟩ = some (.int .i64 rq.y.n) := bt6.cell 6
  have ylt := bt6.lt
  have yp0 : wz.cell? ⟨p, 0, none⟩ = some (.int .i64 f) := bp6.cell 0
  have ylp := bp6.lt
  have yz : wz.cell? ⟨n8, 0, none⟩ = some (.func (.func nw6) #[] cw6) := bz.cell 0
  have ylz := bz.lt
  clear keep RD hHeld
  have z0 : wz.cell? ⟨w.heap.size, 0, none⟩ = some (.nilFunc) := A6.cell 0
  have zf0 := A6.free 0
  have z1 : wz.cell? ⟨w.heap.size, 1, none⟩ = some (.bool false) := A6.cell 1
  have zf1 := A6.free 1
  have z2 : wz.cell? ⟨w.heap.size, 2, none⟩ = some (.int .i64 0) := A6.cell 2
  have zf2 := A6.free 2
  have z3 : wz.cell? ⟨w.heap.size, 3, none⟩ = some (.int .i64 0) := A6.cell 3
  have zf3 := A6.free 3
  have z4 : wz.cell? ⟨w.heap.size, 4, none⟩ = some (.int .i64 0) := A6.cell 4
  have zf4 := A6.free 4
  have z5 : wz.cell? ⟨w.heap.size, 5, none⟩ = some (.bool false) := A6.cell 5
  have zf5 := A6.free 5
  go_wp2
  exact bodyPost_ret (v := .agg #[.func (.func nw6) #[] cw6, .bool true, .int .i64 0, .int .i64 0, .int .i64 0, .bool false]) (by simp [results, Tryz.results118, go_sem, z0, z1, z2, z3, z4, z5]) rfl (ran_end (x := ⟨some (shadeK u h (shadeK rq.y h (.exch f v rq h))), true, Ou.zero⟩) A6 g6 Rz)
set_option maxHeartbeats 1000000 in
theorem kSwapN0 {f : Int} {rq : Rq} {h : Hw} (hm : Mm w L s) (ft : s.Fit) (hc : s.c < 1000000) (rr : s.Rng) (W : H.Wid w) (z : 1 ∉ L.fp) {p q t : Nat} (bp : Bx w p 3 #[.int .i64 f]) (bq : Bx w q 102 h.cells) (bt : Bx w t 48 rq.cells) (he : Vl.of (s.got f) ≠ rq.x) (hca : h.ca = false) :
  Calls Tryz.prog 118 #[pt L.b, pt p, pt q, pt t] w fun e w' => Ran w L (⟨none, true, Ou.zero⟩) (s.load f) e w' := by
 have A0 := at0 hm W z
 have cp0 : w.cell? ⟨p, 0, none⟩ = some (.int .i64 f) := bp.cell 0
 have clp := bp.lt
 have hr := rr.got f
 obtain ⟨v, hv⟩ : ∃ v, s.got f = v := ⟨_, rfl⟩
 rw [hv] at hr
 obtain ⟨u, hu⟩ : ∃ u, Vl.of v = u := ⟨_, rfl⟩
 have hk : F.Plain.kind v = u.k := by rw [← hu]; rfl
 have hn : F.Plain.num v = u.n := by rw [← hu]; rfl
 have bp0 := bp.below ((Below.refl _ w).alloc (Nat.le_refl _) (.cells #[.nilFunc, .bool false, .int .i64 0, .int .i64 0, .int .i64 0, .bool false] 109))
 have bq0 := bq.below ((Below.refl _ w).alloc (Nat.le_refl _) (.cells #[.nilFunc, .bool false, .int .i64 0, .int .i64 0, .int .i64 0, .bool false] 109))
 have bt0 := bt.below ((Below.refl _ w).alloc (Nat.le_refl _) (.cells #[.nilFunc, .bool false, .int .i64 0, .int .i64 0, .int .i64 0, .bool false] 109))
 rw [hv, hu] at he
 have heq := eqVal_f he
 clear he
 have hca' : Hid (h.ca = false) := hca
 clear hca
 go_enter Tryz.func118, Tryz.ntmps118
 go_upto_region 3 with (first
  | (go_at_call 34; refine (cLoad A0.mem ft hc f).mono ?_; rintro e w1 ⟨rfl, L1, hm1, st⟩; rw [hv]; have A1 := A0.step hm1 st; have g1 : Went (w.alloc (.cells #[.nilFunc, .bool false, .int .i64 0, .int .i64 0, .int .i64 0, .bool false] 109)) L w.heap.size w1 L1 := Went.of_step st _; have bp1 := bp0.step A0.mem mmM ft st; have bq1 := bq0.step A0.mem mmM ft st; have bt1 := bt0.step A0.mem mmM ft st)
  | (go_at_call 97; refine (F.cOf v hr.1 hr.2 _).mono ?_; rintro e w2 ⟨rfl, hw2⟩; rw [hk, hn] at hw2 ⊢; have hb2 : Below w1.heap.size w1 w2 := (by rw [hw2]; go_grown); clear hw2; have A2 := A1.below hb2; have g2 := g1.trans (Went.of_below hb2 _ _); have bp2 := bp1.below hb2; have bq2 := bq1.below hb2; have bt2 := bt1.below hb2))
 have A3 := A2.alloc (.cells #[.int .i64 u.k, .int .i64 u.n] 38)
 have g3 := g2.trans (Went.of_below ((Below.refl _ w2).alloc (Nat.le_refl _) (.cells #[.int .i64 u.k, .int .i64 u.n] 38)) _ _)
 have bv3 : Bx (w2.alloc (.cells #[.int .i64 u.k, .int .i64 u.n] 38)) w2.heap.size 38 #[.int .i64 u.k, .int .i64 u.n] := ⟨heap_alloc_new _ _, by decide, fun h => absurd h (by decide)⟩
 have bp3 := bp2.below ((Below.refl _ w2).alloc (Nat.le_refl _) (.cells #[.int .i64 u.k, .int .i64 u.n] 38))
 have bq3 := bq2.below ((Below.refl _ w2).alloc (Nat.le_refl _) (.cells #[.int .i64 u.k, .int .i64 u.n] 38))
 have bt3 := bt2.below ((Below.refl _ w2).alloc (Nat.le_refl _) (.cells #[.int .i64 u.k, .int .i64 u.n] 38))
 generalize hw3 : w2.alloc (.cells #[.int .i64 u.k, .int .i64 u.n] 38) = w3 at A3 g3 bv3 bp3 bq3 bt3 ⊢
 clear hw3
 generalize w2.heap.size = nb at bv3 ⊢
 have bnb3 := bv3
 have keep : ∀ w', Below w3.heap.size w3 w' → w'.cell? ⟨nb, 0, none⟩ = some (.int .i64 u.k) ∧ w'.cell? ⟨nb, 1, none⟩ = some (.int .i64 u.n) ∧ w'.cell? ⟨q, 0, none⟩ = some (.bool h.sh) ∧ w'.cell? ⟨q, 1, none⟩ = some (.bool h.ca) ∧ w'.cell? ⟨q, 2, none⟩ = some (.bool h.fx) ∧ w'.cell? ⟨q, 3, none⟩ = some (.int .i64 h.mr) ∧ w'.cell? ⟨t, 0, none⟩ = some (.int .i64 rq.op) ∧ w'.cell? ⟨t, 1, none⟩ = some (.int .i64 rq.at_) ∧ w'.cell? ⟨t, 2, none⟩ = some (.int .i64 rq.fd) ∧ w'.cell? ⟨t, 3, none⟩ = some (.int .i64 rq.x.k) ∧ w'.cell? ⟨t, 4, none⟩ = some (.int .i64 rq.x.n) ∧ w'.cell? ⟨t, 5, none⟩ = some (.int .i64 rq.y.k) ∧ w'.cell? ⟨t, 6, none⟩ = some (.int .i64 rq.y.n) ∧ w'.cell? ⟨p, 0, none⟩ = some (.int .i64 f) := fun w' hb => ⟨(bnb3.below hb).cell 0, (bnb3.below hb).cell 1, (bq3.below hb).cell 0, (bq3.below hb).cell 1, (bq3.below hb).cell 2, (bq3.below hb).cell 3, (bt3.below hb).cell 0, (bt3.below hb).cell 1, (bt3.below hb).cell 2, (bt3.below hb).cell 3, (bt3.below hb).cell 4, (bt3.below hb).cell 5, (bt3.below hb).cell 6, (bp3.below hb).cell 0⟩
 have hbd : Below w3.heap.size w3 w3.drew := (Below.refl w3.heap.size w3).drew
 have RD := keep _ hbd
 refine wp_region_noPanic ?_
 refine wp_region_held_drew (S := fun w' => w'.cell? ⟨nb, 0, none⟩ = some (.int .i64 u.k) ∧ w'.cell? ⟨nb, 1, none⟩ = some (.int .i64 u.n) ∧ w'.cell? ⟨q, 0, none⟩ = some (.bool h.sh) ∧ w'.cell? ⟨q, 1, none⟩ = some (.bool h.ca) ∧ w'.cell? ⟨q, 2, none⟩ = some (.bool h.fx) ∧ w'.cell? ⟨q, 3, none⟩ = some (.int .i64 h.mr) ∧ w'.cell? ⟨t, 0, none⟩ = some (.int .i64 rq.op) ∧ w'.cell? ⟨t, 1, none⟩ = some (.int .i64 rq.at_) ∧ w'.cell? ⟨t, 2, none⟩ = some (.int .i64 rq.fd) ∧ w'.cell? ⟨t, 3, none⟩ = some (.int .i64 rq.x.k) ∧ w'.cell? ⟨t, 4, none⟩ = some (.int .i64 rq.x.n) ∧ w'.cell? ⟨t, 5, none⟩ = some (.int .i64 rq.y.k) ∧ w'.cell? ⟨t, 6, none⟩ = some (.int .i64 rq.y.n) ∧ w'.cell? ⟨p, 0, none⟩ = some (.int .i64 f)) (by kernel_rfl) RD (fun hHeld => ?_)
 refine tkH (i := 0) 14 (.agg #[.int .i64 u.k, .int .i64 u.n]) rfl rfl ?_
 simp only [sA1, sA2, sA3]
 refine tkH (i := 1) 15 (.agg #[.bool h.sh, .bool h.ca, .bool h.fx, .int .i64 h.mr]) rfl rfl ?_
 simp only [sA1, sA2, sA3]
 refine tkH (i := 2) 16 (.pointer (some ⟨t, 5, none⟩)) rfl rfl ?_
 simp only [sA1, sA2, sA3]
 refine tkH (i := 3) 17 (.agg #[.int .i64 rq.y.k, .int .i64 rq.y.n]) rfl rfl ?_
 simp only [sA1, sA2, sA3]
 refine tkH (i := 4) 18 (.agg #[.bool h.sh, .bool h.ca, .bool h.fx, .int .i64 h.mr]) rfl rfl ?_
 simp only [sA1, sA2, sA3]
 refine tkH (i := 5) 19 (.int .i64 f) rfl rfl ?_
 simp only [sA1, sA2, sA3]
 refine tkH (i := 6) 20 (.int .u64 v) rfl rfl ?_
 simp only [sA1, sA2, sA3]
 refine tkH (i := 7) 21 (.agg #[.int .i64 rq.op, .int .i64 rq.at_, .int .i64 rq.fd, .int .i64 rq.x.k, .int .i64 rq.x.n, .int .i64 rq.y.k, .int .i64 rq.y.n]) rfl rfl ?_
 simp only [sA1, sA2, sA3]
 refine tkH (i := 8) 22 (.agg #[.bool h.sh, .bool h.ca, .bool h.fx, .int .i64 h.mr]) rfl rfl ?_
 simp only [sA1, sA2, sA3]
 refine rd2 9 12 rfl rfl (fun K hK => ?_) (fun K hK => ?_)
 ·go_simp
  refine (cExchange f v rq h w3.drew).mono ?_
  rintro e w4 ⟨vw4, rfl, R4, hbw4⟩
  have hcw4 := bel_trans hbd hbw4
  obtain ⟨nw4, cw4, hvw4⟩ := R4.fn
  rw [hvw4] at R4 ⊢
  clear hvw4
  refine hK.out _ _ (keep _ hcw4) (fun hHeld => ?_)
  clear hK K
  try simp only [Act.put, sA1, sA2, sA3]
  refine rd2 10 12 rfl rfl (fun K hK => ?_) (fun K hK => ?_)
  ·go_simp
   refine (cShade' rq.y h (.exch f v rq h) _ w4 R4).mono ?_
   rintro e w5 ⟨vw5, rfl, R5, hbw5⟩
   have hcw5 := bel_trans hcw4 hbw5
   obtain ⟨nw5, cw5, hvw5⟩ := R5.fn
   rw [hvw5] at R5 ⊢
   clear hvw5
   refine hK.out _ _ (keep _ hcw5) (fun hHeld => ?_)
   clear hK K
   try simp only [Act.put, sA1, sA2, sA3]
   refine rd2 11 12 rfl rfl (fun K hK => ?_) (fun K hK => ?_)
   ·go_simp
    refine (cShade' u h (shadeK rq.y h (.exch f v rq h)) _ w5 R5).mono ?_
    rintro e w6 ⟨vw6, rfl, R6, hbw6⟩
    have hcw6 := bel_trans hcw5 hbw6
    obtain ⟨nw6, cw6, hvw6⟩ := R6.fn
    rw [hvw6] at R6 ⊢
    clear hvw6
    refine hK.out _ _ (keep _ hcw6) (fun hHeld => ?_)
    clear hK K
    try simp only [Act.put, sA1, sA2, sA3]
    refine rd1 12 rfl fun K hK => ?_
    go_simp
    refine hK.out _ _ (keep _ (hcw6.alloc (by have := hcw6.size; omega) (.cells #[.nilFunc] 107))) (fun hHeld => ?_)
    clear hK K
    try simp only [Act.put, sA1, sA2, sA3]
    have hbx : Below w3.heap.size w3 (w6.alloc (.cells #[.nilFunc] 107)) := hcw6.alloc (by have := hcw6.size; omega) (.cells #[.nilFunc] 107)
    have b8 : (w6.alloc (.cells #[.nilFunc] 107)).heap[w6.heap.size]? = some (.cells emp 107 (0, 0)) := heap_alloc_new _ _
    have ge8 : w3.heap.size ≤ w6.heap.size := hcw6.size
    have Rx := R6.below ((Below.refl _ w6).alloc (Nat.le_refl _) (.cells #[.nilFunc] 107))
    generalize w6.alloc (.cells #[.nilFunc] 107) = wx at hbx b8 Rx ⊢
    generalize w6.heap.size = n8 at b8 ge8 ⊢
    have d8 : wx.cell? ⟨n8, 0, none⟩ = some .nilFunc := cell_of_row wx n8 0 _ _ _ b8
    have f8 : wx.frozen? ⟨n8, 0, none⟩ = false := frozen_of_row wx _ _ _ _ b8
    refine rd1 13 rfl fun K hK => ?_
    go_simp
    refine hK.out _ _ (keep _ (hbx.setCell ge8 _)) (fun hHeld => ?_)
    clear hK K
    try simp only [Act.put, sA1, sA2, sA3]
    refine wpAnyH_done (by kernel_rfl) ?_ _
    refine NoPanic.normal ?_
    have hbz : Below w3.heap.size w3 (wx.setCell ⟨n8, 0, none⟩ (.func (.func nw6) #[] cw6)) := hbx.setCell ge8 _
    have bz : Bx (wx.setCell ⟨n8, 0, none⟩ (.func (.func nw6) #[] cw6)) n8 107 #[.func (.func nw6) #[] cw6] := ⟨Go.Joins.block_setCell b8 _, by decide, fun h => absurd h (by decide)⟩
    have Rz := Rx.fill b8 (.func (.func nw6) #[] cw6)
    generalize wx.setCell ⟨n8, 0, none⟩ (.func (.func nw6) #[] cw6) = wz at hbz bz Rz ⊢
    have A6 := A3.below hbz
    have g6 := g3.trans (Went.of_below hbz _ _)
    have bnb6 := bnb3.below hbz
    have bq6 := bq3.below hbz
    have bt6 := bt3.below hbz
    have bp6 := bp3.below hbz
    have ynb0 : wz.cell? ⟨nb, 0, none⟩ = some (.int .i64 u.k) := bnb6.cell 0
    have ynb1 : wz.cell? ⟨nb, 1, none⟩ = some (.int .i64 u.n) := bnb6.cell 1
    have ylnb := bnb6.lt
    have yq0 : wz.cell? ⟨q, 0, none⟩ = some (.bool h.sh) := bq6.cell 0
    have yq1 : wz.cell? ⟨q, 1, none⟩ = some (.bool false) := (bq6.cell 1).trans (congrArg (fun b => some (Value.bool b)) hca'.out)
    have yq2 : wz.cell? ⟨q, 2, none⟩ = some (.bool h.fx) := bq6.cell 2
    have yq3 : wz.cell? ⟨q, 3, none⟩ = some (.int .i64 h.mr) := bq6.cell 3
    have ylq := bq6.lt
    have yt0 : wz.cell? ⟨t, 0, none⟩ = some (.int .i64 rq.op) := bt6.cell 0
    have yt1 : wz.cell? ⟨t, 1, none⟩ = some (.int .i64 rq.at_) := bt6.cell 1
    have yt2 : wz.cell? ⟨t, 2, none⟩ = some (.int .i64 rq.fd) := bt6.cell 2
    have yt3 : wz.cell? ⟨t, 3, none⟩ = some (.int .i64 rq.x.k) := bt6.cell 3
    have yt4 : wz.cell? ⟨t, 4, none⟩ = some (.int .i64 rq.x.n) := bt6.cell 4
    have yt5 : wz.cell? ⟨t, 5, none⟩ = some (.int .i64 rq.y.k) := bt6.cell 5
    have yt6 : wz.cell? ⟨t, 6, none⟩ = some (.int .i64 rq.y.n) := bt6.cell 6
    have ylt := bt6.lt
    have yp0 : wz.cell? ⟨p, 0, none⟩ = some (.int .i64 f) := bp6.cell 0
    have ylp := bp6.lt
    have yz : wz.cell? ⟨n8, 0, none⟩ = some (.func (.func nw6) #[] cw6) := bz.cell 0
    have ylz := bz.lt
    clear keep RD hHeld
    have z0 : wz.cell? ⟨w.heap.size, 0, none⟩ = some (.nilFunc) := A6.cell 0
    have zf0 := A6.free 0
    have z1 : wz.cell? ⟨w.heap.size, 1, none⟩ = some (.bool false) := A6.cell 1
    have zf1 := A6.free 1
    have z2 : wz.cell? ⟨w.heap.size, 2, none⟩ = some (.int .i64 0) := A6.cell 2
    have zf2 := A6.free 2
    have z3 : wz.cell? ⟨w.heap.size, 3, none⟩ = some (.int .i64 0) := A6.cell 3
    have zf3 := A6.free 3
    have z4 : wz.cell? ⟨w.heap.size, 4, none⟩ = some (.int .i64 0) := A6.cell 4
    have zf4 := A6.free 4
    have z5 : wz.cell? ⟨w.heap.size, 5, none⟩ = some (.bool false) := A6.cell 5
    have zf5 := A6.free 5
    go_wp2
    exact bodyPost_ret (v := .agg #[.nilFunc, .bool true, .int .i64 0, .int .i64 0, .int .i64 0, .bool false]) (by simp [results, Tryz.results118, go_sem, z0, z1, z2, z3, z4, z5]) rfl (ran_end (x := ⟨none, true, Ou.zero⟩) A6 g6 rfl)
   ·go_simp
    refine hK.out _ _ (keep _ (hcw5.alloc (by have := hcw5.size; omega) (.cells #[.nilFunc] 107))) (fun hHeld => ?_)
    clear hK K
    try simp only [Act.put, sA1, sA2, sA3]
    have hbx : Below w3.heap.size w3 (w5.alloc (.cells #[.nilFunc] 107)) := hcw5.alloc (by have := hcw5.size; omega) (.cells #[.nilFunc] 107)
    have b8 : (w5.alloc (.cells #[.nilFunc] 107)).heap[w5.heap.size]? = some (.cells emp 107 (0, 0)) := heap_alloc_new _ _
    have ge8 : w3.heap.size ≤ w5.heap.size := hcw5.size
    have Rx := R5.below ((Below.refl _ w5).alloc (Nat.le_refl _) (.cells #[.nilFunc] 107))
    generalize w5.alloc (.cells #[.nilFunc] 107) = wx at hbx b8 Rx ⊢
    generalize w5.heap.size = n8 at b8 ge8 ⊢
    refine rd1 11 rfl fun K hK => ?_
    go_simp
    refine (cShade' u h (shadeK rq.y h (.exch f v rq h)) _ wx Rx).mono ?_
    rintro e w6 ⟨vw6, rfl, R6, hbw6⟩
    have hcw6 := bel_trans hbx hbw6
    obtain ⟨nw6, cw6, hvw6⟩ := R6.fn
    rw [hvw6] at R6 ⊢
    clear hvw6
    have b8 := (hbw6.block n8 (lt_of_block b8)).trans b8
    refine hK.out _ _ (keep _ hcw6) (fun hHeld => ?_)
    clear hK K
    try simp only [Act.put, sA1, sA2, sA3]
    have d8 : w6.cell? ⟨n8, 0, none⟩ = some .nilFunc := cell_of_row w6 n8 0 _ _ _ b8
    have f8 : w6.frozen? ⟨n8, 0, none⟩ = false := frozen_of_row w6 _ _ _ _ b8
    refine rd1 13 rfl fun K hK => ?_
    go_simp
    refine hK.out _ _ (keep _ (hcw6.setCell ge8 _)) (fun hHeld => ?_)
    clear hK K
    try simp only [Act.put, sA1, sA2, sA3]
    refine wpAnyH_done (by kernel_rfl) ?_ _
    refine NoPanic.normal ?_
    have hbz : Below w3.heap.size w3 (w6.setCell ⟨n8, 0, none⟩ (.func (.func nw6) #[] cw6)) := hcw6.setCell ge8 _
    have bz : Bx (w6.setCell ⟨n8, 0, none⟩ (.func (.func nw6) #[] cw6)) n8 107 #[.func (.func nw6) #[] cw6] := ⟨Go.Joins.block_setCell b8 _, by decide, fun h => absurd h (by decide)⟩
    have Rz := R6.fill b8 (.func (.func nw6) #[] cw6)
    generalize w6.setCell ⟨n8, 0, none⟩ (.func (.func nw6) #[] cw6) = wz at hbz bz Rz ⊢
    have A6 := A3.below hbz
    have g6 := g3.trans (Went.of_below hbz _ _)
    have bnb6 := bnb3.below hbz
    have bq6 := bq3.below hbz
    have bt6 := bt3.below hbz
    have bp6 := bp3.below hbz
    have ynb0 : wz.cell? ⟨nb, 0, none⟩ = some (.int .i64 u.k) := bnb6.cell 0
    have ynb1 : wz.cell? ⟨nb, 1, none⟩ = some (.int .i64 u.n) := bnb6.cell 1
    have ylnb := bnb6.lt
    have yq0 : wz.cell? ⟨q, 0, none⟩ = some (.bool h.sh) := bq6.cell 0
    have yq1 : wz.cell? ⟨q, 1, none⟩ = some (.bool false) := (bq6.cell 1).trans (congrArg (fun b => some (Value.bool b)) hca'.out)
    have yq2 : wz.cell? ⟨q, 2, none⟩ = some (.bool h.fx) := bq6.cell 2
    have yq3 : wz.cell? ⟨q, 3, none⟩ = some (.int .i64 h.mr) := bq6.cell 3
    have ylq := bq6.lt
    have yt0 : wz.cell? ⟨t, 0, none⟩ = some (.int .i64 rq.op) := bt6.cell 0
    have yt1 : wz.cell? ⟨t, 1, none⟩ = some (.int .i64 rq.at_) := bt6.cell 1
    have yt2 : wz.cell? ⟨t, 2, none⟩ = some (.int .i64 rq.fd) := bt6.cell 2
    have yt3 : wz.cell? ⟨t, 3, none⟩ = some (.int .i64 rq.x.k) := bt6.cell 3
    have yt4 : wz.cell? ⟨t, 4, none⟩ = some (.int .i64 rq.x.n) := bt6.cell 4
    have yt5 : wz.cell? ⟨t, 5, none⟩ = some (.int .i64 rq.y.k) := bt6.cell 5
    have yt6 : wz.cell? ⟨t, 6, none⟩ = some (.int .i64 rq.y.n) := bt6.cell 6
    have ylt := bt6.lt
    have yp0 : wz.cell? ⟨p, 0, none⟩ = some (.int .i64 f) := bp6.cell 0
    have ylp := bp6.lt
    have yz : wz.cell? ⟨n8, 0, none⟩ = some (.func (.func nw6) #[] cw6) := bz.cell 0
    have ylz := bz.lt
    clear keep RD hHeld
    have z0 : wz.cell? ⟨w.heap.size, 0, none⟩ = some (.nilFunc) := A6.cell 0
    have zf0 := A6.free 0
    have z1 : wz.cell? ⟨w.heap.size, 1, none⟩ = some (.bool false) := A6.cell 1
    have zf1 := A6.free 1
    have z2 : wz.cell? ⟨w.heap.size, 2, none⟩ = some (.int .i64 0) := A6.cell 2
    have zf2 := A6.free 2
    have z3 : wz.cell? ⟨w.heap.size, 3, none⟩ = some (.int .i64 0) := A6.cell 3
    have zf3 := A6.free 3
    have z4 : wz.cell? ⟨w.heap.size, 4, none⟩ = some (.int .i64 0) := A6.cell 4
    have zf4 := A6.free 4
    have z5 : wz.cell? ⟨w.heap.size, 5, none⟩ = some (.bool false) := A6.cell 5
    have zf5 := A6.free 5
    go_wp2
    exact bodyPost_ret (v := .agg #[.nilFunc, .bool true, .int .i64 0, .int .i64 0, .int .i64 0, .bool false]) (by simp [results, Tryz.results118, go_sem, z0, z1, z2, z3, z4, z5]) rfl (ran_end (x := ⟨none, true, Ou.zero⟩) A6 g6 rfl)
  ·go_simp
   refine hK.out _ _ (keep _ (hcw4.alloc (by have := hcw4.size; omega) (.cells #[.nilFunc] 107))) (fun hHeld => ?_)
   clear hK K
   try simp only [Act.put, sA1, sA2, sA3]
   have hbx : Below w3.heap.size w3 (w4.alloc (.cells #[.nilFunc] 107)) := hcw4.alloc (by have := hcw4.size; omega) (.cells #[.nilFunc] 107)
   have b8 : (w4.alloc (.cells #[.nilFunc] 107)).heap[w4.heap.size]? = some (.cells emp 107 (0, 0)) := heap_alloc_new _ _
   have ge8 : w3.heap.size ≤ w4.heap.size := hcw4.size
   have Rx := R4.below ((Below.refl _ w4).alloc (Nat.le_refl _) (.cells #[.nilFunc] 107))
   generalize w4.alloc (.cells #[.nilFunc] 107) = wx at hbx b8 Rx ⊢
   generalize w4.heap.size = n8 at b8 ge8 ⊢
   refine rd1 10 rfl fun K hK => ?_
   go_simp
   refine (cShade' rq.y h (.exch f v rq h) _ wx Rx).mono ?_
   rintro e w5 ⟨vw5, rfl, R5, hbw5⟩
   have hcw5 := bel_trans hbx hbw5
   obtain ⟨nw5, cw5, hvw5⟩ := R5.fn
   rw [hvw5] at R5 ⊢
   clear hvw5
   have b8 := (hbw5.block n8 (lt_of_block b8)).trans b8
   refine hK.out _ _ (keep _ hcw5) (fun hHeld => ?_)
   clear hK K
   try simp only [Act.put, sA1, sA2, sA3]
   refine rd1 11 rfl fun K hK => ?_
   go_simp
   refine (cShade' u h (shadeK rq.y h (.exch f v rq h)) _ w5 R5).mono ?_
   rintro e w6 ⟨vw6, rfl, R6, hbw6⟩
   have hcw6 := bel_trans hcw5 hbw6
   obtain ⟨nw6, cw6, hvw6⟩ := R6.fn
   rw [hvw6] at R6 ⊢
   clear hvw6
   have b8 := (hbw6.block n8 (lt_of_block b8)).trans b8
   refine hK.out _ _ (keep _ hcw6) (fun hHeld => ?_)
   clear hK K
   try simp only [Act.put, sA1, sA2, sA3]
   have d8 : w6.cell? ⟨n8, 0, none⟩ = some .nilFunc := cell_of_row w6 n8 0 _ _ _ b8
   have f8 : w6.frozen? ⟨n8, 0, none⟩ = false := frozen_of_row w6 _ _ _ _ b8
   refine rd1 13 rfl fun K hK => ?_
   go_simp
   refine hK.out _ _ (keep _ (hcw6.setCell ge8 _)) (fun hHeld => ?_)
   clear hK K
   try simp only [Act.put, sA1, sA2, sA3]
   refine wpAnyH_done (by kernel_rfl) ?_ _
   refine NoPanic.normal ?_
   have hbz : Below w3.heap.size w3 (w6.setCell ⟨n8, 0, none⟩ (.func (.func nw6) #[] cw6)) := hcw6.setCell ge8 _
   have bz : Bx (w6.setCell ⟨n8, 0, none⟩ (.func (.func nw6) #[] cw6)) n8 107 #[.func (.func nw6) #[] cw6] := ⟨Go.Joins.block_setCell b8 _, by decide, fun h => absurd h (by decide)⟩
   have Rz := R6.fill b8 (.func (.func nw6) #[] cw6)
   generalize w6.setCell ⟨n8, 0, none⟩ (.func (.func nw6) #[] cw6) = wz at hbz bz Rz ⊢
   have A6 := A3.below hbz
   have g6 := g3.trans (Went.of_below hbz _ _)
   have bnb6 := bnb3.below hbz
   have bq6 := bq3.below hbz
   have bt6 := bt3.below hbz
   have bp6 := bp3.below hbz
   have ynb0 : wz.cell? ⟨nb, 0, none⟩ = some (.int .i64 u.k) := bnb6.cell 0
   have ynb1 : wz.cell? ⟨nb, 1, none⟩ = some (.int .i64 u.n) := bnb6.cell 1
   have ylnb := bnb6.lt
   have yq0 : wz.cell? ⟨q, 0, none⟩ = some (.bool h.sh) := bq6.cell 0
   have yq1 : wz.cell? ⟨q, 1, none⟩ = some (.bool false) := (bq6.cell 1).trans (congrArg (fun b => some (Value.bool b)) hca'.out)
   have yq2 : wz.cell? ⟨q, 2, none⟩ = some (.bool h.fx) := bq6.cell 2
   have yq3 : wz.cell? ⟨q, 3, none⟩ = some (.int .i64 h.mr) := bq6.cell 3
   have ylq := bq6.lt
   have yt0 : wz.cell? ⟨t, 0, none⟩ = some (.int .i64 rq.op) := bt6.cell 0
   have yt1 : wz.cell? ⟨t, 1, none⟩ = some (.int .i64 rq.at_) := bt6.cell 1
   have yt2 : wz.cell? ⟨t, 2, none⟩ = some (.int .i64 rq.fd) := bt6.cell 2
   have yt3 : wz.cell? ⟨t, 3, none⟩ = some (.int .i64 rq.x.k) := bt6.cell 3
   have yt4 : wz.cell? ⟨t, 4, none⟩ = some (.int .i64 rq.x.n) := bt6.cell 4
   have yt5 : wz.cell? ⟨t, 5, none⟩ = some (.int .i64 rq.y.k) := bt6.cell 5
   have yt6 : wz.cell? ⟨t, 6, none⟩ = some (.int .i64 rq.y.n) := bt6.cell 6
   have ylt := bt6.lt
   have yp0 : wz.cell? ⟨p, 0, none⟩ = some (.int .i64 f) := bp6.cell 0
   have ylp := bp6.lt
   have yz : wz.cell? ⟨n8, 0, none⟩ = some (.func (.func nw6) #[] cw6) := bz.cell 0
   have ylz := bz.lt
   clear keep RD hHeld
   have z0 : wz.cell? ⟨w.heap.size, 0, none⟩ = some (.nilFunc) := A6.cell 0
   have zf0 := A6.free 0
   have z1 : wz.cell? ⟨w.heap.size, 1, none⟩ = some (.bool false) := A6.cell 1
   have zf1 := A6.free 1
   have z2 : wz.cell? ⟨w.heap.size, 2, none⟩ = some (.int .i64 0) := A6.cell 2
   have zf2 := A6.free 2
   have z3 : wz.cell? ⟨w.heap.size, 3, none⟩ = some (.int .i64 0) := A6.cell 3
   have zf3 := A6.free 3
   have z4 : wz.cell? ⟨w.heap.size, 4, none⟩ = some (.int .i64 0) := A6.cell 4
   have zf4 := A6.free 4
   have z5 : wz.cell? ⟨w.heap.size, 5, none⟩ = some (.bool false) := A6.cell 5
   have zf5 := A6.free 5
   go_wp2
   exact bodyPost_ret (v := .agg #[.nilFunc, .bool true, .int .i64 0, .int .i64 0, .int .i64 0, .bool false]) (by simp [results, Tryz.results118, go_sem, z0, z1, z2, z3, z4, z5]) rfl (ran_end (x := ⟨none, true, Ou.zero⟩) A6 g6 rfl)
 ·go_simp
  refine hK.out _ _ (keep _ (hbd.alloc (by have := hbd.size; omega) (.cells #[.nilFunc] 107))) (fun hHeld => ?_)
  clear hK K
  try simp only [Act.put, sA1, sA2, sA3]
  have hbx : Below w3.heap.size w3 (w3.alloc (.cells #[.nilFunc] 107)).drew := ((Below.refl _ w3).alloc (Nat.le_refl _) (.cells #[.nilFunc] 107)).drew
  have b8 : (w3.alloc (.cells #[.nilFunc] 107)).drew.heap[w3.heap.size]? = some (.cells emp 107 (0, 0)) := heap_alloc_new _ _
  generalize (w3.alloc (.cells #[.nilFunc] 107)).drew = wx at hbx b8 ⊢
  obtain ⟨n8, hn8⟩ : ∃ n8, w3.heap.size = n8 := ⟨_, rfl⟩
  rw [hn8] at b8 ⊢
  have ge8 : w3.heap.size ≤ n8 := Nat.le_of_eq hn8
  clear hn8
  refine rd1 9 rfl fun K hK => ?_
  go_simp
  refine (cExchange f v rq h wx).mono ?_
  rintro e w4 ⟨vw4, rfl, R4, hbw4⟩
  have hcw4 := bel_trans hbx hbw4
  obtain ⟨nw4, cw4, hvw4⟩ := R4.fn
  rw [hvw4] at R4 ⊢
  clear hvw4
  have b8 := (hbw4.block n8 (lt_of_block b8)).trans b8
  refine hK.out _ _ (keep _ hcw4) (fun hHeld => ?_)
  clear hK K
  try simp only [Act.put, sA1, sA2, sA3]
  refine rd1 10 rfl fun K hK => ?_
  go_simp
  refine (cShade' rq.y h (.exch f v rq h) _ w4 R4).mono ?_
  rintro e w5 ⟨vw5, rfl, R5, hbw5⟩
  have hcw5 := bel_trans hcw4 hbw5
  obtain ⟨nw5, cw5, hvw5⟩ := R5.fn
  rw [hvw5] at R5 ⊢
  clear hvw5
  have b8 := (hbw5.block n8 (lt_of_block b8)).trans b8
  refine hK.out _ _ (keep _ hcw5) (fun hHeld => ?_)
  clear hK K
  try simp only [Act.put, sA1, sA2, sA3]
  refine rd1 11 rfl fun K hK => ?_
  go_simp
  refine (cShade' u h (shadeK rq.y h (.exch f v rq h)) _ w5 R5).mono ?_
  rintro e w6 ⟨vw6, rfl, R6, hbw6⟩
  have hcw6 := bel_trans hcw5 hbw6
  obtain ⟨nw6, cw6, hvw6⟩ := R6.fn
  rw [hvw6] at R6 ⊢
  clear hvw6
  have b8 := (hbw6.block n8 (lt_of_block b8)).trans b8
  refine hK.out _ _ (keep _ hcw6) (fun hHeld => ?_)
  clear hK K
  try simp only [Act.put, sA1, sA2, sA3]
  have d8 : w6.cell? ⟨n8, 0, none⟩ = some .nilFunc := cell_of_row w6 n8 0 _ _ _ b8
  have f8 : w6.frozen? ⟨n8, 0, none⟩ = false := frozen_of_row w6 _ _ _ _ b8
  refine rd1 13 rfl fun K hK => ?_
  go_simp
  refine hK.out _ _ (keep _ (hcw6.setCell ge8 _)) (fun hHeld => ?_)
  clear hK K
  try simp only [Act.put, sA1, sA2, sA3]
  refine wpAnyH_done (by kernel_rfl) ?_ _
  refine NoPanic.normal ?_
  have hbz : Below w3.heap.size w3 (w6.setCell ⟨n8, 0, none⟩ (.func (.func nw6) #[] cw6)) := hcw6.setCell ge8 _
  have bz : Bx (w6.setCell ⟨n8, 0, none⟩ (.func (.func nw6) #[] cw6)) n8 107 #[.func (.func nw6) #[] cw6] := ⟨Go.Joins.block_setCell b8 _, by decide, fun h => absurd h (by decide)⟩
  have Rz := R6.fill b8 (.func (.func nw6) #[] cw6)
  generalize w6.setCell ⟨n8, 0, none⟩ (.func (.func nw6) #[] cw6) = wz at hbz bz Rz ⊢
  have A6 := A3.below hbz
  have g6 := g3.trans (Went.of_below hbz _ _)
  have bnb6 := bnb3.below hbz
  have bq6 := bq3.below hbz
  have bt6 := bt3.below hbz
  have bp6 := bp3.below hbz
  have ynb0 : wz.cell? ⟨nb, 0, none⟩ = some (.int .i64 u.k) := bnb6.cell 0
  have ynb1 : wz.cell? ⟨nb, 1, none⟩ = some (.int .i64 u.n) := bnb6.cell 1
  have ylnb := bnb6.lt
  have yq0 : wz.cell? ⟨q, 0, none⟩ = some (.bool h.sh) := bq6.cell 0
  have yq1 : wz.cell? ⟨q, 1, none⟩ = some (.bool false) := (bq6.cell 1).trans (congrArg (fun b => some (Value.bool b)) hca'.out)
  have yq2 : wz.cell? ⟨q, 2, none⟩ = some (.bool h.fx) := bq6.cell 2
  have yq3 : wz.cell? ⟨q, 3, none⟩ = some (.int .i64 h.mr) := bq6.cell 3
  have ylq := bq6.lt
  have yt0 : wz.cell? ⟨t, 0, none⟩ = some (.int .i64 rq.op) := bt6.cell 0
  have yt1 : wz.cell? ⟨t, 1, none⟩ = some (.int .i64 rq.at_) := bt6.cell 1
  have yt2 : wz.cell? ⟨t, 2, none⟩ = some (.int .i64 rq.fd) := bt6.cell 2
  have yt3 : wz.cell? ⟨t, 3, none⟩ = some (.int .i64 rq.x.k) := bt6.cell 3
  have yt4 : wz.cell? ⟨t, 4, none⟩ = some (.int .i64 rq.x.n) := bt6.cell 4
  have yt5 : wz.cell? ⟨t, 5, none⟩ = some (.int .i64 rq.y.k) := bt6.cell 5
  have yt6 : wz.cell? ⟨t, 6, none⟩ = some (.int .i64 rq.y.n) := bt6.cell 6
  have ylt := bt6.lt
  have yp0 : wz.cell? ⟨p, 0, none⟩ = some (.int .i64 f) := bp6.cell 0
  have ylp := bp6.lt
  have yz : wz.cell? ⟨n8, 0, none⟩ = some (.func (.func nw6) #[] cw6) := bz.cell 0
  have ylz := bz.lt
  clear keep RD hHeld
  have z0 : wz.cell? ⟨w.heap.size, 0, none⟩ = some (.nilFunc) := A6.cell 0
  have zf0 := A6.free 0
  have z1 : wz.cell? ⟨w.heap.size, 1, none⟩ = some (.bool false) := A6.cell 1
  have zf1 := A6.free 1
  have z2 : wz.cell? ⟨w.heap.size, 2, none⟩ = some (.int .i64 0) := A6.cell 2
  have zf2 := A6.free 2
  have z3 : wz.cell? ⟨w.heap.size, 3, none⟩ = some (.int .i64 0) := A6.cell 3
  have zf3 := A6.free 3
  have z4 : wz.cell? ⟨w.heap.size, 4, none⟩ = some (.int .i64 0) := A6.cell 4
  have zf4 := A6.free 4
  have z5 : wz.cell? ⟨w.heap.size, 5, none⟩ = some (.bool false) := A6.cell 5
  have zf5 := A6.free 5
  go_wp2
  exact bodyPost_ret (v := .agg #[.nilFunc, .bool true, .int .i64 0, .int .i64 0, .int .i64 0, .bool false]) (by simp [results, Tryz.results118, go_sem, z0, z1, z2, z3, z4, z5]) rfl (ran_end (x := ⟨none, true, Ou.zero⟩) A6 g6 rfl)
end
end Go.Proofs.YtpcoldpphihfmaaGreatDoor
