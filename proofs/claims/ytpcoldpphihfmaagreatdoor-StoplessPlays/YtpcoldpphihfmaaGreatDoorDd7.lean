import Derived.Test.YtpcoldpphihfmaaGreatDoorDd2
import Derived.Test.YtpcoldpphihfmaaGreatDoorDeq
namespace Go.Proofs.YtpcoldpphihfmaaGreatDoor
set_option linter.unusedVariables false
set_option maxRecDepth 100000
open Go.ChangeShapes Go.WideShapes Go.RowKit
open H.Plain (hw pS pC pN pM pG pT pL mv)
section
variable {w : World} {L : Loc} {s : St}
set_option maxHeartbeats 1000000 in
theorem kSwapN1 {f : Int} {rq : Rq} {h : Hw} (hm : Mm w L s) (ft : s.Fit) (hc : s.c < 1000000) (rr : s.Rng) (W : H.Wid w) (z : 1 ∉ L.fp) {p q t : Nat} (bp : Bx w p 3 #[.int .i64 f]) (bq : Bx w q 102 h.cells) (bt : Bx w t 48 rq.cells) (he : Vl.of (s.got f) ≠ rq.x) (hca : h.ca = true) (hf1 : (Vl.of (s.got f)).far = false) :
  Calls Tryz.prog 118 #[pt L.b, pt p, pt q, pt t] w fun e w' => Ran w L (⟨none, true, Ou.zero⟩) (s.load f) e w' := by
 have A0 := at0 hm W z
 have cp0 : w.cell? ⟨p, 0, none⟩ = some (.int .i64 f) := bp.cell 0
 have clp := bp.lt
 have hr := rr.got f
 obtain ⟨v, hv⟩ : ∃ v, s.got f = v := ⟨_, rfl⟩
 rw [hv] at hr
 obtain ⟨u, hu⟩ : ∃ u, Vl.of v = u := ⟨_, rfl⟩
 have hk : F.Plain.kind v = u.k := by rw [← hu]; rfl
 have hn : F.Plain.num v = u.n := by rw [← hu]; rfl
 have bp0 := bp.below ((Below.refl _ w).alloc (Nat.le_refl _) (.cells #[.nilFunc, .bool false, .int .i64 0, .int .i64 0, .int .i64 0, .bool false] 109))
 have bq0 := bq.below ((Below.refl _ w).alloc (Nat.le_refl _) (.cells #[.nilFunc, .bool false, .int .i64 0, .int .i64 0, .int .i64 0, .bool false] 109))
 have bt0 := bt.below ((Below.refl _ w).alloc (Nat.le_refl _) (.cells #[.nilFunc, .bool false, .int .i64 0, .int .i64 0, .int .i64 0, .bool false] 109))
 rw [hv, hu] at he
 have heq := eqVal_f he
 clear he
 have hca' : Hid (h.ca = true) := hca
 clear hca
 rw [hv, hu] at hf1
 go_enter Tryz.func118, Tryz.ntmps118
 go_upto_region 3 with (first
  | (go_at_call 34; refine (cLoad A0.mem ft hc f).mono ?_; rintro e w1 ⟨rfl, L1, hm1, st⟩; rw [hv]; have A1 := A0.step hm1 st; have g1 : Went (w.alloc (.cells #[.nilFunc, .bool false, .int .i64 0, .int .i64 0, .int .i64 0, .bool false] 109)) L w.heap.size w1 L1 := Went.of_step st _; have bp1 := bp0.step A0.mem mmM ft st; have bq1 := bq0.step A0.mem mmM ft st; have bt1 := bt0.step A0.mem mmM ft st)
  | (go_at_call 97; refine (F.cOf v hr.1 hr.2 _).mono ?_; rintro e w2 ⟨rfl, hw2⟩; rw [hk, hn] at hw2 ⊢; have hb2 : Below w1.heap.size w1 w2 := (by rw [hw2]; go_grown); clear hw2; have A2 := A1.below hb2; have g2 := g1.trans (Went.of_below hb2 _ _); have bp2 := bp1.below hb2; have bq2 := bq1.below hb2; have bt2 := bt1.below hb2))
 have A3 := A2.alloc (.cells #[.int .i64 u.k, .int .i64 u.n] 38)
 have g3 := g2.trans (Went.of_below ((Below.refl _ w2).alloc (Nat.le_refl _) (.cells #[.int .i64 u.k, .int .i64 u.n] 38)) _ _)
 have bv3 : Bx (w2.alloc (.cells #[.int .i64 u.k, .int .i64 u.n] 38)) w2.heap.size 38 #[.int .i64 u.k, .int .i64 u.n] := ⟨heap_alloc_new _ _, by decide, fun h => absurd h (by decide)⟩
 have bp3 := bp2.below ((Below.refl _ w2).alloc (Nat.le_refl _) (.cells #[.int .i64 u.k, .int .i64 u.n] 38))
 have bq3 := bq2.below ((Below.refl _ w2).alloc (Nat.le_refl _) (.cells #[.int .i64 u.k, .int .i64 u.n] 38))
 have bt3 := bt2.below ((Below.refl _ w2).alloc (Nat.le_refl _) (.cells #[.int .i64 u.k, .int .i64 u.n] 38))
 generalize hw3 : w2.alloc (.cells #[.int .i64 u.k, .int .i64 u.n] 38) = w3 at A3 g3 bv3 bp3 bq3 bt3 ⊢
 clear hw3
 generalize w2.heap.size = nb at bv3 ⊢
 have bnb3 := bv3
 have keep : ∀ w', Below w3.heap.size w3 w' → w'.cell? ⟨nb, 0, none⟩ = some (.int .i64 u.k) ∧ w'.cell? ⟨nb, 1, none⟩ = some (.int .i64 u.n) ∧ w'.cell? ⟨q, 0, none⟩ = some (.bool h.sh) ∧ w'.cell? ⟨q, 1, none⟩ = some (.bool h.ca) ∧ w'.cell? ⟨q, 2, none⟩ = some (.bool h.fx) ∧ w'.cell? ⟨q, 3, none⟩ = some (.int .i64 h.mr) ∧ w'.cell? ⟨t, 0, none⟩ = some (.int .i64 rq.op) ∧ w'.cell? ⟨t, 1, none⟩ = some (.int .i64 rq.at_) ∧ w'.cell? ⟨t, 2, none⟩ = some (.int .i64 rq.fd) ∧ w'.cell? ⟨t, 3, none⟩ = some (.int .i64 rq.x.k) ∧ w'.cell? ⟨t, 4, none⟩ = some (.int .i64 rq.x.n) ∧ w'.cell? ⟨t, 5, none⟩ = some (.int .i64 rq.y.k) ∧ w'.cell? ⟨t, 6, none⟩ = some (.int .i64 rq.y.n) ∧ w'.cell? ⟨p, 0, none⟩ = some (.int .i64 f) := fun w' hb => ⟨(bnb3.below hb).cell 0, (bnb3.below hb).cell 1, (bq3.below hb).cell 0, (bq3.below hb).cell 1, (bq3.below hb).cell 2, (bq3.below hb).cell 3, (bt3.below hb).cell 0, (bt3.below hb).cell 1, (bt3.below hb).cell 2, (bt3.below hb).cell 3, (bt3.below hb).cell 4, (bt3.below hb).cell 5, (bt3.below hb).cell 6, (bp3.below hb).cell 0⟩
 have hbd : Below w3.heap.size w3 w3.drew := (Below.refl w3.heap.size w3).drew
 have RD := keep _ hbd
 refine wp_region_noPanic ?_
 refine wp_region_held_drew (S := fun w' => w'.cell? ⟨nb, 0, none⟩ = some (.int .i64 u.k) ∧ w'.cell? ⟨nb, 1, none⟩ = some (.int .i64 u.n) ∧ w'.cell? ⟨q, 0, none⟩ = some (.bool h.sh) ∧ w'.cell? ⟨q, 1, none⟩ = some (.bool h.ca) ∧ w'.cell? ⟨q, 2, none⟩ = some (.bool h.fx) ∧ w'.cell? ⟨q, 3, none⟩ = some (.int .i64 h.mr) ∧ w'.cell? ⟨t, 0, none⟩ = some (.int .i64 rq.op) ∧ w'.cell? ⟨t, 1, none⟩ = some (.int .i64 rq.at_) ∧ w'.cell? ⟨t, 2, none⟩ = some (.int .i64 rq.fd) ∧ w'.cell? ⟨t, 3, none⟩ = some (.int .i64 rq.x.k) ∧ w'.cell? ⟨t, 4, none⟩ = some (.int .i64 rq.x.n) ∧ w'.cell? ⟨t, 5, none⟩ = some (.int .i64 rq.y.k) ∧ w'.cell? ⟨t, 6, none⟩ = some (.int .i64 rq.y.n) ∧ w'.cell? ⟨p, 0, none⟩ = some (.int .i64 f)) (by kernel_rfl) RD (fun hHeld => ?_)
 refine tkH (i := 0) 14 (.agg #[.int .i64 u.k, .int .i64 u.n]) rfl rfl ?_
 simp only [sA1, sA2, sA3]
 refine tkH (i := 1) 15 (.agg #[.bool h.sh, .bool h.ca, .bool h.fx, .int .i64 h.mr]) rfl rfl ?_
 simp only [sA1, sA2, sA3]
 refine tkH (i := 2) 16 (.pointer (some ⟨t, 5, none⟩)) rfl rfl ?_
 simp only [sA1, sA2, sA3]
 refine tkH (i := 3) 17 (.agg #[.int .i64 rq.y.k, .int .i64 rq.y.n]) rfl rfl ?_
 simp only [sA1, sA2, sA3]
 refine tkH (i := 4) 18 (.agg #[.bool h.sh, .bool h.ca, .bool h.fx, .int .i64 h.mr]) rfl rfl ?_
 simp only [sA1, sA2, sA3]
 refine tkH (i := 5) 19 (.int .i64 f) rfl rfl ?_
 simp only [sA1, sA2, sA3]
 refine tkH (i := 6) 20 (.int .u64 v) rfl rfl ?_
 simp only [sA1, sA2, sA3]
 refine tkH (i := 7) 21 (.agg #[.int .i64 rq.op, .int .i64 rq.at_, .int .i64 rq.fd, .int .i64 rq.x.k, .int .i64 rq.x.n, .int .i64 rq.y.k, .int .i64 rq.y.n]) rfl rfl ?_
 simp only [sA1, sA2, sA3]
 refine tkH (i := 8) 22 (.agg #[.bool h.sh, .bool h.ca, .bool h.fx, .int .i64 h.mr]) rfl rfl ?_
 simp only [sA1, sA2, sA3]
 refine rd2 9 12 rfl rfl (fun K hK => ?_) (fun K hK => ?_)
 ·go_simp
  refine (cExchange f v rq h w3.drew).mono ?_
  rintro e w4 ⟨vw4, rfl, R4, hbw4⟩
  have hcw4 := bel_trans hbd hbw4
  obtain ⟨nw4, cw4, hvw4⟩ := R4.fn
  rw [hvw4] at R4 ⊢
  clear hvw4
  refine hK.out _ _ (keep _ hcw4) (fun hHeld => ?_)
  clear hK K
  try simp only [Act.put, sA1, sA2, sA3]
  refine rd2 10 12 rfl rfl (fun K hK => ?_) (fun K hK => ?_)
  ·go_simp
   refine (cShade' rq.y h (.exch f v rq h) _ w4 R4).mono ?_
   rintro e w5 ⟨vw5, rfl, R5, hbw5⟩
   have hcw5 := bel_trans hcw4 hbw5
   obtain ⟨nw5, cw5, hvw5⟩ := R5.fn
   rw [hvw5] at R5 ⊢
   clear hvw5
   refine hK.out _ _ (keep _ hcw5) (fun hHeld => ?_)
   clear hK K
   try simp only [Act.put, sA1, sA2, sA3]
   refine rd2 11 12 rfl rfl (fun K hK => ?_) (fun K hK => ?_)
   ·go_simp
    refine (cShade' u h (shadeK rq.y h (.exch f v rq h)) _ w5 R5).mono ?_
    rintro e w6 ⟨vw6, rfl, R6, hbw6⟩
    have hcw6 := bel_trans hcw5 hbw6
    obtain ⟨nw6, cw6, hvw6⟩ := R6.fn
    rw [hvw6] at R6 ⊢
    clear hvw6
    refine hK.out _ _ (keep _ hcw6) (fun hHeld => ?_)
    clear hK K
    try simp only [Act.put, sA1, sA2, sA3]
    refine rd1 12 rfl fun K hK => ?_
    go_simp
    refine hK.out _ _ (keep _ (hcw6.alloc (by have := hcw6.size; omega) (.cells #[.nilFunc] 107))) (fun hHeld => ?_)
    clear hK K
    try simp only [Act.put, sA1, sA2, sA3]
    have hbx : Below w3.heap.size w3 (w6.alloc (.cells #[.nilFunc] 107)) := hcw6.alloc (by have := hcw6.size; omega) (.cells #[.nilFunc] 107)
    have b8 : (w6.alloc (.cells #[.nilFunc] 107)).heap[w6.heap.size]? = some (.cells emp 107 (0, 0)) := heap_alloc_new _ _
    have ge8 : w3.heap.size ≤ w6.heap.size := hcw6.size
    have Rx := R6.below ((Below.refl _ w6).alloc (Nat.le_refl _) (.cells #[.nilFunc] 107))
    generalize w6.alloc (.cells #[.nilFunc] 107) = wx at hbx b8 Rx ⊢
    generalize w6.heap.size = n8 at b8 ge8 ⊢
    have d8 : wx.cell? ⟨n8, 0, none⟩ = some .nilFunc := cell_of_row wx n8 0 _ _ _ b8
    have f8 : wx.frozen? ⟨n8, 0, none⟩ = false := frozen_of_row wx _ _ _ _ b8
    refine rd1 13 rfl fun K hK => ?_
    go_simp
    refine hK.out _ _ (keep _ (hbx.setCell ge8 _)) (fun hHeld => ?_)
    clear hK K
    try simp only [Act.put, sA1, sA2, sA3]
    refine wpAnyH_done (by kernel_rfl) ?_ _
    refine NoPanic.normal ?_
    have hbz : Below w3.heap.size w3 (wx.setCell ⟨n8, 0, none⟩ (.func (.func nw6) #[] cw6)) := hbx.setCell ge8 _
    have bz : Bx (wx.setCell ⟨n8, 0, none⟩ (.func (.func nw6) #[] cw6)) n8 107 #[.func (.func nw6) #[] cw6] := ⟨Go.Joins.block_setCell b8 _, by decide, fun h => absurd h (by decide)⟩
    have Rz := Rx.fill b8 (.func (.func nw6) #[] cw6)
    generalize wx.setCell ⟨n8, 0, none⟩ (.func (.func nw6) #[] cw6) = wz at hbz bz Rz ⊢
    have A6 := A3.below hbz
    have g6 := g3.trans (Went.of_below hbz _ _)
    have bnb6 := bnb3.below hbz
    have bq6 := bq3.below hbz
    have bt6 := bt3.below hbz
    have bp6 := bp3.below hbz
    have ynb0 : wz.cell? ⟨nb, 0, none⟩ = some (.int .i64 u.k) := bnb6.cell 0
    have ynb1 : wz.cell? ⟨nb, 1, none⟩ = some (.int .i64 u.n) := bnb6.cell 1
    have ylnb := bnb6.lt
    have yq0 : wz.cell? ⟨q, 0, none⟩ = some (.bool h.sh) := bq6.cell 0
    have yq1 : wz.cell? ⟨q, 1, none⟩ = some (.bool true) := (bq6.cell 1).trans (congrArg (fun b => some (Value.bool b)) hca'.out)
    have yq2 : wz.cell? ⟨q, 2, none⟩ = some (.bool h.fx) := bq6.cell 2
    have yq3 : wz.cell? ⟨q, 3, none⟩ = some (.int .i64 h.mr) := bq6.cell 3
    have ylq := bq6.lt
    have yt0 : wz.cell? ⟨t, 0, none⟩ = some (.int .i64 rq.op) := bt6.cell 0
    have yt1 : wz.cell? ⟨t, 1, none⟩ = some (.int .i64 rq.at_) := bt6.cell 1
    have yt2 : wz.cell? ⟨t, 2, none⟩ = some (.int .i64 rq.fd) := bt6.cell 2
    have yt3 : wz.cell? ⟨t, 3, none⟩ = some (.int .i64 rq.x.k) := bt6.cell 3
    have yt4 : wz.cell? ⟨t, 4, none⟩ = some (.int .i64 rq.x.n) := bt6.cell 4
    have yt5 : wz.cell? ⟨t, 5, none⟩ = some (.int .i64 rq.y.k) := bt6.cell 5
    have yt6 : wz.cell? ⟨t, 6, none⟩ = some (.int .i64 rq.y.n) := bt6.cell 6
    have ylt := bt6.lt
    have yp0 : wz.cell? ⟨p, 0, none⟩ = some (.int .i64 f) := bp6.cell 0
    have ylp := bp6.lt
    have yz : wz.cell? ⟨n8, 0, none⟩ = some (.func (.func nw6) #[] cw6) := bz.cell 0
    have ylz := bz.lt
    clear keep RD hHeld
    go_wp2_with (go_at_call_of 113 (Value.agg #[.int .i64 u.k, .int .i64 u.n]); refine (cRefers u _).mono ?_; rintro e w7 ⟨rfl, hbw7⟩; rw [hf1]; have Aw7 := A6.below hbw7; have gw7 := g6.trans (Went.of_below hbw7 _ _); have z0 : w7.cell? ⟨w.heap.size, 0, none⟩ = some (.nilFunc) := Aw7.cell 0; have zf0 := Aw7.free 0; have z1 : w7.cell? ⟨w.heap.size, 1, none⟩ = some (.bool false) := Aw7.cell 1; have zf1 := Aw7.free 1; have z2 : w7.cell? ⟨w.heap.size, 2, none⟩ = some (.int .i64 0) := Aw7.cell 2; have zf2 := Aw7.free 2; have z3 : w7.cell? ⟨w.heap.size, 3, none⟩ = some (.int .i64 0) := Aw7.cell 3; have zf3 := Aw7.free 3; have z4 : w7.cell? ⟨w.heap.size, 4, none⟩ = some (.int .i64 0) := Aw7.cell 4; have zf4 := Aw7.free 4; have z5 : w7.cell? ⟨w.heap.size, 5, none⟩ = some (.bool false) := Aw7.cell 5; have zf5 := Aw7.free 5)
    exact bodyPost_ret (v := .agg #[.nilFunc, .bool true, .int .i64 0, .int .i64 0, .int .i64 0, .bool false]) (by simp [results, Tryz.results118, go_sem, z0, z1, z2, z3, z4, z5]) rfl (ran_end (x := ⟨none, true, Ou.zero⟩) Aw7 gw7 rfl)
   ·go_simp
    refine hK.out _ _ (keep _ (hcw5.alloc (by have := hcw5.size; omega) (.cells #[.nilFunc] 107))) (fun hHeld => ?_)
    clear hK K
    try simp only [Act.put, sA1, sA2, sA3]
    have hbx : Below w3.heap.size w3 (w5.alloc (.cells #[.nilFunc] 107)) := hcw5.alloc (by have := hcw5.size; omega) (.cells #[.nilFunc] 107)
    have b8 : (w5.alloc (.cells #[.nilFunc] 107)).heap[w5.heap.size]? = some (.cells emp 107 (0, 0)) := heap_alloc_new _ _
    have ge8 : w3.heap.size ≤ w5.heap.size := hcw5.size
    have Rx := R5.below ((Below.refl _ w5).alloc (Nat.le_refl _) (.cells #[.nilFunc] 107))
    generalize w5.alloc (.cells #[.nilFunc] 107) = wx at hbx b8 Rx ⊢
    generalize w5.heap.size = n8 at b8 ge8 ⊢
    refine rd1 11 rfl fun K hK => ?_
    go_simp
    refine (cShade' u h (shadeK rq.y h (.exch f v rq h)) _ wx Rx).mono ?_
    rintro e w6 ⟨vw6, rfl, R6, hbw6⟩
    have hcw6 := bel_trans hbx hbw6
    obtain ⟨nw6, cw6, hvw6⟩ := R6.fn
    rw [hvw6] at R6 ⊢
    clear hvw6
    have b8 := (hbw6.block n8 (lt_of_block b8)).trans b8
    refine hK.out _ _ (keep _ hcw6) (fun hHeld => ?_)
    clear hK K
    try simp only [Act.put, sA1, sA2, sA3]
    have d8 : w6.cell? ⟨n8, 0, none⟩ = some .nilFunc := cell_of_row w6 n8 0 _ _ _ b8
    have f8 : w6.frozen? ⟨n8, 0, none⟩ = false := frozen_of_row w6 _ _ _ _ b8
    refine rd1 13 rfl fun K hK => ?_
    go_simp
    refine hK.out _ _ (keep _ (hcw6.setCell ge8 _)) (fun hHeld => ?_)
    clear hK K
    try simp only [Act.put, sA1, sA2, sA3]
    refine wpAnyH_done (by kernel_rfl) ?_ _
    refine NoPanic.normal ?_
    have hbz : Below w3.heap.size w3 (w6.setCell ⟨n8, 0, none⟩ (.func (.func nw6) #[] cw6)) := hcw6.setCell ge8 _
    have bz : Bx (w6.setCell ⟨n8, 0, none⟩ (.func (.func nw6) #[] cw6)) n8 107 #[.func (.func nw6) #[] cw6] := ⟨Go.Joins.block_setCell b8 _, by decide, fun h => absurd h (by decide)⟩
    have Rz := R6.fill b8 (.func (.func nw6) #[] cw6)
    generalize w6.setCell ⟨n8, 0, none⟩ (.func (.func nw6) #[] cw6) = wz at hbz bz Rz ⊢
    have A6 := A3.below hbz
    have g6 := g3.trans (Went.of_below hbz _ _)
    have bnb6 := bnb3.below hbz
    have bq6 := bq3.below hbz
    have bt6 := bt3.below hbz
    have bp6 := bp3.below hbz
    have ynb0 : wz.cell? ⟨nb, 0, none⟩ = some (.int .i64 u.k) := bnb6.cell 0
    have ynb1 : wz.cell? ⟨nb, 1, none⟩ = some (.int .i64 u.n) := bnb6.cell 1
    have ylnb := bnb6.lt
    have yq0 : wz.cell? ⟨q, 0, none⟩ = some (.bool h.sh) := bq6.cell 0
    have yq1 : wz.cell? ⟨q, 1, none⟩ = some (.bool true) := (bq6.cell 1).trans (congrArg (fun b => some (Value.bool b)) hca'.out)
    have yq2 : wz.cell? ⟨q, 2, none⟩ = some (.bool h.fx) := bq6.cell 2
    have yq3 : wz.cell? ⟨q, 3, none⟩ = some (.int .i64 h.mr) := bq6.cell 3
    have ylq := bq6.lt
    have yt0 : wz.cell? ⟨t, 0, none⟩ = some (.int .i64 rq.op) := bt6.cell 0
    have yt1 : wz.cell? ⟨t, 1, none⟩ = some (.int .i64 rq.at_) := bt6.cell 1
    have yt2 : wz.cell? ⟨t, 2, none⟩ = some (.int .i64 rq.fd) := bt6.cell 2
    have yt3 : wz.cell? ⟨t, 3, none⟩ = some (.int .i64 rq.x.k) := bt6.cell 3
    have yt4 : wz.cell? ⟨t, 4, none⟩ = some (.int .i64 rq.x.n) := bt6.cell 4
    have yt5 : wz.cell? ⟨t, 5, none⟩ = some (.int .i64 rq.y.k) := bt6.cell 5
    have yt6 : wz.cell? ⟨t, 6, none⟩ = some (.int .i64 rq.y.n) := bt6.cell 6
    have ylt := bt6.lt
    have yp0 : wz.cell? ⟨p, 0, none⟩ = some (.int .i64 f) := bp6.cell 0
    have ylp := bp6.lt
    have yz : wz.cell? ⟨n8, 0, none⟩ = some (.func (.func nw6) #[] cw6) := bz.cell 0
    have ylz := bz.lt
    clear keep RD hHeld
    go_wp2_with (go_at_call_of 113 (Value.agg #[.int .i64 u.k, .int .i64 u.n]); refine (cRefers u _).mono ?_; rintro e w7 ⟨rfl, hbw7⟩; rw [hf1]; have Aw7 := A6.below hbw7; have gw7 := g6.trans (Went.of_below hbw7 _ _); have z0 : w7.cell? ⟨w.heap.size, 0, none⟩ = some (.nilFunc) := Aw7.cell 0; have zf0 := Aw7.free 0; have z1 : w7.cell? ⟨w.heap.size, 1, none⟩ = some (.bool false) := Aw7.cell 1; have zf1 := Aw7.free 1; have z2 : w7.cell? ⟨w.heap.size, 2, none⟩ = some (.int .i64 0) := Aw7.cell 2; have zf2 := Aw7.free 2; have z3 : w7.cell? ⟨w.heap.size, 3, none⟩ = some (.int .i64 0) := Aw7.cell 3; have zf3 := Aw7.free 3; have z4 : w7.cell? ⟨w.heap.size, 4, none⟩ = some (.int .i64 0) := Aw7.cell 4; have zf4 := Aw7.free 4; have z5 : w7.cell? ⟨w.heap.size, 5, none⟩ = some (.bool false) := Aw7.cell 5; have zf5 := Aw7.free 5)
    exact bodyPost_ret (v := .agg #[.nilFunc, .bool true, .int .i64 0, .int .i64 0, .int .i64 0, .bool false]) (by simp [results, Tryz.results118, go_sem, z0, z1, z2, z3, z4, z5]) rfl (ran_end (x := ⟨none, true, Ou.zero⟩) Aw7 gw7 rfl)
  ·go_simp
   refine hK.out _ _ (keep _ (hcw4.alloc (by have := hcw4.size; omega) (.cells #[.nilFunc] 107))) (fun hHeld => ?_)
   clear hK K
   try simp only [Act.put, sA1, sA2, sA3]
   have hbx : Below w3.heap.size w3 (w4.alloc (.cells #[.nilFunc] 107)) := hcw4.alloc (by have := hcw4.size; omega) (.cells #[.nilFunc] 107)
   have b8 : (w4.alloc (.cells #[.nilFunc] 107)).heap[w4.heap.size]? = some (.cells emp 107 (0, 0)) := heap_alloc_new _ _
   have ge8 : w3.heap.size ≤ w4.heap.size := hcw4.size
   have Rx := R4.below ((Below.refl _ w4).alloc (Nat.le_refl _) (.cells #[.nilFunc] 107))
   generalize w4.alloc (.cells #[.nilFunc] 107) = wx at hbx b8 Rx ⊢
   generalize w4.heap.size = n8 at b8 ge8 ⊢
   refine rd1 10 rfl fun K hK => ?_
   go_simp
   refine (cShade' rq.y h (.exch f v rq h) _ wx Rx).mono ?_
   rintro e w5 ⟨vw5, rfl, R5, hbw5⟩
   have hcw5 := bel_trans hbx hbw5
   obtain ⟨nw5, cw5, hvw5⟩ := R5.fn
   rw [hvw5] at R5 ⊢
   clear hvw5
   have b8 := (hbw5.block n8 (lt_of_block b8)).trans b8
   refine hK.out _ _ (keep _ hcw5) (fun hHeld => ?_)
   clear hK K
   try simp only [Act.put, sA1, sA2, sA3]
   refine rd1 11 rfl fun K hK => ?_
   go_simp
   refine (cShade' u h (shadeK rq.y h (.exch f v rq h)) _ w5 R5).mono ?_
   rintro e w6 ⟨vw6, rfl, R6, hbw6⟩
   have hcw6 := bel_trans hcw5 hbw6
   obtain ⟨nw6, cw6, hvw6⟩ := R6.fn
   rw [hvw6] at R6 ⊢
   clear hvw6
   have b8 := (hbw6.block n8 (lt_of_block b8)).trans b8
   refine hK.out _ _ (keep _ hcw6) (fun hHeld => ?_)
   clear hK K
   try simp only [Act.put, sA1, sA2, sA3]
   have d8 : w6.cell? ⟨n8, 0, none⟩ = some .nilFunc := cell_of_row w6 n8 0 _ _ _ b8
   have f8 : w6.frozen? ⟨n8, 0, none⟩ = false := frozen_of_row w6 _ _ _ _ b8
   refine rd1 13 rfl fun K hK => ?_
   go_simp
   refine hK.out _ _ (keep _ (hcw6.setCell ge8 _)) (fun hHeld => ?_)
   clear hK K
   try simp only [Act.put, sA1, sA2, sA3]
   refine wpAnyH_done (by kernel_rfl) ?_ _
   refine NoPanic.normal ?_
   have hbz : Below w3.heap.size w3 (w6.setCell ⟨n8, 0, none⟩ (.func (.func nw6) #[] cw6)) := hcw6.setCell ge8 _
   have bz : Bx (w6.setCell ⟨n8, 0, none⟩ (.func (.func nw6) #[] cw6)) n8 107 #[.func (.func nw6) #[] cw6] := ⟨Go.Joins.block_setCell b8 _, by decide, fun h => absurd h (by decide)⟩
   have Rz := R6.fill b8 (.func (.func nw6) #[] cw6)
   generalize w6.setCell ⟨n8, 0, none⟩ (.func (.func nw6) #[] cw6) = wz at hbz bz Rz ⊢
   have A6 := A3.below hbz
   have g6 := g3.trans (Went.of_below hbz _ _)
   have bnb6 := bnb3.below hbz
   have bq6 := bq3.below hbz
   have bt6 := bt3.below hbz
   have bp6 := bp3.below hbz
   have ynb0 : wz.cell? ⟨nb, 0, none⟩ = some (.int .i64 u.k) := bnb6.cell 0
   have ynb1 : wz.cell? ⟨nb, 1, none⟩ = some (.int .i64 u.n) := bnb6.cell 1
   have ylnb := bnb6.lt
   have yq0 : wz.cell? ⟨q, 0, none⟩ = some (.bool h.sh) := bq6.cell 0
   have yq1 : wz.cell? ⟨q, 1, none⟩ = some (.bool true) := (bq6.cell 1).trans (congrArg (fun b => some (Value.bool b)) hca'.out)
   have yq2 : wz.cell? ⟨q, 2, none⟩ = some (.bool h.fx) := bq6.cell 2
   have yq3 : wz.cell? ⟨q, 3, none⟩ = some (.int .i64 h.mr) := bq6.cell 3
   have ylq := bq6.lt
   have yt0 : wz.cell? ⟨t, 0, none⟩ = some (.int .i64 rq.op) := bt6.cell 0
   have yt1 : wz.cell? ⟨t, 1, none⟩ = some (.int .i64 rq.at_) := bt6.cell 1
   have yt2 : wz.cell? ⟨t, 2, none⟩ = some (.int .i64 rq.fd) := bt6.cell 2
   have yt3 : wz.cell? ⟨t, 3, none⟩ = some (.int .i64 rq.x.k) := bt6.cell 3
   have yt4 : wz.cell? ⟨t, 4, none⟩ = some (.int .i64 rq.x.n) := bt6.cell 4
   have yt5 : wz.cell? ⟨t, 5, none⟩ = some (.int .i64 rq.y.k) := bt6.cell 5
   have yt6 : wz.cell? ⟨t, 6, none⟩ = some (.int .i64 rq.y.n) := bt6.cell 6
   have ylt := bt6.lt
   have yp0 : wz.cell? ⟨p, 0, none⟩ = some (.int .i64 f) := bp6.cell 0
   have ylp := bp6.lt
   have yz : wz.cell? ⟨n8, 0, none⟩ = some (.func (.func nw6) #[] cw6) := bz.cell 0
   have ylz := bz.lt
   clear keep RD hHeld
   go_wp2_with (go_at_call_of 113 (Value.agg #[.int .i64 u.k, .int .i64 u.n]); refine (cRefers u _).mono ?_; rintro e w7 ⟨rfl, hbw7⟩; rw [hf1]; have Aw7 := A6.below hbw7; have gw7 := g6.trans (Went.of_below hbw7 _ _); have z0 : w7.cell? ⟨w.heap.size, 0, none⟩ = some (.nilFunc) := Aw7.cell 0; have zf0 := Aw7.free 0; have z1 : w7.cell? ⟨w.heap.size, 1, none⟩ = some (.bool false) := Aw7.cell 1; have zf1 := Aw7.free 1; have z2 : w7.cell? ⟨w.heap.size, 2, none⟩ = some (.int .i64 0) := Aw7.cell 2; have zf2 := Aw7.free 2; have z3 : w7.cell? ⟨w.heap.size, 3, none⟩ = some (.int .i64 0) := Aw7.cell 3; have zf3 := Aw7.free 3; have z4 : w7.cell? ⟨w.heap.size, 4, none⟩ = some (.int .i64 0) := Aw7.cell 4; have zf4 := Aw7.free 4; have z5 : w7.cell? ⟨w.heap.size, 5, none⟩ = some (.bool false) := Aw7.cell 5; have zf5 := Aw7.free 5)
   exact bodyPost_ret (v := .agg #[.nilFunc, .bool true, .int .i64 0, .int .i64 0, .int .i64 0, .bool false]) (by simp [results, Tryz.results118, go_sem, z0, z1, z2, z3, z4, z5]) rfl (ran_end (x := ⟨none, true, Ou.zero⟩) Aw7 gw7 rfl)
 ·go_simp
  refine hK.out _ _ (keep _ (hbd.alloc (by have := hbd.size; omega) (.cells #[.nilFunc] 107))) (fun hHeld => ?_)
  clear hK K
  try simp only [Act.put, sA1, sA2, sA3]
  have hbx : Below w3.heap.size w3 (w3.alloc (.cells #[.nilFunc] 107)).drew := ((Below.refl _ w3).alloc (Nat.le_refl _) (.cells #[.nilFunc] 107)).drew
  have b8 : (w3.alloc (.cells #[.nilFunc] 107)).drew.heap[w3.heap.size]? = some (.cells emp 107 (0, 0)) := heap_alloc_new _ _
  generalize (w3.alloc (.cells #[.nilFunc] 107)).drew = wx at hbx b8 ⊢
  obtain ⟨n8, hn8⟩ : ∃ n8, w3.heap.size = n8 := ⟨_, rfl⟩
  rw [hn8] at b8 ⊢
  have ge8 : w3.heap.size ≤ n8 := Nat.le_of_eq hn8
  clear hn8
  refine rd1 9 rfl fun K hK => ?_
  go_simp
  refine (cExchange f v rq h wx).mono ?_
  rintro e w4 ⟨vw4, rfl, R4, hbw4⟩
  have hcw4 := bel_trans hbx hbw4
  obtain ⟨nw4, cw4, hvw4⟩ := R4.fn
  rw [hvw4] at R4 ⊢
  clear hvw4
  have b8 := (hbw4.block n8 (lt_of_block b8)).trans b8
  refine hK.out _ _ (keep _ hcw4) (fun hHeld => ?_)
  clear hK K
  try simp only [Act.put, sA1, sA2, sA3]
  refine rd1 10 rfl fun K hK => ?_
  go_simp
  refine (cShade' rq.y h (.exch f v rq h) _ w4 R4).mono ?_
  rintro e w5 ⟨vw5, rfl, R5, hbw5⟩
  have hcw5 := bel_trans hcw4 hbw5
  obtain ⟨nw5, cw5, hvw5⟩ := R5.fn
  rw [hvw5] at R5 ⊢
  clear hvw5
  have b8 := (hbw5.block n8 (lt_of_block b8)).trans b8
  refine hK.out _ _ (keep _ hcw5) (fun hHeld => ?_)
  clear hK K
  try simp only [Act.put, sA1, sA2, sA3]
  refine rd1 11 rfl fun K hK => ?_
  go_simp
  refine (cShade' u h (shadeK rq.y h (.exch f v rq h)) _ w5 R5).mono ?_
  rintro e w6 ⟨vw6, rfl, R6, hbw6⟩
  have hcw6 := bel_trans hcw5 hbw6
  obtain ⟨nw6, cw6, hvw6⟩ := R6.fn
  rw [hvw6] at R6 ⊢
  clear hvw6
  have b8 := (hbw6.block n8 (lt_of_block b8)).trans b8
  refine hK.out _ _ (keep _ hcw6) (fun hHeld => ?_)
  clear hK K
  try simp only [Act.put, sA1, sA2, sA3]
  have d8 : w6.cell? ⟨n8, 0, none⟩ = some .nilFunc := cell_of_row w6 n8 0 _ _ _ b8
  have f8 : w6.frozen? ⟨n8, 0, none⟩ = false := frozen_of_row w6 _ _ _ _ b8
  refine rd1 13 rfl fun K hK => ?_
  go_simp
  refine hK.out _ _ (keep _ (hcw6.setCell ge8 _)) (fun hHeld => ?_)
  clear hK K
  try simp only [Act.put, sA1, sA2, sA3]
  refine wpAnyH_done (by kernel_rfl) ?_ _
  refine NoPanic.normal ?_
  have hbz : Below w3.heap.size w3 (w6.setCell ⟨n8, 0, none⟩ (.func (.func nw6) #[] cw6)) := hcw6.setCell ge8 _
  have bz : Bx (w6.setCell ⟨n8, 0, none⟩ (.func (.func nw6) #[] cw6)) n8 107 #[.func (.func nw6) #[] cw6] := ⟨Go.Joins.block_setCell b8 _, by decide, fun h => absurd h (by decide)⟩
  have Rz := R6.fill b8 (.func (.func nw6) #[] cw6)
  generalize w6.setCell ⟨n8, 0, none⟩ (.func (.func nw6) #[] cw6) = wz at hbz bz Rz ⊢
  have A6 := A3.below hbz
  have g6 := g3.trans (Went.of_below hbz _ _)
  have bnb6 := bnb3.below hbz
  have bq6 := bq3.below hbz
  have bt6 := bt3.below hbz
  have bp6 := bp3.below hbz
  have ynb0 : wz.cell? ⟨nb, 0, none⟩ = some (.int .i64 u.k) := bnb6.cell 0
  have ynb1 : wz.cell? ⟨nb, 1, none⟩ = some (.int .i64 u.n) := bnb6.cell 1
  have ylnb := bnb6.lt
  have yq0 : wz.cell? ⟨q, 0, none⟩ = some (.bool h.sh) := bq6.cell 0
  have yq1 : wz.cell? ⟨q, 1, none⟩ = some (.bool true) := (bq6.cell 1).trans (congrArg (fun b => some (Value.bool b)) hca'.out)
  have yq2 : wz.cell? ⟨q, 2, none⟩ = some (.bool h.fx) := bq6.cell 2
  have yq3 : wz.cell? ⟨q, 3, none⟩ = some (.int .i64 h.mr) := bq6.cell 3
  have ylq := bq6.lt
  have yt0 : wz.cell? ⟨t, 0, none⟩ = some (.int .i64 rq.op) := bt6.cell 0
  have yt1 : wz.cell? ⟨t, 1, none⟩ = some (.int .i64 rq.at_) := bt6.cell 1
  have yt2 : wz.cell? ⟨t, 2, none⟩ = some (.int .i64 rq.fd) := bt6.cell 2
  have yt3 : wz.cell? ⟨t, 3, none⟩ = some (.int .i64 rq.x.k) := bt6.cell 3
  have yt4 : wz.cell? ⟨t, 4, none⟩ = some (.int .i64 rq.x.n) := bt6.cell 4
  have yt5 : wz.cell? ⟨t, 5, none⟩ = some (.int .i64 rq.y.k) := bt6.cell 5
  have yt6 : wz.cell? ⟨t, 6, none⟩ = some (.int .i64 rq.y.n) := bt6.cell 6
  have ylt := bt6.lt
  have yp0 : wz.cell? ⟨p, 0, none⟩ = some (.int .i64 f) := bp6.cell 0
  have ylp := bp6.lt
  have yz : wz.cell? ⟨n8, 0, none⟩ = some (.func (.func nw6) #[] cw6) := bz.cell 0
  have ylz := bz.lt
  clear keep RD hHeld
  go_wp2_with (go_at_call_of 113 (Value.agg #[.int .i64 u.k, .int .i64 u.n]); refine (cRefers u _).mono ?_; rintro e w7 ⟨rfl, hbw7⟩; rw [hf1]; have Aw7 := A6.below hbw7; have gw7 := g6.trans (Went.of_below hbw7 _ _); have z0 : w7.cell? ⟨w.heap.size, 0, none⟩ = some (.nilFunc) := Aw7.cell 0; have zf0 := Aw7.free 0; have z1 : w7.cell? ⟨w.heap.size, 1, none⟩ = some (.bool false) := Aw7.cell 1; have zf1 := Aw7.free 1; have z2 : w7.cell? ⟨w.heap.size, 2, none⟩ = some (.int .i64 0) := Aw7.cell 2; have zf2 := Aw7.free 2; have z3 : w7.cell? ⟨w.heap.size, 3, none⟩ = some (.int .i64 0) := Aw7.cell 3; have zf3 := Aw7.free 3; have z4 : w7.cell? ⟨w.heap.size, 4, none⟩ = some (.int .i64 0) := Aw7.cell 4; have zf4 := Aw7.free 4; have z5 : w7.cell? ⟨w.heap.size, 5, none⟩ = some (.bool false) := Aw7.cell 5; have zf5 := Aw7.free 5)
  exact bodyPost_ret (v := .agg #[.nilFunc, .bool true, .int .i64 0, .int .i64 0, .int .i64 0, .bool false]) (by simp [results, Tryz.results118, go_sem, z0, z1, z2, z3, z4, z5]) rfl (ran_end (x := ⟨none, true, Ou.zero⟩) Aw7 gw7 rfl)
set_option maxHeartbeats 1000000 in
theorem kSwapN2 {f : Int} {rq : Rq} {h : Hw} (hm : Mm w L s) (ft : s.Fit) (hc : s.c < 1000000) (rr : s.Rng) (W : H.Wid w) (z : 1 ∉ L.fp) {p q t : Nat} (bp : Bx w p 3 #[.int .i64 f]) (bq : Bx w q 102 h.cells) (bt : Bx w t 48 rq.cells) (he : Vl.of (s.got f) ≠ rq.x) (hca : h.ca = true) (hf1 : (Vl.of (s.got f)).far = true) (hf2 : rq.x.far = false) :
  Calls Tryz.prog 118 #[pt L.b, pt p, pt q, pt t] w fun e w' => Ran w L (⟨none, true, Ou.zero⟩) (s.load f) e w' := by
 have A0 := at0 hm W z
 have cp0 : w.cell? ⟨p, 0, none⟩ = some (.int .i64 f) := bp.cell 0
 have clp := bp.lt
 have hr := rr.got f
 obtain ⟨v, hv⟩ : ∃ v, s.got f = v := ⟨_, rfl⟩
 rw [hv] at hr
 obtain ⟨u, hu⟩ : ∃ u, Vl.of v = u := ⟨_, rfl⟩
 have hk : F.Plain.kind v = u.k := by rw [← hu]; rfl
 have hn : F.Plain.num v = u.n := by rw [← hu]; rfl
 have bp0 := bp.below ((Below.refl _ w).alloc (Nat.le_refl _) (.cells #[.nilFunc, .bool false, .int .i64 0, .int .i64 0, .int .i64 0, .bool false] 109))
 have bq0 := bq.below ((Below.refl _ w).alloc (Nat.le_refl _) (.cells #[.nilFunc, .bool false, .int .i64 0, .int .i64 0, .int .i64 0, .bool false] 109))
 have bt0 := bt.below ((Below.refl _ w).alloc (Nat.le_refl _) (.cells #[.nilFunc, .bool false, .int .i64 0, .int .i64 0, .int .i64 0, .bool false] 109))
 rw [hv, hu] at he
 have heq := eqVal_f he
 clear he
 have hca' : Hid (h.ca = true) := hca
 clear hca
 rw [hv, hu] at hf1
 go_enter Tryz.func118, Tryz.ntmps118
 go_upto_region 3 with (first
  | (go_at_call 34; refine (cLoad A0.mem ft hc f).mono ?_; rintro e w1 ⟨rfl, L1, hm1, st⟩; rw [hv]; have A1 := A0.step hm1 st; have g1 : Went (w.alloc (.cells #[.nilFunc, .bool false, .int .i64 0, .int .i64 0, .int .i64 0, .bool false] 109)) L w.heap.size w1 L1 := Went.of_step st _; have bp1 := bp0.step A0.mem mmM ft st; have bq1 := bq0.step A0.mem mmM ft st; have bt1 := bt0.step A0.mem mmM ft st)
  | (go_at_call 97; refine (F.cOf v hr.1 hr.2 _).mono ?_; rintro e w2 ⟨rfl, hw2⟩; rw [hk, hn] at hw2 ⊢; have hb2 : Below w1.heap.size w1 w2 := (by rw [hw2]; go_grown); clear hw2; have A2 := A1.below hb2; have g2 := g1.trans (Went.of_below hb2 _ _); have bp2 := bp1.below hb2; have bq2 := bq1.below hb2; have bt2 := bt1.below hb2))
 have A3 := A2.alloc (.cells #[.int .i64 u.k, .int .i64 u.n] 38)
 have g3 := g2.trans (Went.of_below ((Below.refl _ w2).alloc (Nat.le_refl _) (.cells #[.int .i64 u.k, .int .i64 u.n] 38)) _ _)
 have bv3 : Bx (w2.alloc (.cells #[.int .i64 u.k, .int .i64 u.n] 38)) w2.heap.size 38 #[.int .i64 u.k, .int .i64 u.n] := ⟨heap_alloc_new _ _, by decide, fun h => absurd h (by decide)⟩
 have bp3 := bp2.below ((Below.refl _ w2).alloc (Nat.le_refl _) (.cells #[.int .i64 u.k, .int .i64 u.n] 38))
 have bq3 := bq2.below ((Below.refl _ w2).alloc (Nat.le_refl _) (.cells #[.int .i64 u.k, .int .i64 u.n] 38))
 have bt3 := bt2.below ((Below.refl _ w2).alloc (Nat.le_refl _) (.cells #[.int .i64 u.k, .int .i64 u.n] 38))
 generalize hw3 : w2.alloc (.cells #[.int .i64 u.k, .int .i64 u.n] 38) = w3 at A3 g3 bv3 bp3 bq3 bt3 ⊢
 clear hw3
 generalize w2.heap.size = nb at bv3 ⊢
 have bnb3 := bv3
 have keep : ∀ w', Below w3.heap.size w3 w' → w'.cell? ⟨nb, 0, none⟩ = some (.int .i64 u.k) ∧ w'.cell? ⟨nb, 1, none⟩ = some (.int .i64 u.n) ∧ w'.cell? ⟨q, 0, none⟩ = some (.bool h.sh) ∧ w'.cell? ⟨q, 1, none⟩ = some (.bool h.ca) ∧ w'.cell? ⟨q, 2, none⟩ = some (.bool h.fx) ∧ w'.cell? ⟨q, 3, none⟩ = some (.int .i64 h.mr) ∧ w'.cell? ⟨t, 0, none⟩ = some (.int .i64 rq.op) ∧ w'.cell? ⟨t, 1, none⟩ = some (.int .i64 rq.at_) ∧ w'.cell? ⟨t, 2, none⟩ = some (.int .i64 rq.fd) ∧ w'.cell? ⟨t, 3, none⟩ = some (.int .i64 rq.x.k) ∧ w'.cell? ⟨t, 4, none⟩ = some (.int .i64 rq.x.n) ∧ w'.cell? ⟨t, 5, none⟩ = some (.int .i64 rq.y.k) ∧ w'.cell? ⟨t, 6, none⟩ = some (.int .i64 rq.y.n) ∧ w'.cell? ⟨p, 0, none⟩ = some (.int .i64 f) := fun w' hb => ⟨(bnb3.below hb).cell 0, (bnb3.below hb).cell 1, (bq3.below hb).cell 0, (bq3.below hb).cell 1, (bq3.below hb).cell 2, (bq3.below hb).cell 3, (bt3.below hb).cell 0, (bt3.below hb).cell 1, (bt3.below hb).cell 2, (bt3.below hb).cell 3, (bt3.below hb).cell 4, (bt3.below hb).cell 5, (bt3.below hb).cell 6, (bp3.below hb).cell 0⟩
 have hbd : Below w3.heap.size w3 w3.drew := (Below.refl w3.heap.size w3).drew
 have RD := keep _ hbd
 refine wp_region_noPanic ?_
 refine wp_region_held_drew (S := fun w' => w'.cell? ⟨nb, 0, none⟩ = some (.int .i64 u.k) ∧ w'.cell? ⟨nb, 1, none⟩ = some (.int .i64 u.n) ∧ w'.cell? ⟨q, 0, none⟩ = some (.bool h.sh) ∧ w'.cell? ⟨q, 1, none⟩ = some (.bool h.ca) ∧ w'.cell? ⟨q, 2, none⟩ = some (.bool h.fx) ∧ w'.cell? ⟨q, 3, none⟩ = some (.int .i64 h.mr) ∧ w'.cell? ⟨t, 0, none⟩ = some (.int .i64 rq.op) ∧ w'.cell? ⟨t, 1, none⟩ = some (.int .i64 rq.at_) ∧ w'.cell? ⟨t, 2, none⟩ = some (.int .i64 rq.fd) ∧ w'.cell? ⟨t, 3, none⟩ = some (.int .i64 rq.x.k) ∧ w'.cell? ⟨t, 4, none⟩ = some (.int .i64 rq.x.n) ∧ w'.cell? ⟨t, 5, none⟩ = some (.int .i64 rq.y.k) ∧ w'.cell? ⟨t, 6, none⟩ = some (.int .i64 rq.y.n) ∧ w'.cell? ⟨p, 0, none⟩ = some (.int .i64 f)) (by kernel_rfl) RD (fun hHeld => ?_)
 refine tkH (i := 0) 14 (.agg #[.int .i64 u.k, .int .i64 u.n]) rfl rfl ?_
 simp only [sA1, sA2, sA3]
 refine tkH (i := 1) 15 (.agg #[.bool h.sh, .bool h.ca, .bool h.fx, .int .i64 h.mr]) rfl rfl ?_
 simp only [sA1, sA2, sA3]
 refine tkH (i := 2) 16 (.pointer (some ⟨t, 5, none⟩)) rfl rfl ?_
 simp only [sA1, sA2, sA3]
 refine tkH (i := 3) 17 (.agg #[.int .i64 rq.y.k, .int .i64 rq.y.n]) rfl rfl ?_
 simp only [sA1, sA2, sA3]
 refine tkH (i := 4) 18 (.agg #[.bool h.sh, .bool h.ca, .bool h.fx, .int .i64 h.mr]) rfl rfl ?_
 simp only [sA1, sA2, sA3]
 refine tkH (i := 5) 19 (.int .i64 f) rfl rfl ?_
 simp only [sA1, sA2, sA3]
 refine tkH (i := 6) 20 (.int .u64 v) rfl rfl ?_
 simp only [sA1, sA2, sA3]
 refine tkH (i := 7) 21 (.agg #[.int .i64 rq.op, .int .i64 rq.at_, .int .i64 rq.fd, .int .i64 rq.x.k, .int .i64 rq.x.n, .int .i64 rq.y.k, .int .i64 rq.y.n]) rfl rfl ?_
 simp only [sA1, sA2, sA3]
 refine tkH (i := 8) 22 (.agg #[.bool h.sh, .bool h.ca, .bool h.fx, .int .i64 h.mr]) rfl rfl ?_
 simp only [sA1, sA2, sA3]
 refine rd2 9 12 rfl rfl (fun K hK => ?_) (fun K hK => ?_)
 ·go_simp
  refine (cExchange f v rq h w3.drew).mono ?_
  rintro e w4 ⟨vw4, rfl, R4, hbw4⟩
  have hcw4 := bel_trans hbd hbw4
  obtain ⟨nw4, cw4, hvw4⟩ := R4.fn
  rw [hvw4] at R4 ⊢
  clear hvw4
  refine hK.out _ _ (keep _ hcw4) (fun hHeld => ?_)
  clear hK K
  try simp only [Act.put, sA1, sA2, sA3]
  refine rd2 10 12 rfl rfl (fun K hK => ?_) (fun K hK => ?_)
  ·go_simp
   refine (cShade' rq.y h (.exch f v rq h) _ w4 R4).mono ?_
   rintro e w5 ⟨vw5, rfl, R5, hbw5⟩
   have hcw5 := bel_trans hcw4 hbw5
   obtain ⟨nw5, cw5, hvw5⟩ := R5.fn
   rw [hvw5] at R5 ⊢
   clear hvw5
   refine hK.out _ _ (keep _ hcw5) (fun hHeld => ?_)
   clear hK K
   try simp only [Act.put, sA1, sA2, sA3]
   refine rd2 11 12 rfl rfl (fun K hK => ?_) (fun K hK => ?_)
   ·go_simp
    refine (cShade' u h (shadeK rq.y h (.exch f v rq h)) _ w5 R5).mono ?_
    rintro e w6 ⟨vw6, rfl, R6, hbw6⟩
    have hcw6 := bel_trans hcw5 hbw6
    obtain ⟨nw6, cw6, hvw6⟩ := R6.fn
    rw [hvw6] at R6 ⊢
    clear hvw6
    refine hK.out _ _ (keep _ hcw6) (fun hHeld => ?_)
    clear hK K
    try simp only [Act.put, sA1, sA2, sA3]
    refine rd1 12 rfl fun K hK => ?_
    go_simp
    refine hK.out _ _ (keep _ (hcw6.alloc (by have := hcw6.size; omega) (.cells #[.nilFunc] 107))) (fun hHeld => ?_)
    clear hK K
    try simp only [Act.put, sA1, sA2, sA3]
    have hbx : Below w3.heap.size w3 (w6.alloc (.cells #[.nilFunc] 107)) := hcw6.alloc (by have := hcw6.size; omega) (.cells #[.nilFunc] 107)
    have b8 : (w6.alloc (.cells #[.nilFunc] 107)).heap[w6.heap.size]? = some (.cells emp 107 (0, 0)) := heap_alloc_new _ _
    have ge8 : w3.heap.size ≤ w6.heap.size := hcw6.size
    have Rx := R6.below ((Below.refl _ w6).alloc (Nat.le_refl _) (.cells #[.nilFunc] 107))
    generalize w6.alloc (.cells #[.nilFunc] 107) = wx at hbx b8 Rx ⊢
    generalize w6.heap.size = n8 at b8 ge8 ⊢
    have d8 : wx.cell? ⟨n8, 0, none⟩ = some .nilFunc := cell_of_row wx n8 0 _ _ _ b8
    have f8 : wx.frozen? ⟨n8, 0, none⟩ = false := frozen_of_row wx _ _ _ _ b8
    refine rd1 13 rfl fun K hK => ?_
    go_simp
    refine hK.out _ _ (keep _ (hbx.setCell ge8 _)) (fun hHeld => ?_)
    clear hK K
    try simp only [Act.put, sA1, sA2, sA3]
    refine wpAnyH_done (by kernel_rfl) ?_ _
    refine NoPanic.normal ?_
    have hbz : Below w3.heap.size w3 (wx.setCell ⟨n8, 0, none⟩ (.func (.func nw6) #[] cw6)) := hbx.setCell ge8 _
    have bz : Bx (wx.setCell ⟨n8, 0, none⟩ (.func (.func nw6) #[] cw6)) n8 107 #[.func (.func nw6) #[] cw6] := ⟨Go.Joins.block_setCell b8 _, by decide, fun h => absurd h (by decide)⟩
    have Rz := Rx.fill b8 (.func (.func nw6) #[] cw6)
    generalize wx.setCell ⟨n8, 0, none⟩ (.func (.func nw6) #[] cw6) = wz at hbz bz Rz ⊢
    have A6 := A3.below hbz
    have g6 := g3.trans (Went.of_below hbz _ _)
    have bnb6 := bnb3.below hbz
    have bq6 := bq3.below hbz
    have bt6 := bt3.below hbz
    have bp6 := bp3.below hbz
    have ynb0 : wz.cell? ⟨nb, 0, none⟩ = some (.int .i64 u.k) := bnb6.cell 0
    have ynb1 : wz.cell? ⟨nb, 1, none⟩ = some (.int .i64 u.n) := bnb6.cell 1
    have ylnb := bnb6.lt
    have yq0 : wz.cell? ⟨q, 0, none⟩ = some (.bool h.sh) := bq6.cell 0
    have yq1 : wz.cell? ⟨q, 1, none⟩ = some (.bool true) := (bq6.cell 1).trans (congrArg (fun b => some (Value.bool b)) hca'.out)
    have yq2 : wz.cell? ⟨q, 2, none⟩ = some (.bool h.fx) := bq6.cell 2
    have yq3 : wz.cell? ⟨q, 3, none⟩ = some (.int .i64 h.mr) := bq6.cell 3
    have ylq := bq6.lt
    have yt0 : wz.cell? ⟨t, 0, none⟩ = some (.int .i64 rq.op) := bt6.cell 0
    have yt1 : wz.cell? ⟨t, 1, none⟩ = some (.int .i64 rq.at_) := bt6.cell 1
    have yt2 : wz.cell? ⟨t, 2, none⟩ = some (.int .i64 rq.fd) := bt6.cell 2
    have yt3 : wz.cell? ⟨t, 3, none⟩ = some (.int .i64 rq.x.k) := bt6.cell 3
    have yt4 : wz.cell? ⟨t, 4, none⟩ = some (.int .i64 rq.x.n) := bt6.cell 4
    have yt5 : wz.cell? ⟨t, 5, none⟩ = some (.int .i64 rq.y.k) := bt6.cell 5
    have yt6 : wz.cell? ⟨t, 6, none⟩ = some (.int .i64 rq.y.n) := bt6.cell 6
    have ylt := bt6.lt
    have yp0 : wz.cell? ⟨p, 0, none⟩ = some (.int .i64 f) := bp6.cell 0
    have ylp := bp6.lt
    have yz : wz.cell? ⟨n8, 0, none⟩ = some (.func (.func nw6) #[] cw6) := bz.cell 0
    have ylz := bz.lt
    clear keep RD hHeld
    go_wp2_with (first | (go_at_call_of 113 (Value.agg #[.int .i64 u.k, .int .i64 u.n]); refine (cRefers u _).mono ?_; rintro e w7 ⟨rfl, hbw7⟩; rw [hf1]; have Aw7 := A6.below hbw7; have gw7 := g6.trans (Went.of_below hbw7 _ _); have bt7 := bt6.below hbw7; have zt0 : w7.cell? ⟨t, 0, none⟩ = some (.int .i64 rq.op) := bt7.cell 0; have zt1 : w7.cell? ⟨t, 1, none⟩ = some (.int .i64 rq.at_) := bt7.cell 1; have zt2 : w7.cell? ⟨t, 2, none⟩ = some (.int .i64 rq.fd) := bt7.cell 2; have zt3 : w7.cell? ⟨t, 3, none⟩ = some (.int .i64 rq.x.k) := bt7.cell 3; have zt4 : w7.cell? ⟨t, 4, none⟩ = some (.int .i64 rq.x.n) := bt7.cell 4; have zt5 : w7.cell? ⟨t, 5, none⟩ = some (.int .i64 rq.y.k) := bt7.cell 5; have zt6 : w7.cell? ⟨t, 6, none⟩ = some (.int .i64 rq.y.n) := bt7.cell 6; have zlt := bt7.lt; have bnb7 := bnb6.below hbw7; have znb0 : w7.cell? ⟨nb, 0, none⟩ = some (.int .i64 u.k) := bnb7.cell 0; have znb1 : w7.cell? ⟨nb, 1, none⟩ = some (.int .i64 u.n) := bnb7.cell 1; have zlnb := bnb7.lt; have bz7 := bz.below hbw7; have Rz7 := Rz.below hbw7) | (have hh := bt7; go_at_call_of 113 (Value.agg #[.int .i64 rq.x.k, .int .i64 rq.x.n]); refine (cRefers rq.x _).mono ?_; rintro e w8 ⟨rfl, hbw8⟩; rw [hf2]; have Aw8 := Aw7.below hbw8; have gw8 := gw7.trans (Went.of_below hbw8 _ _); have z0 : w8.cell? ⟨w.heap.size, 0, none⟩ = some (.nilFunc) := Aw8.cell 0; have zf0 := Aw8.free 0; have z1 : w8.cell? ⟨w.heap.size, 1, none⟩ = some (.bool false) := Aw8.cell 1; have zf1 := Aw8.free 1; have z2 : w8.cell? ⟨w.heap.size, 2, none⟩ = some (.int .i64 0) := Aw8.cell 2; have zf2 := Aw8.free 2; have z3 : w8.cell? ⟨w.heap.size, 3, none⟩ = some (.int .i64 0) := Aw8.cell 3; have zf3 := Aw8.free 3; have z4 : w8.cell? ⟨w.heap.size, 4, none⟩ = some (.int .i64 0) := Aw8.cell 4; have zf4 := Aw8.free 4; have z5 : w8.cell? ⟨w.heap.size, 5, none⟩ = some (.bool false) := Aw8.cell 5; have zf5 := Aw8.free 5))
    exact bodyPost_ret (v := .agg #[.nilFunc, .bool true, .int .i64 0, .int .i64 0, .int .i64 0, .bool false]) (by simp [results, Tryz.results118, go_sem, z0, z1, z2, z3, z4, z5]) rfl (ran_end (x := ⟨none, true, Ou.zero⟩) Aw8 gw8 rfl)
   ·go_simp
    refine hK.out _ _ (keep _ (hcw5.alloc (by have := hcw5.size; omega) (.cells #[.nilFunc] 107))) (fun hHeld => ?_)
    clear hK K
    try simp only [Act.put, sA1, sA2, sA3]
    have hbx : Below w3.heap.size w3 (w5.alloc (.cells #[.nilFunc] 107)) := hcw5.alloc (by have := hcw5.size; omega) (.cells #[.nilFunc] 107)
    have b8 : (w5.alloc (.cells #[.nilFunc] 107)).heap[w5.heap.size]? = some (.cells emp 107 (0, 0)) := heap_alloc_new _ _
    have ge8 : w3.heap.size ≤ w5.heap.size := hcw5.size
    have Rx := R5.below ((Below.refl _ w5).alloc (Nat.le_refl _) (.cells #[.nilFunc] 107))
    generalize w5.alloc (.cells #[.nilFunc] 107) = wx at hbx b8 Rx ⊢
    generalize w5.heap.size = n8 at b8 ge8 ⊢
    refine rd1 11 rfl fun K hK => ?_
    go_simp
    refine (cShade' u h (shadeK rq.y h (.exch f v rq h)) _ wx Rx).mono ?_
    rintro e w6 ⟨vw6, rfl, R6, hbw6⟩
    have hcw6 := bel_trans hbx hbw6
    obtain ⟨nw6, cw6, hvw6⟩ := R6.fn
    rw [hvw6] at R6 ⊢
    clear hvw6
    have b8 := (hbw6.block n8 (lt_of_block b8)).trans b8
    refine hK.out _ _ (keep _ hcw6) (fun hHeld => ?_)
    clear hK K
    try simp only [Act.put, sA1, sA2, sA3]
    have d8 : w6.cell? ⟨n8, 0, none⟩ = some .nilFunc := cell_of_row w6 n8 0 _ _ _ b8
    have f8 : w6.frozen? ⟨n8, 0, none⟩ = false := frozen_of_row w6 _ _ _ _ b8
    refine rd1 13 rfl fun K hK => ?_
    go_simp
    refine hK.out _ _ (keep _ (hcw6.setCell ge8 _)) (fun hHeld => ?_)
    clear hK K
    try simp only [Act.put, sA1, sA2, sA3]
    refine wpAnyH_done (by kernel_rfl) ?_ _
    refine NoPanic.normal ?_
    have hbz : Below w3.heap.size w3 (w6.setCell ⟨n8, 0, none⟩ (.func (.func nw6) #[] cw6)) := hcw6.setCell ge8 _
    have bz : Bx (w6.setCell ⟨n8, 0, none⟩ (.func (.func nw6) #[] cw6)) n8 107 #[.func (.func nw6) #[] cw6] := ⟨Go.Joins.block_setCell b8 _, by decide, fun h => absurd h (by decide)⟩
    have Rz := R6.fill b8 (.func (.func nw6) #[] cw6)
    generalize w6.setCell ⟨n8, 0, none⟩ (.func (.func nw6) #[] cw6) = wz at hbz bz Rz ⊢
    have A6 := A3.below hbz
    have g6 := g3.trans (Went.of_below hbz _ _)
    have bnb6 := bnb3.below hbz
    have bq6 := bq3.below hbz
    have bt6 := bt3.below hbz
    have bp6 := bp3.below hbz
    have ynb0 : wz.cell? ⟨nb, 0, none⟩ = some (.int .i64 u.k) := bnb6.cell 0
    have ynb1 : wz.cell? ⟨nb, 1, none⟩ = some (.int .i64 u.n) := bnb6.cell 1
    have ylnb := bnb6.lt
    have yq0 : wz.cell? ⟨q, 0, none⟩ = some (.bool h.sh) := bq6.cell 0
    have yq1 : wz.cell? ⟨q, 1, none⟩ = some (.bool true) := (bq6.cell 1).trans (congrArg (fun b => some (Value.bool b)) hca'.out)
    have yq2 : wz.cell? ⟨q, 2, none⟩ = some (.bool h.fx) := bq6.cell 2
    have yq3 : wz.cell? ⟨q, 3, none⟩ = some (.int .i64 h.mr) := bq6.cell 3
    have ylq := bq6.lt
    have yt0 : wz.cell? ⟨t, 0, none⟩ = some (.int .i64 rq.op) := bt6.cell 0
    have yt1 : wz.cell? ⟨t, 1, none⟩ = some (.int .i64 rq.at_) := bt6.cell 1
    have yt2 : wz.cell? ⟨t, 2, none⟩ = some (.int .i64 rq.fd) := bt6.cell 2
    have yt3 : wz.cell? ⟨t, 3, none⟩ = some (.int .i64 rq.x.k) := bt6.cell 3
    have yt4 : wz.cell? ⟨t, 4, none⟩ = some (.int .i64 rq.x.n) := bt6.cell 4
    have yt5 : wz.cell? ⟨t, 5, none⟩ = some (.int .i64 rq.y.k) := bt6.cell 5
    have yt6 : wz.cell? ⟨t, 6, none⟩ = some (.int .i64 rq.y.n) := bt6.cell 6
    have ylt := bt6.lt
    have yp0 : wz.cell? ⟨p, 0, none⟩ = some (.int .i64 f) := bp6.cell 0
    have ylp := bp6.lt
    have yz : wz.cell? ⟨n8, 0, none⟩ = some (.func (.func nw6) #[] cw6) := bz.cell 0
    have ylz := bz.lt
    clear keep RD hHeld
    go_wp2_with (first | (go_at_call_of 113 (Value.agg #[.int .i64 u.k, .int .i64 u.n]); refine (cRefers u _).mono ?_; rintro e w7 ⟨rfl, hbw7⟩; rw [hf1]; have Aw7 := A6.below hbw7; have gw7 := g6.trans (Went.of_below hbw7 _ _); have bt7 := bt6.below hbw7; have zt0 : w7.cell? ⟨t, 0, none⟩ = some (.int .i64 rq.op) := bt7.cell 0; have zt1 : w7.cell? ⟨t, 1, none⟩ = some (.int .i64 rq.at_) := bt7.cell 1; have zt2 : w7.cell? ⟨t, 2, none⟩ = some (.int .i64 rq.fd) := bt7.cell 2; have zt3 : w7.cell? ⟨t, 3, none⟩ = some (.int .i64 rq.x.k) := bt7.cell 3; have zt4 : w7.cell? ⟨t, 4, none⟩ = some (.int .i64 rq.x.n) := bt7.cell 4; have zt5 : w7.cell? ⟨t, 5, none⟩ = some (.int .i64 rq.y.k) := bt7.cell 5; have zt6 : w7.cell? ⟨t, 6, none⟩ = some (.int .i64 rq.y.n) := bt7.cell 6; have zlt := bt7.lt; have bnb7 := bnb6.below hbw7; have znb0 : w7.cell? ⟨nb, 0, none⟩ = some (.int .i64 u.k) := bnb7.cell 0; have znb1 : w7.cell? ⟨nb, 1, none⟩ = some (.int .i64 u.n) := bnb7.cell 1; have zlnb := bnb7.lt; have bz7 := bz.below hbw7; have Rz7 := Rz.below hbw7) | (have hh := bt7; go_at_call_of 113 (Value.agg #[.int .i64 rq.x.k, .int .i64 rq.x.n]); refine (cRefers rq.x _).mono ?_; rintro e w8 ⟨rfl, hbw8⟩; rw [hf2]; have Aw8 := Aw7.below hbw8; have gw8 := gw7.trans (Went.of_below hbw8 _ _); have z0 : w8.cell? ⟨w.heap.size, 0, none⟩ = some (.nilFunc) := Aw8.cell 0; have zf0 := Aw8.free 0; have z1 : w8.cell? ⟨w.heap.size, 1, none⟩ = some (.bool false) := Aw8.cell 1; have zf1 := Aw8.free 1; have z2 : w8.cell? ⟨w.heap.size, 2, none⟩ = some (.int .i64 0) := Aw8.cell 2; have zf2 := Aw8.free 2; have z3 : w8.cell? ⟨w.heap.size, 3, none⟩ = some (.int .i64 0) := Aw8.cell 3; have zf3 := Aw8.free 3; have z4 : w8.cell? ⟨w.heap.size, 4, none⟩ = some (.int .i64 0) := Aw8.cell 4; have zf4 := Aw8.free 4; have z5 : w8.cell? ⟨w.heap.size, 5, none⟩ = some (.bool false) := Aw8.cell 5; have zf5 := Aw8.free 5))
    exact bodyPost_ret (v := .agg #[.nilFunc, .bool true, .int .i64 0, .int .i64 0, .int .i64 0, .bool false]) (by simp [results, Tryz.results118, go_sem, z0, z1, z2, z3, z4, z5]) rfl (ran_end (x := ⟨none, true, Ou.zero⟩) Aw8 gw8 rfl)
  ·go_simp
   refine hK.out _ _ (keep _ (hcw4.alloc (by have := hcw4.size; omega) (.cells #[.nilFunc] 107))) (fun hHeld => ?_)
   clear hK K
   try simp only [Act.put, sA1, sA2, sA3]
   have hbx : Below w3.heap.size w3 (w4.alloc (.cells #[.nilFunc] 107)) := hcw4.alloc (by have := hcw4.size; omega) (.cells #[.nilFunc] 107)
   have b8 : (w4.alloc (.cells #[.nilFunc] 107)).heap[w4.heap.size]? = some (.cells emp 107 (0, 0)) := heap_alloc_new _ _
   have ge8 : w3.heap.size ≤ w4.heap.size := hcw4.size
   have Rx := R4.below ((Below.refl _ w4).alloc (Nat.le_refl _) (.cells #[.nilFunc] 107))
   generalize w4.alloc (.cells #[.nilFunc] 107) = wx at hbx b8 Rx ⊢
   generalize w4.heap.size = n8 at b8 ge8 ⊢
   refine rd1 10 rfl fun K hK => ?_
   go_simp
   refine (cShade' rq.y h (.exch f v rq h) _ wx Rx).mono ?_
   rintro e w5 ⟨vw5, rfl, R5, hbw5⟩
   have hcw5 := bel_trans hbx hbw5
   obtain ⟨nw5, cw5, hvw5⟩ := R5.fn
   rw [hvw5] at R5 ⊢
   clear hvw5
   have b8 := (hbw5.block n8 (lt_of_block b8)).trans b8
   refine hK.out _ _ (keep _ hcw5) (fun hHeld => ?_)
   clear hK K
   try simp only [Act.put, sA1, sA2, sA3]
   refine rd1 11 rfl fun K hK => ?_
   go_simp
   refine (cShade' u h (shadeK rq.y h (.exch f v rq h)) _ w5 R5).mono ?_
   rintro e w6 ⟨vw6, rfl, R6, hbw6⟩
   have hcw6 := bel_trans hcw5 hbw6
   obtain ⟨nw6, cw6, hvw6⟩ := R6.fn
   rw [hvw6] at R6 ⊢
   clear hvw6
   have b8 := (hbw6.block n8 (lt_of_block b8)).trans b8
   refine hK.out _ _ (keep _ hcw6) (fun hHeld => ?_)
   clear hK K
   try simp only [Act.put, sA1, sA2, sA3]
   have d8 : w6.cell? ⟨n8, 0, none⟩ = some .nilFunc := cell_of_row w6 n8 0 _ _ _ b8
   have f8 : w6.frozen? ⟨n8, 0, none⟩ = false := frozen_of_row w6 _ _ _ _ b8
   refine rd1 13 rfl fun K hK => ?_
   go_simp
   refine hK.out _ _ (keep _ (hcw6.setCell ge8 _)) (fun hHeld => ?_)
   clear hK K
   try simp only [Act.put, sA1, sA2, sA3]
   refine wpAnyH_done (by kernel_rfl) ?_ _
   refine NoPanic.normal ?_
   have hbz : Below w3.heap.size w3 (w6.setCell ⟨n8, 0, none⟩ (.func (.func nw6) #[] cw6)) := hcw6.setCell ge8 _
   have bz : Bx (w6.setCell ⟨n8, 0, none⟩ (.func (.func nw6) #[] cw6)) n8 107 #[.func (.func nw6) #[] cw6] := ⟨Go.Joins.block_setCell b8 _, by decide, fun h => absurd h (by decide)⟩
   have Rz := R6.fill b8 (.func (.func nw6) #[] cw6)
   generalize w6.setCell ⟨n8, 0, none⟩ (.func (.func nw6) #[] cw6) = wz at hbz bz Rz ⊢
   have A6 := A3.below hbz
   have g6 := g3.trans (Went.of_below hbz _ _)
   have bnb6 := bnb3.below hbz
   have bq6 := bq3.below hbz
   have bt6 := bt3.below hbz
   have bp6 := bp3.below hbz
   have ynb0 : wz.cell? ⟨nb, 0, none⟩ = some (.int .i64 u.k) := bnb6.cell 0
   have ynb1 : wz.cell? ⟨nb, 1, none⟩ = some (.int .i64 u.n) := bnb6.cell 1
   have ylnb := bnb6.lt
   have yq0 : wz.cell? ⟨q, 0, none⟩ = some (.bool h.sh) := bq6.cell 0
   have yq1 : wz.cell? ⟨q, 1, none⟩ = some (.bool true) := (bq6.cell 1).trans (congrArg (fun b => some (Value.bool b)) hca'.out)
   have yq2 : wz.cell? ⟨q, 2, none⟩ = some (.bool h.fx) := bq6.cell 2
   have yq3 : wz.cell? ⟨q, 3, none⟩ = some (.int .i64 h.mr) := bq6.cell 3
   have ylq := bq6.lt
   have yt0 : wz.cell? ⟨t, 0, none⟩ = some (.int .i64 rq.op) := bt6.cell 0
   have yt1 : wz.cell? ⟨t, 1, none⟩ = some (.int .i64 rq.at_) := bt6.cell 1
   have yt2 : wz.cell? ⟨t, 2, none⟩ = some (.int .i64 rq.fd) := bt6.cell 2
   have yt3 : wz.cell? ⟨t, 3, none⟩ = some (.int .i64 rq.x.k) := bt6.cell 3
   have yt4 : wz.cell? ⟨t, 4, none⟩ = some (.int .i64 rq.x.n) := bt6.cell 4
   have yt5 : wz.cell? ⟨t, 5, none⟩ = some (.int .i64 rq.y.k) := bt6.cell 5
   have yt6 : wz.cell? ⟨t, 6, none⟩ = some (.int .i64 rq.y.n) := bt6.cell 6
   have ylt := bt6.lt
   have yp0 : wz.cell? ⟨p, 0, none⟩ = some (.int .i64 f) := bp6.cell 0
   have ylp := bp6.lt
   have yz : wz.cell? ⟨n8, 0, none⟩ = some (.func (.func nw6) #[] cw6) := bz.cell 0
   have ylz := bz.lt
   clear keep RD hHeld
   go_wp2_with (first | (go_at_call_of 113 (Value.agg #[.int .i64 u.k, .int .i64 u.n]); refine (cRefers u _).mono ?_; rintro e w7 ⟨rfl, hbw7⟩; rw [hf1]; have Aw7 := A6.below hbw7; have gw7 := g6.trans (Went.of_below hbw7 _ _); have bt7 := bt6.below hbw7; have zt0 : w7.cell? ⟨t, 0, none⟩ = some (.int .i64 rq.op) := bt7.cell 0; have zt1 : w7.cell? ⟨t, 1, none⟩ = some (.int .i64 rq.at_) := bt7.cell 1; have zt2 : w7.cell? ⟨t, 2, none⟩ = some (.int .i64 rq.fd) := bt7.cell 2; have zt3 : w7.cell? ⟨t, 3, none⟩ = some (.int .i64 rq.x.k) := bt7.cell 3; have zt4 : w7.cell? ⟨t, 4, none⟩ = some (.int .i64 rq.x.n) := bt7.cell 4; have zt5 : w7.cell? ⟨t, 5, none⟩ = some (.int .i64 rq.y.k) := bt7.cell 5; have zt6 : w7.cell? ⟨t, 6, none⟩ = some (.int .i64 rq.y.n) := bt7.cell 6; have zlt := bt7.lt; have bnb7 := bnb6.below hbw7; have znb0 : w7.cell? ⟨nb, 0, none⟩ = some (.int .i64 u.k) := bnb7.cell 0; have znb1 : w7.cell? ⟨nb, 1, none⟩ = some (.int .i64 u.n) := bnb7.cell 1; have zlnb := bnb7.lt; have bz7 := bz.below hbw7; have Rz7 := Rz.below hbw7) | (have hh := bt7; go_at_call_of 113 (Value.agg #[.int .i64 rq.x.k, .int .i64 rq.x.n]); refine (cRefers rq.x _).mono ?_; rintro e w8 ⟨rfl, hbw8⟩; rw [hf2]; have Aw8 := Aw7.below hbw8; have gw8 := gw7.trans (Went.of_below hbw8 _ _); have z0 : w8.cell? ⟨w.heap.size, 0, none⟩ = some (.nilFunc) := Aw8.cell 0; have zf0 := Aw8.free 0; have z1 : w8.cell? ⟨w.heap.size, 1, none⟩ = some (.bool false) := Aw8.cell 1; have zf1 := Aw8.free 1; have z2 : w8.cell? ⟨w.heap.size, 2, none⟩ = some (.int .i64 0) := Aw8.cell 2; have zf2 := Aw8.free 2; have z3 : w8.cell? ⟨w.heap.size, 3, none⟩ = some (.int .i64 0) := Aw8.cell 3; have zf3 := Aw8.free 3; have z4 : w8.cell? ⟨w.heap.size, 4, none⟩ = some (.int .i64 0) := Aw8.cell 4; have zf4 := Aw8.free 4; have z5 : w8.cell? ⟨w.heap.size, 5, none⟩ = some (.bool false) := Aw8.cell 5; have zf5 := Aw8.free 5))
   exact bodyPost_ret (v := .agg #[.nilFunc, .bool true, .int .i64 0, .int .i64 0, .int .i64 0, .bool false]) (by simp [results, Tryz.results118, go_sem, z0, z1, z2, z3, z4, z5]) rfl (ran_end (x := ⟨none, true, Ou.zero⟩) Aw8 gw8 rfl)
 ·go_simp
  refine hK.out _ _ (keep _ (hbd.alloc (by have := hbd.size; omega) (.cells #[.nilFunc] 107))) (fun hHeld => ?_)
  clear hK K
  try simp only [Act.put, sA1, sA2, sA3]
  have hbx : Below w3.heap.size w3 (w3.alloc (.cells #[.nilFunc] 107)).drew := ((Below.refl _ w3).alloc (Nat.le_refl _) (.cells #[.nilFunc] 107)).drew
  have b8 : (w3.alloc (.cells #[.nilFunc] 107)).drew.heap[w3.heap.size]? = some (.cells emp 107 (0, 0)) := heap_alloc_new _ _
  generalize (w3.alloc (.cells #[.nilFunc] 107)).drew = wx at hbx b8 ⊢
  obtain ⟨n8, hn8⟩ : ∃ n8, w3.heap.size = n8 := ⟨_, rfl⟩
  rw [hn8] at b8 ⊢
  have ge8 : w3.heap.size ≤ n8 := Nat.le_of_eq hn8
  clear hn8
  refine rd1 9 rfl fun K hK => ?_
  go_simp
  refine (cExchange f v rq h wx).mono ?_
  rintro e w4 ⟨vw4, rfl, R4, hbw4⟩
  have hcw4 := bel_trans hbx hbw4
  obtain ⟨nw4, cw4, hvw4⟩ := R4.fn
  rw [hvw4] at R4 ⊢
  clear hvw4
  have b8 := (hbw4.block n8 (lt_of_block b8)).trans b8
  refine hK.out _ _ (keep _ hcw4) (fun hHeld => ?_)
  clear hK K
  try simp only [Act.put, sA1, sA2, sA3]
  refine rd1 10 rfl fun K hK => ?_
  go_simp
  refine (cShade' rq.y h (.exch f v rq h) _ w4 R4).mono ?_
  rintro e w5 ⟨vw5, rfl, R5, hbw5⟩
  have hcw5 := bel_trans hcw4 hbw5
  obtain ⟨nw5, cw5, hvw5⟩ := R5.fn
  rw [hvw5] at R5 ⊢
  clear hvw5
  have b8 := (hbw5.block n8 (lt_of_block b8)).trans b8
  refine hK.out _ _ (keep _ hcw5) (fun hHeld => ?_)
  clear hK K
  try simp only [Act.put, sA1, sA2, sA3]
  refine rd1 11 rfl fun K hK => ?_
  go_simp
  refine (cShade' u h (shadeK rq.y h (.exch f v rq h)) _ w5 R5).mono ?_
  rintro e w6 ⟨vw6, rfl, R6, hbw6⟩
  have hcw6 := bel_trans hcw5 hbw6
  obtain ⟨nw6, cw6, hvw6⟩ := R6.fn
  rw [hvw6] at R6 ⊢
  clear hvw6
  have b8 := (hbw6.block n8 (lt_of_block b8)).trans b8
  refine hK.out _ _ (keep _ hcw6) (fun hHeld => ?_)
  clear hK K
  try simp only [Act.put, sA1, sA2, sA3]
  have d8 : w6.cell? ⟨n8, 0, none⟩ = some .nilFunc := cell_of_row w6 n8 0 _ _ _ b8
  have f8 : w6.frozen? ⟨n8, 0, none⟩ = false := frozen_of_row w6 _ _ _ _ b8
  refine rd1 13 rfl fun K hK => ?_
  go_simp
  refine hK.out _ _ (keep _ (hcw6.setCell ge8 _)) (fun hHeld => ?_)
  clear hK K
  try simp only [Act.put, sA1, sA2, sA3]
  refine wpAnyH_done (by kernel_rfl) ?_ _
  refine NoPanic.normal ?_
  have hbz : Below w3.heap.size w3 (w6.setCell ⟨n8, 0, none⟩ (.func (.func nw6) #[] cw6)) := hcw6.setCell ge8 _
  have bz : Bx (w6.setCell ⟨n8, 0, none⟩ (.func (.func nw6) #[] cw6)) n8 107 #[.func (.func nw6) #[] cw6] := ⟨Go.Joins.block_setCell b8 _, by decide, fun h => absurd h (by decide)⟩
  have Rz := R6.fill b8 (.func (.func nw6) #[] cw6)
  generalize w6.setCell ⟨n8, 0, none⟩ (.func (.func nw6) #[] cw6) = wz at hbz bz Rz ⊢
  have A6 := A3.below hbz
  have g6 := g3.trans (Went.of_below hbz _ _)
  have bnb6 := bnb3.below hbz
  have bq6 := bq3.below hbz
  have bt6 := bt3.below hbz
  have bp6 := bp3.below hbz
  have ynb0 : wz.cell? ⟨nb, 0, none⟩ = some (.int .i64 u.k) := bnb6.cell 0
  have ynb1 : wz.cell? ⟨nb, 1, none⟩ = some (.int .i64 u.n) := bnb6.cell 1
  have ylnb := bnb6.lt
  have yq0 : wz.cell? ⟨q, 0, none⟩ = some (.bool h.sh) := bq6.cell 0
  have yq1 : wz.cell? ⟨q, 1, none⟩ = some (.bool true) := (bq6.cell 1).trans (congrArg (fun b => some (Value.bool b)) hca'.out)
  have yq2 : wz.cell? ⟨q, 2, none⟩ = some (.bool h.fx) := bq6.cell 2
  have yq3 : wz.cell? ⟨q, 3, none⟩ = some (.int .i64 h.mr) := bq6.cell 3
  have ylq := bq6.lt
  have yt0 : wz.cell? ⟨t, 0, none⟩ = some (.int .i64 rq.op) := bt6.cell 0
  have yt1 : wz.cell? ⟨t, 1, none⟩ = some (.int .i64 rq.at_) := bt6.cell 1
  have yt2 : wz.cell? ⟨t, 2, none⟩ = some (.int .i64 rq.fd) := bt6.cell 2
  have yt3 : wz.cell? ⟨t, 3, none⟩ = some (.int .i64 rq.x.k) := bt6.cell 3
  have yt4 : wz.cell? ⟨t, 4, none⟩ = some (.int .i64 rq.x.n) := bt6.cell 4
  have yt5 : wz.cell? ⟨t, 5, none⟩ = some (.int .i64 rq.y.k) := bt6.cell 5
  have yt6 : wz.cell? ⟨t, 6, none⟩ = some (.int .i64 rq.y.n) := bt6.cell 6
  have ylt := bt6.lt
  have yp0 : wz.cell? ⟨p, 0, none⟩ = some (.int .i64 f) := bp6.cell 0
  have ylp := bp6.lt
  have yz : wz.cell? ⟨n8, 0, none⟩ = some (.func (.func nw6) #[] cw6) := bz.cell 0
  have ylz := bz.lt
  clear keep RD hHeld
  go_wp2_with (first | (go_at_call_of 113 (Value.agg #[.int .i64 u.k, .int .i64 u.n]); refine (cRefers u _).mono ?_; rintro e w7 ⟨rfl, hbw7⟩; rw [hf1]; have Aw7 := A6.below hbw7; have gw7 := g6.trans (Went.of_below hbw7 _ _); have bt7 := bt6.below hbw7; have zt0 : w7.cell? ⟨t, 0, none⟩ = some (.int .i64 rq.op) := bt7.cell 0; have zt1 : w7.cell? ⟨t, 1, none⟩ = some (.int .i64 rq.at_) := bt7.cell 1; have zt2 : w7.cell? ⟨t, 2, none⟩ = some (.int .i64 rq.fd) := bt7.cell 2; have zt3 : w7.cell? ⟨t, 3, none⟩ = some (.int .i64 rq.x.k) := bt7.cell 3; have zt4 : w7.cell? ⟨t, 4, none⟩ = some (.int .i64 rq.x.n) := bt7.cell 4; have zt5 : w7.cell? ⟨t, 5, none⟩ = some (.int .i64 rq.y.k) := bt7.cell 5; have zt6 : w7.cell? ⟨t, 6, none⟩ = some (.int .i64 rq.y.n) := bt7.cell 6; have zlt := bt7.lt; have bnb7 := bnb6.below hbw7; have znb0 : w7.cell? ⟨nb, 0, none⟩ = some (.int .i64 u.k) := bnb7.cell 0; have znb1 : w7.cell? ⟨nb, 1, none⟩ = some (.int .i64 u.n) := bnb7.cell 1; have zlnb := bnb7.lt; have bz7 := bz.below hbw7; have Rz7 := Rz.below hbw7) | (have hh := bt7; go_at_call_of 113 (Value.agg #[.int .i64 rq.x.k, .int .i64 rq.x.n]); refine (cRefers rq.x _).mono ?_; rintro e w8 ⟨rfl, hbw8⟩; rw [hf2]; have Aw8 := Aw7.below hbw8; have gw8 := gw7.trans (Went.of_below hbw8 _ _); have z0 : w8.cell? ⟨w.heap.size, 0, none⟩ = some (.nilFunc) := Aw8.cell 0; have zf0 := Aw8.free 0; have z1 : w8.cell? ⟨w.heap.size, 1, none⟩ = some (.bool false) := Aw8.cell 1; have zf1 := Aw8.free 1; have z2 : w8.cell? ⟨w.heap.size, 2, none⟩ = some (.int .i64 0) := Aw8.cell 2; have zf2 := Aw8.free 2; have z3 : w8.cell? ⟨w.heap.size, 3, none⟩ = some (.int .i64 0) := Aw8.cell 3; have zf3 := Aw8.free 3; have z4 : w8.cell? ⟨w.heap.size, 4, none⟩ = some (.int .i64 0) := Aw8.cell 4; have zf4 := Aw8.free 4; have z5 : w8.cell? ⟨w.heap.size, 5, none⟩ = some (.bool false) := Aw8.cell 5; have zf5 := Aw8.free 5))
  exact bodyPost_ret (v := .agg #[.nilFunc, .bool true, .int .i64 0, .int .i64 0, .int .i64 0, .bool false]) (by simp [results, Tryz.results118, go_sem, z0, z1, z2, z3, z4, z5]) rfl (ran_end (x := ⟨none, true, Ou.zero⟩) Aw8 gw8 rfl)
end
end Go.Proofs.YtpcoldpphihfmaaGreatDoor
namespace Go.Proofs.YtpcoldpphihfmaaGreatDoor
set_option linter.unusedVariables false
set_option maxRecDepth 100000
open Go.ChangeShapes Go.WideShapes Go.RowKit
open H.Plain (hw pS pC pN pM pG pT pL mv)
section
variable {w : World} {L : Loc} {s : St}
set_option maxHeartbeats 1000000 in
theorem kSwapC {f : Int} {rq : Rq} {h : Hw} (hm : Mm w L s) (ft : s.Fit) (hc : s.c < 1000000) (rr : s.Rng) (W : H.Wid w) (z : 1 ∉ L.fp) {p q t : Nat} (bp : Bx w p 3 #[.int .i64 f]) (bq : Bx w q 102 h.cells) (bt : Bx w t 48 rq.cells) (he : Vl.of (s.got f) ≠ rq.x) (hca : h.ca = true) (hf1 : (Vl.of (s.got f)).far = true) (hf2 : rq.x.far = true) :
  Calls Tryz.prog 118 #[pt L.b, pt p, pt q, pt t] w fun e w' => Ran w L (⟨some (.compS (Vl.of (s.got f)).n rq.x.n (behind f (s.got f) rq h)), true, Ou.zero⟩) (s.load f) e w' := by
 have A0 := at0 hm W z
 have cp0 : w.cell? ⟨p, 0, none⟩ = some (.int .i64 f) := bp.cell 0
 have clp := bp.lt
 have hr := rr.got f
 obtain ⟨v, hv⟩ : ∃ v, s.got f = v := ⟨_, rfl⟩
 rw [hv] at hr
 obtain ⟨u, hu⟩ : ∃ u, Vl.of v = u := ⟨_, rfl⟩
 have hk : F.Plain.kind v = u.k := by rw [← hu]; rfl
 have hn : F.Plain.num v = u.n := by rw [← hu]; rfl
 have bp0 := bp.below ((Below.refl _ w).alloc (Nat.le_refl _) (.cells #[.nilFunc, .bool false, .int .i64 0, .int .i64 0, .int .i64 0, .bool false] 109))
 have bq0 := bq.below ((Below.refl _ w).alloc (Nat.le_refl _) (.cells #[.nilFunc, .bool false, .int .i64 0, .int .i64 0, .int .i64 0, .bool false] 109))
 have bt0 := bt.below ((Below.refl _ w).alloc (Nat.le_refl _) (.cells #[.nilFunc, .bool false, .int .i64 0, .int .i64 0, .int .i64 0, .bool false] 109))
 rw [hv, hu] at he
 have heq := eqVal_f he
 clear he
 have hca' : Hid (h.ca = true) := hca
 clear hca
 rw [hv, hu] at hf1
 have hbe : behind f v rq h = shadeK u h (shadeK rq.y h (.exch f v rq h)) := by rw [← hu]; rfl
 rw [hv, hbe, hu]
 go_enter Tryz.func118, Tryz.ntmps118
 go_upto_region 3 with (first
  | (go_at_call 34; refine (cLoad A0.mem ft hc f).mono ?_; rintro e w1 ⟨rfl, L1, hm1, st⟩; rw [hv]; have A1 := A0.step hm1 st; have g1 : Went (w.alloc (.cells #[.nilFunc, .bool false, .int .i64 0, .int .i64 0, .int .i64 0, .bool false] 109)) L w.heap.size w1 L1 := Went.of_step st _; have bp1 := bp0.step A0.mem mmM ft st; have bq1 := bq0.step A0.mem mmM ft st; have bt1 := bt0.step A0.mem mmM ft st)
  | (go_at_call 97; refine (F.cOf v hr.1 hr.2 _).mono ?_; rintro e w2 ⟨rfl, hw2⟩; rw [hk, hn] at hw2 ⊢; have hb2 : Below w1.heap.size w1 w2 := (by rw [hw2]; go_grown); clear hw2; have A2 := A1.below hb2; have g2 := g1.trans (Went.of_below hb2 _ _); have bp2 := bp1.below hb2; have bq2 := bq1.below hb2; have bt2 := bt1.below hb2))
 have A3 := A2.alloc (.cells #[.int .i64 u.k, .int .i64 u.n] 38)
 have g3 := g2.trans (Went.of_below ((Below.refl _ w2).alloc (Nat.le_refl _) (.cells #[.int .i64 u.k, .int .i64 u.n] 38)) _ _)
 have bv3 : Bx (w2.alloc (.cells #[.int .i64 u.k, .int .i64 u.n] 38)) w2.heap.size 38 #[.int .i64 u.k, .int .i64 u.n] := ⟨heap_alloc_new _ _, by decide, fun h => absurd h (by decide)⟩
 have bp3 := bp2.below ((Below.refl _ w2).alloc (Nat.le_refl _) (.cells #[.int .i64 u.k, .int .i64 u.n] 38))
 have bq3 := bq2.below ((Below.refl _ w2).alloc (Nat.le_refl _) (.cells #[.int .i64 u.k, .int .i64 u.n] 38))
 have bt3 := bt2.below ((Below.refl _ w2).alloc (Nat.le_refl _) (.cells #[.int .i64 u.k, .int .i64 u.n] 38))
 generalize hw3 : w2.alloc (.cells #[.int .i64 u.k, .int .i64 u.n] 38) = w3 at A3 g3 bv3 bp3 bq3 bt3 ⊢
 clear hw3
 generalize w2.heap.size = nb at bv3 ⊢
 have bnb3 := bv3
 have keep : ∀ w', Below w3.heap.size w3 w' → w'.cell? ⟨nb, 0, none⟩ = some (.int .i64 u.k) ∧ w'.cell? ⟨nb, 1, none⟩ = some (.int .i64 u.n) ∧ w'.cell? ⟨q, 0, none⟩ = some (.bool h.sh) ∧ w'.cell? ⟨q, 1, none⟩ = some (.bool h.ca) ∧ w'.cell? ⟨q, 2, none⟩ = some (.bool h.fx) ∧ w'.cell? ⟨q, 3, none⟩ = some (.int .i64 h.mr) ∧ w'.cell? ⟨t, 0, none⟩ = some (.int .i64 rq.op) ∧ w'.cell? ⟨t, 1, none⟩ = some (.int .i64 rq.at_) ∧ w'.cell? ⟨t, 2, none⟩ = some (.int .i64 rq.fd) ∧ w'.cell? ⟨t, 3, none⟩ = some (.int .i64 rq.x.k) ∧ w'.cell? ⟨t, 4, none⟩ = some (.int .i64 rq.x.n) ∧ w'.cell? ⟨t, 5, none⟩ = some (.int .i64 rq.y.k) ∧ w'.cell? ⟨t, 6, none⟩ = some (.int .i64 rq.y.n) ∧ w'.cell? ⟨p, 0, none⟩ = some (.int .i64 f) := fun w' hb => ⟨(bnb3.below hb).cell 0, (bnb3.below hb).cell 1, (bq3.below hb).cell 0, (bq3.below hb).cell 1, (bq3.below hb).cell 2, (bq3.below hb).cell 3, (bt3.below hb).cell 0, (bt3.below hb).cell 1, (bt3.below hb).cell 2, (bt3.below hb).cell 3, (bt3.below hb).cell 4, (bt3.below hb).cell 5, (bt3.below hb).cell 6, (bp3.below hb).cell 0⟩
 have hbd : Below w3.heap.size w3 w3.drew := (Below.refl w3.heap.size w3).drew
 have RD := keep _ hbd
 refine wp_region_noPanic ?_
 refine wp_region_held_drew (S := fun w' => w'.cell? ⟨nb, 0, none⟩ = some (.int .i64 u.k) ∧ w'.cell? ⟨nb, 1, none⟩ = some (.int .i64 u.n) ∧ w'.cell? ⟨q, 0, none⟩ = some (.bool h.sh) ∧ w'.cell? ⟨q, 1, none⟩ = some (.bool h.ca) ∧ w'.cell? ⟨q, 2, none⟩ = some (.bool h.fx) ∧ w'.cell? ⟨q, 3, none⟩ = some (.int .i64 h.mr) ∧ w'.cell? ⟨t, 0, none⟩ = some (.int .i64 rq.op) ∧ w'.cell? ⟨t, 1, none⟩ = some (.int .i64 rq.at_) ∧ w'.cell? ⟨t, 2, none⟩ = some (.int .i64 rq.fd) ∧ w'.cell? ⟨t, 3, none⟩ = some (.int .i64 rq.x.k) ∧ w'.cell? ⟨t, 4, none⟩ = some (.int .i64 rq.x.n) ∧ w'.cell? ⟨t, 5, none⟩ = some (.int .i64 rq.y.k) ∧ w'.cell? ⟨t, 6, none⟩ = some (.int .i64 rq.y.n) ∧ w'.cell? ⟨p, 0, none⟩ = some (.int .i64 f)) (by kernel_rfl) RD (fun hHeld => ?_)
 refine tkH (i := 0) 14 (.agg #[.int .i64 u.k, .int .i64 u.n]) rfl rfl ?_
 simp only [sA1, sA2, sA3]
 refine tkH (i := 1) 15 (.agg #[.bool h.sh, .bool h.ca, .bool h.fx, .int .i64 h.mr]) rfl rfl ?_
 simp only [sA1, sA2, sA3]
 refine tkH (i := 2) 16 (.pointer (some ⟨t, 5, none⟩)) rfl rfl ?_
 simp only [sA1, sA2, sA3]
 refine tkH (i := 3) 17 (.agg #[.int .i64 rq.y.k, .int .i64 rq.y.n]) rfl rfl ?_
 simp only [sA1, sA2, sA3]
 refine tkH (i := 4) 18 (.agg #[.bool h.sh, .bool h.ca, .bool h.fx, .int .i64 h.mr]) rfl rfl ?_
 simp only [sA1, sA2, sA3]
 refine tkH (i := 5) 19 (.int .i64 f) rfl rfl ?_
 simp only [sA1, sA2, sA3]
 refine tkH (i := 6) 20 (.int .u64 v) rfl rfl ?_
 simp only [sA1, sA2, sA3]
 refine tkH (i := 7) 21 (.agg #[.int .i64 rq.op, .int .i64 rq.at_, .int .i64 rq.fd, .int .i64 rq.x.k, .int .i64 rq.x.n, .int .i64 rq.y.k, .int .i64 rq.y.n]) rfl rfl ?_
 simp only [sA1, sA2, sA3]
 refine tkH (i := 8) 22 (.agg #[.bool h.sh, .bool h.ca, .bool h.fx, .int .i64 h.mr]) rfl rfl ?_
 simp only [sA1, sA2, sA3]
 refine rd2 9 12 rfl rfl (fun K hK => ?_) (fun K hK => ?_)
 ·go_simp
  refine (cExchange f v rq h w3.drew).mono ?_
  rintro e w4 ⟨vw4, rfl, R4, hbw4⟩
  have hcw4 := bel_trans hbd hbw4
  obtain ⟨nw4, cw4, hvw4⟩ := R4.fn
  rw [hvw4] at R4 ⊢
  clear hvw4
  refine hK.out _ _ (keep _ hcw4) (fun hHeld => ?_)
  clear hK K
  try simp only [Act.put, sA1, sA2, sA3]
  refine rd2 10 12 rfl rfl (fun K hK => ?_) (fun K hK => ?_)
  ·go_simp
   refine (cShade' rq.y h (.exch f v rq h) _ w4 R4).mono ?_
   rintro e w5 ⟨vw5, rfl, R5, hbw5⟩
   have hcw5 := bel_trans hcw4 hbw5
   obtain ⟨nw5, cw5, hvw5⟩ := R5.fn
   rw [hvw5] at R5 ⊢
   clear hvw5
   refine hK.out _ _ (keep _ hcw5) (fun hHeld => ?_)
   clear hK K
   try simp only [Act.put, sA1, sA2, sA3]
   refine rd2 11 12 rfl rfl (fun K hK => ?_) (fun K hK => ?_)
   ·go_simp
    refine (cShade' u h (shadeK rq.y h (.exch f v rq h)) _ w5 R5).mono ?_
    rintro e w6 ⟨vw6, rfl, R6, hbw6⟩
    have hcw6 := bel_trans hcw5 hbw6
    obtain ⟨nw6, cw6, hvw6⟩ := R6.fn
    rw [hvw6] at R6 ⊢
    clear hvw6
    refine hK.out _ _ (keep _ hcw6) (fun hHeld => ?_)
    clear hK K
    try simp only [Act.put, sA1, sA2, sA3]
    refine rd1 12 rfl fun K hK => ?_
    go_simp
    refine hK.out _ _ (keep _ (hcw6.alloc (by have := hcw6.size; omega) (.cells #[.nilFunc] 107))) (fun hHeld => ?_)
    clear hK K
    try simp only [Act.put, sA1, sA2, sA3]
    have hbx : Below w3.heap.size w3 (w6.alloc (.cells #[.nilFunc] 107)) := hcw6.alloc (by have := hcw6.size; omega) (.cells #[.nilFunc] 107)
    have b8 : (w6.alloc (.cells #[.nilFunc] 107)).heap[w6.heap.size]? = some (.cells emp 107 (0, 0)) := heap_alloc_new _ _
    have ge8 : w3.heap.size ≤ w6.heap.size := hcw6.size
    have Rx := R6.below ((Below.refl _ w6).alloc (Nat.le_refl _) (.cells #[.nilFunc] 107))
    generalize w6.alloc (.cells #[.nilFunc] 107) = wx at hbx b8 Rx ⊢
    generalize w6.heap.size = n8 at b8 ge8 ⊢
    have d8 : wx.cell? ⟨n8, 0, none⟩ = some .nilFunc := cell_of_row wx n8 0 _ _ _ b8
    have f8 : wx.frozen? ⟨n8, 0, none⟩ = false := frozen_of_row wx _ _ _ _ b8
    refine rd1 13 rfl fun K hK => ?_
    go_simp
    refine hK.out _ _ (keep _ (hbx.setCell ge8 _)) (fun hHeld => ?_)
    clear hK K
    try simp only [Act.put, sA1, sA2, sA3]
    refine wpAnyH_done (by kernel_rfl) ?_ _
    refine NoPanic.normal ?_
    have hbz : Below w3.heap.size w3 (wx.setCell ⟨n8, 0, none⟩ (.func (.func nw6) #[] cw6)) := hbx.setCell ge8 _
    have bz : Bx (wx.setCell ⟨n8, 0, none⟩ (.func (.func nw6) #[] cw6)) n8 107 #[.func (.func nw6) #[] cw6] := ⟨Go.Joins.block_setCell b8 _, by decide, fun h => absurd h (by decide)⟩
    have Rz := Rx.fill b8 (.func (.func nw6) #[] cw6)
    generalize wx.setCell ⟨n8, 0, none⟩ (.func (.func nw6) #[] cw6) = wz at hbz bz Rz ⊢
    have A6 := A3.below hbz
    have g6 := g3.trans (Went.of_below hbz _ _)
    have bnb6 := bnb3.below hbz
    have bq6 := bq3.below hbz
    have bt6 := bt3.below hbz
    have bp6 := bp3.below hbz
    have ynb0 : wz.cell? ⟨nb, 0, none⟩ = some (.int .i64 u.k) := bnb6.cell 0
    have ynb1 : wz.cell? ⟨nb, 1, none⟩ = some (.int .i64 u.n) := bnb6.cell 1
    have ylnb := bnb6.lt
    have yq0 : wz.cell? ⟨q, 0, none⟩ = some (.bool h.sh) := bq6.cell 0
    have yq1 : wz.cell? ⟨q, 1, none⟩ = some (.bool true) := (bq6.cell 1).trans (congrArg (fun b => some (Value.bool b)) hca'.out)
    have yq2 : wz.cell? ⟨q, 2, none⟩ = some (.bool h.fx) := bq6.cell 2
    have yq3 : wz.cell? ⟨q, 3, none⟩ = some (.int .i64 h.mr) := bq6.cell 3
    have ylq := bq6.lt
    have yt0 : wz.cell? ⟨t, 0, none⟩ = some (.int .i64 rq.op) := bt6.cell 0
    have yt1 : wz.cell? ⟨t, 1, none⟩ = some (.int .i64 rq.at_) := bt6.cell 1
    have yt2 : wz.cell? ⟨t, 2, none⟩ = some (.int .i64 rq.fd) := bt6.cell 2
    have yt3 : wz.cell? ⟨t, 3, none⟩ = some (.int .i64 rq.x.k) := bt6.cell 3
    have yt4 : wz.cell? ⟨t, 4, none⟩ = some (.int .i64 rq.x.n) := bt6.cell 4
    have yt5 : wz.cell? ⟨t, 5, none⟩ = some (.int .i64 rq.y.k) := bt6.cell 5
    have yt6 : wz.cell? ⟨t, 6, none⟩ = some (.int .i64 rq.y.n) := bt6.cell 6
    have ylt := bt6.lt
    have yp0 : wz.cell? ⟨p, 0, none⟩ = some (.int .i64 f) := bp6.cell 0
    have ylp := bp6.lt
    have yz : wz.cell? ⟨n8, 0, none⟩ = some (.func (.func nw6) #[] cw6) := bz.cell 0
    have ylz := bz.lt
    clear keep RD hHeld
    go_wp2_with (first | (go_at_call_of 113 (Value.agg #[.int .i64 u.k, .int .i64 u.n]); refine (cRefers u _).mono ?_; rintro e w7 ⟨rfl, hbw7⟩; rw [hf1]; have Aw7 := A6.below hbw7; have gw7 := g6.trans (Went.of_below hbw7 _ _); have bt7 := bt6.below hbw7; have zt0 : w7.cell? ⟨t, 0, none⟩ = some (.int .i64 rq.op) := bt7.cell 0; have zt1 : w7.cell? ⟨t, 1, none⟩ = some (.int .i64 rq.at_) := bt7.cell 1; have zt2 : w7.cell? ⟨t, 2, none⟩ = some (.int .i64 rq.fd) := bt7.cell 2; have zt3 : w7.cell? ⟨t, 3, none⟩ = some (.int .i64 rq.x.k) := bt7.cell 3; have zt4 : w7.cell? ⟨t, 4, none⟩ = some (.int .i64 rq.x.n) := bt7.cell 4; have zt5 : w7.cell? ⟨t, 5, none⟩ = some (.int .i64 rq.y.k) := bt7.cell 5; have zt6 : w7.cell? ⟨t, 6, none⟩ = some (.int .i64 rq.y.n) := bt7.cell 6; have zlt := bt7.lt; have bnb7 := bnb6.below hbw7; have znb0 : w7.cell? ⟨nb, 0, none⟩ = some (.int .i64 u.k) := bnb7.cell 0; have znb1 : w7.cell? ⟨nb, 1, none⟩ = some (.int .i64 u.n) := bnb7.cell 1; have zlnb := bnb7.lt; have bz7 := bz.below hbw7; have Rz7 := Rz.below hbw7) | (have hh := bt7; go_at_call_of 113 (Value.agg #[.int .i64 rq.x.k, .int .i64 rq.x.n]); refine (cRefers rq.x _).mono ?_; rintro e w8 ⟨rfl, hbw8⟩; rw [hf2]; have Aw8 := Aw7.below hbw8; have gw8 := gw7.trans (Went.of_below hbw8 _ _); have bt8 := bt7.below hbw8; have qt0 : w8.cell? ⟨t, 0, none⟩ = some (.int .i64 rq.op) := bt8.cell 0; have qt1 : w8.cell? ⟨t, 1, none⟩ = some (.int .i64 rq.at_) := bt8.cell 1; have qt2 : w8.cell? ⟨t, 2, none⟩ = some (.int .i64 rq.fd) := bt8.cell 2; have qt3 : w8.cell? ⟨t, 3, none⟩ = some (.int .i64 rq.x.k) := bt8.cell 3; have qt4 : w8.cell? ⟨t, 4, none⟩ = some (.int .i64 rq.x.n) := bt8.cell 4; have qt5 : w8.cell? ⟨t, 5, none⟩ = some (.int .i64 rq.y.k) := bt8.cell 5; have qt6 : w8.cell? ⟨t, 6, none⟩ = some (.int .i64 rq.y.n) := bt8.cell 6; have qlt := bt8.lt; have bnb8 := bnb7.below hbw8; have qnb0 : w8.cell? ⟨nb, 0, none⟩ = some (.int .i64 u.k) := bnb8.cell 0; have qnb1 : w8.cell? ⟨nb, 1, none⟩ = some (.int .i64 u.n) := bnb8.cell 1; have qlnb := bnb8.lt; have bz8 := bz7.below hbw8; have Rz8 := Rz7.below hbw8) | (go_at_call 120; refine (cCompareS u.n rq.x.n n8 _ (shadeK u h (shadeK rq.y h (.exch f v rq h))) _ bz8 Rz8).mono ?_; rintro e w9 ⟨v9, rfl, R9, hb9⟩; have A9 := Aw8.below hb9; have g9 := gw8.trans (Went.of_below hb9 _ _); obtain ⟨n9, c9, hv9⟩ := R9.fn; rw [hv9] at R9 ⊢; clear hv9; have z0 : w9.cell? ⟨w.heap.size, 0, none⟩ = some (.nilFunc) := A9.cell 0; have zf0 := A9.free 0; have z1 : w9.cell? ⟨w.heap.size, 1, none⟩ = some (.bool false) := A9.cell 1; have zf1 := A9.free 1; have z2 : w9.cell? ⟨w.heap.size, 2, none⟩ = some (.int .i64 0) := A9.cell 2; have zf2 := A9.free 2; have z3 : w9.cell? ⟨w.heap.size, 3, none⟩ = some (.int .i64 0) := A9.cell 3; have zf3 := A9.free 3; have z4 : w9.cell? ⟨w.heap.size, 4, none⟩ = some (.int .i64 0) := A9.cell 4; have zf4 := A9.free 4; have z5 : w9.cell? ⟨w.heap.size, 5, none⟩ = some (.bool false) := A9.cell 5; have zf5 := A9.free 5))
    exact bodyPost_ret (v := .agg #[.func (.func n9) #[] c9, .bool true, .int .i64 0, .int .i64 0, .int .i64 0, .bool false]) (by simp [results, Tryz.results118, go_sem, z0, z1, z2, z3, z4, z5]) rfl (ran_end (x := ⟨some (.compS u.n rq.x.n (shadeK u h (shadeK rq.y h (.exch f v rq h)))), true, Ou.zero⟩) A9 g9 R9)
   ·go_simp
    refine hK.out _ _ (keep _ (hcw5.alloc (by have := hcw5.size; omega) (.cells #[.nilFunc] 107))) (fun hHeld => ?_)
    clear hK K
    try simp only [Act.put, sA1, sA2, sA3]
    have hbx : Below w3.heap.size w3 (w5.alloc (.cells #[.nilFunc] 107)) := hcw5.alloc (by have := hcw5.size; omega) (.cells #[.nilFunc] 107)
    have b8 : (w5.alloc (.cells #[.nilFunc] 107)).heap[w5.heap.size]? = some (.cells emp 107 (0, 0)) := heap_alloc_new _ _
    have ge8 : w3.heap.size ≤ w5.heap.size := hcw5.size
    have Rx := R5.below ((Below.refl _ w5).alloc (Nat.le_refl _) (.cells #[.nilFunc] 107))
    generalize w5.alloc (.cells #[.nilFunc] 107) = wx at hbx b8 Rx ⊢
    generalize w5.heap.size = n8 at b8 ge8 ⊢
    refine rd1 11 rfl fun K hK => ?_
    go_simp
    refine (cShade' u h (shadeK rq.y h (.exch f v rq h)) _ wx Rx).mono ?_
    rintro e w6 ⟨vw6, rfl, R6, hbw6⟩
    have hcw6 := bel_trans hbx hbw6
    obtain ⟨nw6, cw6, hvw6⟩ := R6.fn
    rw [hvw6] at R6 ⊢
    clear hvw6
    have b8 := (hbw6.block n8 (lt_of_block b8)).trans b8
    refine hK.out _ _ (keep _ hcw6) (fun hHeld => ?_)
    clear hK K
    try simp only [Act.put, sA1, sA2, sA3]
    have d8 : w6.cell? ⟨n8, 0, none⟩ = some .nilFunc := cell_of_row w6 n8 0 _ _ _ b8
    have f8 : w6.frozen? ⟨n8, 0, none⟩ = false := frozen_of_row w6 _ _ _ _ b8
    refine rd1 13 rfl fun K hK => ?_
    go_simp
    refine hK.out _ _ (keep _ (hcw6.setCell ge8 _)) (fun hHeld => ?_)
    clear hK K
    try simp only [Act.put, sA1, sA2, sA3]
    refine wpAnyH_done (by kernel_rfl) ?_ _
    refine NoPanic.normal ?_
    have hbz : Below w3.heap.size w3 (w6.setCell ⟨n8, 0, none⟩ (.func (.func nw6) #[] cw6)) := hcw6.setCell ge8 _
    have bz : Bx (w6.setCell ⟨n8, 0, none⟩ (.func (.func nw6) #[] cw6)) n8 107 #[.func (.func nw6) #[] cw6] := ⟨Go.Joins.block_setCell b8 _, by decide, fun h => absurd h (by decide)⟩
    have Rz := R6.fill b8 (.func (.func nw6) #[] cw6)
    generalize w6.setCell ⟨n8, 0, none⟩ (.func (.func nw6) #[] cw6) = wz at hbz bz Rz ⊢
    have A6 := A3.below hbz
    have g6 := g3.trans (Went.of_below hbz _ _)
    have bnb6 := bnb3.below hbz
    have bq6 := bq3.below hbz
    have bt6 := bt3.below hbz
    have bp6 := bp3.below hbz
    have ynb0 : wz.cell? ⟨nb, 0, none⟩ = some (.int .i64 u.k) := bnb6.cell 0
    have ynb1 : wz.cell? ⟨nb, 1, none⟩ = some (.int .i64 u.n) := bnb6.cell 1
    have ylnb := bnb6.lt
    have yq0 : wz.cell? ⟨q, 0, none⟩ = some (.bool h.sh) := bq6.cell 0
    have yq1 : wz.cell? ⟨q, 1, none⟩ = some (.bool true) := (bq6.cell 1).trans (congrArg (fun b => some (Value.bool b)) hca'.out)
    have yq2 : wz.cell? ⟨q, 2, none⟩ = some (.bool h.fx) := bq6.cell 2
    have yq3 : wz.cell? ⟨q, 3, none⟩ = some (.int .i64 h.mr) := bq6.cell 3
    have ylq := bq6.lt
    have yt0 : wz.cell? ⟨t, 0, none⟩ = some (.int .i64 rq.op) := bt6.cell 0
    have yt1 : wz.cell? ⟨t, 1, none⟩ = some (.int .i64 rq.at_) := bt6.cell 1
    have yt2 : wz.cell? ⟨t, 2, none⟩ = some (.int .i64 rq.fd) := bt6.cell 2
    have yt3 : wz.cell? ⟨t, 3, none⟩ = some (.int .i64 rq.x.k) := bt6.cell 3
    have yt4 : wz.cell? ⟨t, 4, none⟩ = some (.int .i64 rq.x.n) := bt6.cell 4
    have yt5 : wz.cell? ⟨t, 5, none⟩ = some (.int .i64 rq.y.k) := bt6.cell 5
    have yt6 : wz.cell? ⟨t, 6, none⟩ = some (.int .i64 rq.y.n) := bt6.cell 6
    have ylt := bt6.lt
    have yp0 : wz.cell? ⟨p, 0, none⟩ = some (.int .i64 f) := bp6.cell 0
    have ylp := bp6.lt
    have yz : wz.cell? ⟨n8, 0, none⟩ = some (.func (.func nw6) #[] cw6) := bz.cell 0
    have ylz := bz.lt
    clear keep RD hHeld
    go_wp2_with (first | (go_at_call_of 113 (Value.agg #[.int .i64 u.k, .int .i64 u.n]); refine (cRefers u _).mono ?_; rintro e w7 ⟨rfl, hbw7⟩; rw [hf1]; have Aw7 := A6.below hbw7; have gw7 := g6.trans (Went.of_below hbw7 _ _); have bt7 := bt6.below hbw7; have zt0 : w7.cell? ⟨t, 0, none⟩ = some (.int .i64 rq.op) := bt7.cell 0; have zt1 : w7.cell? ⟨t, 1, none⟩ = some (.int .i64 rq.at_) := bt7.cell 1; have zt2 : w7.cell? ⟨t, 2, none⟩ = some (.int .i64 rq.fd) := bt7.cell 2; have zt3 : w7.cell? ⟨t, 3, none⟩ = some (.int .i64 rq.x.k) := bt7.cell 3; have zt4 : w7.cell? ⟨t, 4, none⟩ = some (.int .i64 rq.x.n) := bt7.cell 4; have zt5 : w7.cell? ⟨t, 5, none⟩ = some (.int .i64 rq.y.k) := bt7.cell 5; have zt6 : w7.cell? ⟨t, 6, none⟩ = some (.int .i64 rq.y.n) := bt7.cell 6; have zlt := bt7.lt; have bnb7 := bnb6.below hbw7; have znb0 : w7.cell? ⟨nb, 0, none⟩ = some (.int .i64 u.k) := bnb7.cell 0; have znb1 : w7.cell? ⟨nb, 1, none⟩ = some (.int .i64 u.n) := bnb7.cell 1; have zlnb := bnb7.lt; have bz7 := bz.below hbw7; have Rz7 := Rz.below hbw7) | (have hh := bt7; go_at_call_of 113 (Value.agg #[.int .i64 rq.x.k, .int .i64 rq.x.n]); refine (cRefers rq.x _).mono ?_; rintro e w8 ⟨rfl, hbw8⟩; rw [hf2]; have Aw8 := Aw7.below hbw8; have gw8 := gw7.trans (Went.of_below hbw8 _ _); have bt8 := bt7.below hbw8; have qt0 : w8.cell? ⟨t, 0, none⟩ = some (.int .i64 rq.op) := bt8.cell 0; have qt1 : w8.cell? ⟨t, 1, none⟩ = some (.int .i64 rq.at_) := bt8.cell 1; have qt2 : w8.cell? ⟨t, 2, none⟩ = some (.int .i64 rq.fd) := bt8.cell 2; have qt3 : w8.cell? ⟨t, 3, none⟩ = some (.int .i64 rq.x.k) := bt8.cell 3; have qt4 : w8.cell? ⟨t, 4, none⟩ = some (.int .i64 rq.x.n) := bt8.cell 4; have qt5 : w8.cell? ⟨t, 5, none⟩ = some (.int .i64 rq.y.k) := bt8.cell 5; have qt6 : w8.cell? ⟨t, 6, none⟩ = some (.int .i64 rq.y.n) := bt8.cell 6; have qlt := bt8.lt; have bnb8 := bnb7.below hbw8; have qnb0 : w8.cell? ⟨nb, 0, none⟩ = some (.int .i64 u.k) := bnb8.cell 0; have qnb1 : w8.cell? ⟨nb, 1, none⟩ = some (.int .i64 u.n) := bnb8.cell 1; have qlnb := bnb8.lt; have bz8 := bz7.below hbw8; have Rz8 := Rz7.below hbw8) | (go_at_call 120; refine (cCompareS u.n rq.x.n n8 _ (shadeK u h (shadeK rq.y h (.exch f v rq h))) _ bz8 Rz8).mono ?_; rintro e w9 ⟨v9, rfl, R9, hb9⟩; have A9 := Aw8.below hb9; have g9 := gw8.trans (Went.of_below hb9 _ _); obtain ⟨n9, c9, hv9⟩ := R9.fn; rw [hv9] at R9 ⊢; clear hv9; have z0 : w9.cell? ⟨w.heap.size, 0, none⟩ = some (.nilFunc) := A9.cell 0; have zf0 := A9.free 0; have z1 : w9.cell? ⟨w.heap.size, 1, none⟩ = some (.bool false) := A9.cell 1; have zf1 := A9.free 1; have z2 : w9.cell? ⟨w.heap.size, 2, none⟩ = some (.int .i64 0) := A9.cell 2; have zf2 := A9.free 2; have z3 : w9.cell? ⟨w.heap.size, 3, none⟩ = some (.int .i64 0) := A9.cell 3; have zf3 := A9.free 3; have z4 : w9.cell? ⟨w.heap.size, 4, none⟩ = some (.int .i64 0) := A9.cell 4; have zf4 := A9.free 4; have z5 : w9.cell? ⟨w.heap.size, 5, none⟩ = some (.bool false) := A9.cell 5; have zf5 := A9.free 5))
    exact bodyPost_ret (v := .agg #[.func (.func n9) #[] c9, .bool true, .int .i64 0, .int .i64 0, .int .i64 0, .bool false]) (by simp [results, Tryz.results118, go_sem, z0, z1, z2, z3, z4, z5]) rfl (ran_end (x := ⟨some (.compS u.n rq.x.n (shadeK u h (shadeK rq.y h (.exch f v rq h)))), true, Ou.zero⟩) A9 g9 R9)
  ·go_simp
   refine hK.out _ _ (keep _ (hcw4.alloc (by have := hcw4.size; omega) (.cells #[.nilFunc] 107))) (fun hHeld => ?_)
   clear hK K
   try simp only [Act.put, sA1, sA2, sA3]
   have hbx : Below w3.heap.size w3 (w4.alloc (.cells #[.nilFunc] 107)) := hcw4.alloc (by have := hcw4.size; omega) (.cells #[.nilFunc] 107)
   have b8 : (w4.alloc (.cells #[.nilFunc] 107)).heap[w4.heap.size]? = some (.cells emp 107 (0, 0)) := heap_alloc_new _ _
   have ge8 : w3.heap.size ≤ w4.heap.size := hcw4.size
   have Rx := R4.below ((Below.refl _ w4).alloc (Nat.le_refl _) (.cells #[.nilFunc] 107))
   generalize w4.alloc (.cells #[.nilFunc] 107) = wx at hbx b8 Rx ⊢
   generalize w4.heap.size = n8 at b8 ge8 ⊢
   refine rd1 10 rfl fun K hK => ?_
   go_simp
   refine (cShade' rq.y h (.exch f v rq h) _ wx Rx).mono ?_
   rintro e w5 ⟨vw5, rfl, R5, hbw5⟩
   have hcw5 := bel_trans hbx hbw5
   obtain ⟨nw5, cw5, hvw5⟩ := R5.fn
   rw [hvw5] at R5 ⊢
   clear hvw5
   have b8 := (hbw5.block n8 (lt_of_block b8)).trans b8
   refine hK.out _ _ (keep _ hcw5) (fun hHeld => ?_)
   clear hK K
   try simp only [Act.put, sA1, sA2, sA3]
   refine rd1 11 rfl fun K hK => ?_
   go_simp
   refine (cShade' u h (shadeK rq.y h (.exch f v rq h)) _ w5 R5).mono ?_
   rintro e w6 ⟨vw6, rfl, R6, hbw6⟩
   have hcw6 := bel_trans hcw5 hbw6
   obtain ⟨nw6, cw6, hvw6⟩ := R6.fn
   rw [hvw6] at R6 ⊢
   clear hvw6
   have b8 := (hbw6.block n8 (lt_of_block b8)).trans b8
   refine hK.out _ _ (keep _ hcw6) (fun hHeld => ?_)
   clear hK K
   try simp only [Act.put, sA1, sA2, sA3]
   have d8 : w6.cell? ⟨n8, 0, none⟩ = some .nilFunc := cell_of_row w6 n8 0 _ _ _ b8
   have f8 : w6.frozen? ⟨n8, 0, none⟩ = false := frozen_of_row w6 _ _ _ _ b8
   refine rd1 13 rfl fun K hK => ?_
   go_simp
   refine hK.out _ _ (keep _ (hcw6.setCell ge8 _)) (fun hHeld => ?_)
   clear hK K
   try simp only [Act.put, sA1, sA2, sA3]
   refine wpAnyH_done (by kernel_rfl) ?_ _
   refine NoPanic.normal ?_
   have hbz : Below w3.heap.size w3 (w6.setCell ⟨n8, 0, none⟩ (.func (.func nw6) #[] cw6)) := hcw6.setCell ge8 _
   have bz : Bx (w6.setCell ⟨n8, 0, none⟩ (.func (.func nw6) #[] cw6)) n8 107 #[.func (.func nw6) #[] cw6] := ⟨Go.Joins.block_setCell b8 _, by decide, fun h => absurd h (by decide)⟩
   have Rz := R6.fill b8 (.func (.func nw6) #[] cw6)
   generalize w6.setCell ⟨n8, 0, none⟩ (.func (.func nw6) #[] cw6) = wz at hbz bz Rz ⊢
   have A6 := A3.below hbz
   have g6 := g3.trans (Went.of_below hbz _ _)
   have bnb6 := bnb3.below hbz
   have bq6 := bq3.below hbz
   have bt6 := bt3.below hbz
   have bp6 := bp3.below hbz
   have ynb0 : wz.cell? ⟨nb, 0, none⟩ = some (.int .i64 u.k) := bnb6.cell 0
   have ynb1 : wz.cell? ⟨nb, 1, none⟩ = some (.int .i64 u.n) := bnb6.cell 1
   have ylnb := bnb6.lt
   have yq0 : wz.cell? ⟨q, 0, none⟩ = some (.bool h.sh) := bq6.cell 0
   have yq1 : wz.cell? ⟨q, 1, none⟩ = some (.bool true) := (bq6.cell 1).trans (congrArg (fun b => some (Value.bool b)) hca'.out)
   have yq2 : wz.cell? ⟨q, 2, none⟩ = some (.bool h.fx) := bq6.cell 2
   have yq3 : wz.cell? ⟨q, 3, none⟩ = some (.int .i64 h.mr) := bq6.cell 3
   have ylq := bq6.lt
   have yt0 : wz.cell? ⟨t, 0, none⟩ = some (.int .i64 rq.op) := bt6.cell 0
   have yt1 : wz.cell? ⟨t, 1, none⟩ = some (.int .i64 rq.at_) := bt6.cell 1
   have yt2 : wz.cell? ⟨t, 2, none⟩ = some (.int .i64 rq.fd) := bt6.cell 2
   have yt3 : wz.cell? ⟨t, 3, none⟩ = some (.int .i64 rq.x.k) := bt6.cell 3
   have yt4 : wz.cell? ⟨t, 4, none⟩ = some (.int .i64 rq.x.n) := bt6.cell 4
   have yt5 : wz.cell? ⟨t, 5, none⟩ = some (.int .i64 rq.y.k) := bt6.cell 5
   have yt6 : wz.cell? ⟨t, 6, none⟩ = some (.int .i64 rq.y.n) := bt6.cell 6
   have ylt := bt6.lt
   have yp0 : wz.cell? ⟨p, 0, none⟩ = some (.int .i64 f) := bp6.cell 0
   have ylp := bp6.lt
   have yz : wz.cell? ⟨n8, 0, none⟩ = some (.func (.func nw6) #[] cw6) := bz.cell 0
   have ylz := bz.lt
   clear keep RD hHeld
   go_wp2_with (first | (go_at_call_of 113 (Value.agg #[.int .i64 u.k, .int .i64 u.n]); refine (cRefers u _).mono ?_; rintro e w7 ⟨rfl, hbw7⟩; rw [hf1]; have Aw7 := A6.below hbw7; have gw7 := g6.trans (Went.of_below hbw7 _ _); have bt7 := bt6.below hbw7; have zt0 : w7.cell? ⟨t, 0, none⟩ = some (.int .i64 rq.op) := bt7.cell 0; have zt1 : w7.cell? ⟨t, 1, none⟩ = some (.int .i64 rq.at_) := bt7.cell 1; have zt2 : w7.cell? ⟨t, 2, none⟩ = some (.int .i64 rq.fd) := bt7.cell 2; have zt3 : w7.cell? ⟨t, 3, none⟩ = some (.int .i64 rq.x.k) := bt7.cell 3; have zt4 : w7.cell? ⟨t, 4, none⟩ = some (.int .i64 rq.x.n) := bt7.cell 4; have zt5 : w7.cell? ⟨t, 5, none⟩ = some (.int .i64 rq.y.k) := bt7.cell 5; have zt6 : w7.cell? ⟨t, 6, none⟩ = some (.int .i64 rq.y.n) := bt7.cell 6; have zlt := bt7.lt; have bnb7 := bnb6.below hbw7; have znb0 : w7.cell? ⟨nb, 0, none⟩ = some (.int .i64 u.k) := bnb7.cell 0; have znb1 : w7.cell? ⟨nb, 1, none⟩ = some (.int .i64 u.n) := bnb7.cell 1; have zlnb := bnb7.lt; have bz7 := bz.below hbw7; have Rz7 := Rz.below hbw7) | (have hh := bt7; go_at_call_of 113 (Value.agg #[.int .i64 rq.x.k, .int .i64 rq.x.n]); refine (cRefers rq.x _).mono ?_; rintro e w8 ⟨rfl, hbw8⟩; rw [hf2]; have Aw8 := Aw7.below hbw8; have gw8 := gw7.trans (Went.of_below hbw8 _ _); have bt8 := bt7.below hbw8; have qt0 : w8.cell? ⟨t, 0, none⟩ = some (.int .i64 rq.op) := bt8.cell 0; have qt1 : w8.cell? ⟨t, 1, none⟩ = some (.int .i64 rq.at_) := bt8.cell 1; have qt2 : w8.cell? ⟨t, 2, none⟩ = some (.int .i64 rq.fd) := bt8.cell 2; have qt3 : w8.cell? ⟨t, 3, none⟩ = some (.int .i64 rq.x.k) := bt8.cell 3; have qt4 : w8.cell? ⟨t, 4, none⟩ = some (.int .i64 rq.x.n) := bt8.cell 4; have qt5 : w8.cell? ⟨t, 5, none⟩ = some (.int .i64 rq.y.k) := bt8.cell 5; have qt6 : w8.cell? ⟨t, 6, none⟩ = some (.int .i64 rq.y.n) := bt8.cell 6; have qlt := bt8.lt; have bnb8 := bnb7.below hbw8; have qnb0 : w8.cell? ⟨nb, 0, none⟩ = some (.int .i64 u.k) := bnb8.cell 0; have qnb1 : w8.cell? ⟨nb, 1, none⟩ = some (.int .i64 u.n) := bnb8.cell 1; have qlnb := bnb8.lt; have bz8 := bz7.below hbw8; have Rz8 := Rz7.below hbw8) | (go_at_call 120; refine (cCompareS u.n rq.x.n n8 _ (shadeK u h (shadeK rq.y h (.exch f v rq h))) _ bz8 Rz8).mono ?_; rintro e w9 ⟨v9, rfl, R9, hb9⟩; have A9 := Aw8.below hb9; have g9 := gw8.trans (Went.of_below hb9 _ _); obtain ⟨n9, c9, hv9⟩ := R9.fn; rw [hv9] at R9 ⊢; clear hv9; have z0 : w9.cell? ⟨w.heap.size, 0, none⟩ = some (.nilFunc) := A9.cell 0; have zf0 := A9.free 0; have z1 : w9.cell? ⟨w.heap.size, 1, none⟩ = some (.bool false) := A9.cell 1; have zf1 := A9.free 1; have z2 : w9.cell? ⟨w.heap.size, 2, none⟩ = some (.int .i64 0) := A9.cell 2; have zf2 := A9.free 2; have z3 : w9.cell? ⟨w.heap.size, 3, none⟩ = some (.int .i64 0) := A9.cell 3; have zf3 := A9.free 3; have z4 : w9.cell? ⟨w.heap.size, 4, none⟩ = some (.int .i64 0) := A9.cell 4; have zf4 := A9.free 4; have z5 : w9.cell? ⟨w.heap.size, 5, none⟩ = some (.bool false) := A9.cell 5; have zf5 := A9.free 5))
   exact bodyPost_ret (v := .agg #[.func (.func n9) #[] c9, .bool true, .int .i64 0, .int .i64 0, .int .i64 0, .bool false]) (by simp [results, Tryz.results118, go_sem, z0, z1, z2, z3, z4, z5]) rfl (ran_end (x := ⟨some (.compS u.n rq.x.n (shadeK u h (shadeK rq.y h (.exch f v rq h)))), true, Ou.zero⟩) A9 g9 R9)
 ·go_simp
  refine hK.out _ _ (keep _ (hbd.alloc (by have := hbd.size; omega) (.cells #[.nilFunc] 107))) (fun hHeld => ?_)
  clear hK K
  try simp only [Act.put, sA1, sA2, sA3]
  have hbx : Below w3.heap.size w3 (w3.alloc (.cells #[.nilFunc] 107)).drew := ((Below.refl _ w3).alloc (Nat.le_refl _) (.cells #[.nilFunc] 107)).drew
  have b8 : (w3.alloc (.cells #[.nilFunc] 107)).drew.heap[w3.heap.size]? = some (.cells emp 107 (0, 0)) := heap_alloc_new _ _
  generalize (w3.alloc (.cells #[.nilFunc] 107)).drew = wx at hbx b8 ⊢
  obtain ⟨n8, hn8⟩ : ∃ n8, w3.heap.size = n8 := ⟨_, rfl⟩
  rw [hn8] at b8 ⊢
  have ge8 : w3.heap.size ≤ n8 := Nat.le_of_eq hn8
  clear hn8
  refine rd1 9 rfl fun K hK => ?_
  go_simp
  refine (cExchange f v rq h wx).mono ?_
  rintro e w4 ⟨vw4, rfl, R4, hbw4⟩
  have hcw4 := bel_trans hbx hbw4
  obtain ⟨nw4, cw4, hvw4⟩ := R4.fn
  rw [hvw4] at R4 ⊢
  clear hvw4
  have b8 := (hbw4.block n8 (lt_of_block b8)).trans b8
  refine hK.out _ _ (keep _ hcw4) (fun hHeld => ?_)
  clear hK K
  try simp only [Act.put, sA1, sA2, sA3]
  refine rd1 10 rfl fun K hK => ?_
  go_simp
  refine (cShade' rq.y h (.exch f v rq h) _ w4 R4).mono ?_
  rintro e w5 ⟨vw5, rfl, R5, hbw5⟩
  have hcw5 := bel_trans hcw4 hbw5
  obtain ⟨nw5, cw5, hvw5⟩ := R5.fn
  rw [hvw5] at R5 ⊢
  clear hvw5
  have b8 := (hbw5.block n8 (lt_of_block b8)).trans b8
  refine hK.out _ _ (keep _ hcw5) (fun hHeld => ?_)
  clear hK K
  try simp only [Act.put, sA1, sA2, sA3]
  refine rd1 11 rfl fun K hK => ?_
  go_simp
  refine (cShade' u h (shadeK rq.y h (.exch f v rq h)) _ w5 R5).mono ?_
  rintro e w6 ⟨vw6, rfl, R6, hbw6⟩
  have hcw6 := bel_trans hcw5 hbw6
  obtain ⟨nw6, cw6, hvw6⟩ := R6.fn
  rw [hvw6] at R6 ⊢
  clear hvw6
  have b8 := (hbw6.block n8 (lt_of_block b8)).trans b8
  refine hK.out _ _ (keep _ hcw6) (fun hHeld => ?_)
  clear hK K
  try simp only [Act.put, sA1, sA2, sA3]
  have d8 : w6.cell? ⟨n8, 0, none⟩ = some .nilFunc := cell_of_row w6 n8 0 _ _ _ b8
  have f8 : w6.frozen? ⟨n8, 0, none⟩ = false := frozen_of_row w6 _ _ _ _ b8
  refine rd1 13 rfl fun K hK => ?_
  go_simp
  refine hK.out _ _ (keep _ (hcw6.setCell ge8 _)) (fun hHeld => ?_)
  clear hK K
  try simp only [Act.put, sA1, sA2, sA3]
  refine wpAnyH_done (by kernel_rfl) ?_ _
  refine NoPanic.normal ?_
  have hbz : Below w3.heap.size w3 (w6.setCell ⟨n8, 0, none⟩ (.func (.func nw6) #[] cw6)) := hcw6.setCell ge8 _
  have bz : Bx (w6.setCell ⟨n8, 0, none⟩ (.func (.func nw6) #[] cw6)) n8 107 #[.func (.func nw6) #[] cw6] := ⟨Go.Joins.block_setCell b8 _, by decide, fun h => absurd h (by decide)⟩
  have Rz := R6.fill b8 (.func (.func nw6) #[] cw6)
  generalize w6.setCell ⟨n8, 0, none⟩ (.func (.func nw6) #[] cw6) = wz at hbz bz Rz ⊢
  have A6 := A3.below hbz
  have g6 := g3.trans (Went.of_below hbz _ _)
  have bnb6 := bnb3.below hbz
  have bq6 := bq3.below hbz
  have bt6 := bt3.below hbz
  have bp6 := bp3.below hbz
  have ynb0 : wz.cell? ⟨nb, 0, none⟩ = some (.int .i64 u.k) := bnb6.cell 0
  have ynb1 : wz.cell? ⟨nb, 1, none⟩ = some (.int .i64 u.n) := bnb6.cell 1
  have ylnb := bnb6.lt
  have yq0 : wz.cell? ⟨q, 0, none⟩ = some (.bool h.sh) := bq6.cell 0
  have yq1 : wz.cell? ⟨q, 1, none⟩ = some (.bool true) := (bq6.cell 1).trans (congrArg (fun b => some (Value.bool b)) hca'.out)
  have yq2 : wz.cell? ⟨q, 2, none⟩ = some (.bool h.fx) := bq6.cell 2
  have yq3 : wz.cell? ⟨q, 3, none⟩ = some (.int .i64 h.mr) := bq6.cell 3
  have ylq := bq6.lt
  have yt0 : wz.cell? ⟨t, 0, none⟩ = some (.int .i64 rq.op) := bt6.cell 0
  have yt1 : wz.cell? ⟨t, 1, none⟩ = some (.int .i64 rq.at_) := bt6.cell 1
  have yt2 : wz.cell? ⟨t, 2, none⟩ = some (.int .i64 rq.fd) := bt6.cell 2
  have yt3 : wz.cell? ⟨t, 3, none⟩ = some (.int .i64 rq.x.k) := bt6.cell 3
  have yt4 : wz.cell? ⟨t, 4, none⟩ = some (.int .i64 rq.x.n) := bt6.cell 4
  have yt5 : wz.cell? ⟨t, 5, none⟩ = some (.int .i64 rq.y.k) := bt6.cell 5
  have yt6 : wz.cell? ⟨t, 6, none⟩ = some (.int .i64 rq.y.n) := bt6.cell 6
  have ylt := bt6.lt
  have yp0 : wz.cell? ⟨p, 0, none⟩ = some (.int .i64 f) := bp6.cell 0
  have ylp := bp6.lt
  have yz : wz.cell? ⟨n8, 0, none⟩ = some (.func (.func nw6) #[] cw6) := bz.cell 0
  have ylz := bz.lt
  clear keep RD hHeld
  go_wp2_with (first | (go_at_call_of 113 (Value.agg #[.int .i64 u.k, .int .i64 u.n]); refine (cRefers u _).mono ?_; rintro e w7 ⟨rfl, hbw7⟩; rw [hf1]; have Aw7 := A6.below hbw7; have gw7 := g6.trans (Went.of_below hbw7 _ _); have bt7 := bt6.below hbw7; have zt0 : w7.cell? ⟨t, 0, none⟩ = some (.int .i64 rq.op) := bt7.cell 0; have zt1 : w7.cell? ⟨t, 1, none⟩ = some (.int .i64 rq.at_) := bt7.cell 1; have zt2 : w7.cell? ⟨t, 2, none⟩ = some (.int .i64 rq.fd) := bt7.cell 2; have zt3 : w7.cell? ⟨t, 3, none⟩ = some (.int .i64 rq.x.k) := bt7.cell 3; have zt4 : w7.cell? ⟨t, 4, none⟩ = some (.int .i64 rq.x.n) := bt7.cell 4; have zt5 : w7.cell? ⟨t, 5, none⟩ = some (.int .i64 rq.y.k) := bt7.cell 5; have zt6 : w7.cell? ⟨t, 6, none⟩ = some (.int .i64 rq.y.n) := bt7.cell 6; have zlt := bt7.lt; have bnb7 := bnb6.below hbw7; have znb0 : w7.cell? ⟨nb, 0, none⟩ = some (.int .i64 u.k) := bnb7.cell 0; have znb1 : w7.cell? ⟨nb, 1, none⟩ = some (.int .i64 u.n) := bnb7.cell 1; have zlnb := bnb7.lt; have bz7 := bz.below hbw7; have Rz7 := Rz.below hbw7) | (have hh := bt7; go_at_call_of 113 (Value.agg #[.int .i64 rq.x.k, .int .i64 rq.x.n]); refine (cRefers rq.x _).mono ?_; rintro e w8 ⟨rfl, hbw8⟩; rw [hf2]; have Aw8 := Aw7.below hbw8; have gw8 := gw7.trans (Went.of_below hbw8 _ _); have bt8 := bt7.below hbw8; have qt0 : w8.cell? ⟨t, 0, none⟩ = some (.int .i64 rq.op) := bt8.cell 0; have qt1 : w8.cell? ⟨t, 1, none⟩ = some (.int .i64 rq.at_) := bt8.cell 1; have qt2 : w8.cell? ⟨t, 2, none⟩ = some (.int .i64 rq.fd) := bt8.cell 2; have qt3 : w8.cell? ⟨t, 3, none⟩ = some (.int .i64 rq.x.k) := bt8.cell 3; have qt4 : w8.cell? ⟨t, 4, none⟩ = some (.int .i64 rq.x.n) := bt8.cell 4; have qt5 : w8.cell? ⟨t, 5, none⟩ = some (.int .i64 rq.y.k) := bt8.cell 5; have qt6 : w8.cell? ⟨t, 6, none⟩ = some (.int .i64 rq.y.n) := bt8.cell 6; have qlt := bt8.lt; have bnb8 := bnb7.below hbw8; have qnb0 : w8.cell? ⟨nb, 0, none⟩ = some (.int .i64 u.k) := bnb8.cell 0; have qnb1 : w8.cell? ⟨nb, 1, none⟩ = some (.int .i64 u.n) := bnb8.cell 1; have qlnb := bnb8.lt; have bz8 := bz7.below hbw8; have Rz8 := Rz7.below hbw8) | (go_at_call 120; refine (cCompareS u.n rq.x.n n8 _ (shadeK u h (shadeK rq.y h (.exch f v rq h))) _ bz8 Rz8).mono ?_; rintro e w9 ⟨v9, rfl, R9, hb9⟩; have A9 := Aw8.below hb9; have g9 := gw8.trans (Went.of_below hb9 _ _); obtain ⟨n9, c9, hv9⟩ := R9.fn; rw [hv9] at R9 ⊢; clear hv9; have z0 : w9.cell? ⟨w.heap.size, 0, none⟩ = some (.nilFunc) := A9.cell 0; have zf0 := A9.free 0; have z1 : w9.cell? ⟨w.heap.size, 1, none⟩ = some (.bool false) := A9.cell 1; have zf1 := A9.free 1; have z2 : w9.cell? ⟨w.heap.size, 2, none⟩ = some (.int .i64 0) := A9.cell 2; have zf2 := A9.free 2; have z3 : w9.cell? ⟨w.heap.size, 3, none⟩ = some (.int .i64 0) := A9.cell 3; have zf3 := A9.free 3; have z4 : w9.cell? ⟨w.heap.size, 4, none⟩ = some (.int .i64 0) := A9.cell 4; have zf4 := A9.free 4; have z5 : w9.cell? ⟨w.heap.size, 5, none⟩ = some (.bool false) := A9.cell 5; have zf5 := A9.free 5))
  exact bodyPost_ret (v := .agg #[.func (.func n9) #[] c9, .bool true, .int .i64 0, .int .i64 0, .int .i64 0, .bool false]) (by simp [results, Tryz.results118, go_sem, z0, z1, z2, z3, z4, z5]) rfl (ran_end (x := ⟨some (.compS u.n rq.x.n (shadeK u h (shadeK rq.y h (.exch f v rq h)))), true, Ou.zero⟩) A9 g9 R9)
end
end Go.Proofs.YtpcoldpphihfmaaGreatDoor
