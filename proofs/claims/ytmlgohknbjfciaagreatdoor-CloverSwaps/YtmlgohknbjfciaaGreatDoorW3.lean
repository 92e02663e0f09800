/-
  The walk of the law on two Swaps beside the one that copies.
-/
import Derived.Test.YtmlgohknbjfciaaGreatDoorCnw
import Derived.Test.YtmlgohknbjfciaaGreatDoorCo
import Derived.Test.YtmlgohknbjfciaaGreatDoorHand
import Derived.Deep.Cut
namespace Go.Proofs.YtmlgohknbjfciaaGreatDoor
set_option linter.unusedVariables false
set_option linter.unusedSimpArgs false
set_option maxRecDepth 100000
open Go.ChangeShapes Go.WideShapes Go.RowKit
open H.Plain (hw pS pC pN pM pG pT pL mv)

theorem bneT (w : World) : (binOp .neq 4 (.bool true) (.bool false)).run Tryz.prog w = .ok (.bool true) w := by kernel_rfl
theorem bneF (w : World) : (binOp .neq 4 (.bool false) (.bool true)).run Tryz.prog w = .ok (.bool true) w := by kernel_rfl
theorem cOne (v : Vl) (w : World) : Calls Tryz.prog 30 #[.agg #[.int .i64 v.k, .int .i64 v.n]] w fun e w' => e = .returned (.agg #[.int .i64 (oneP v).k, .int .i64 (oneP v).n]) ∧ Below w.heap.size w w' := by
  unfold oneP
  rcases h1 : (v.k == 1) with _ | _
  · rw [if_neg (fun h => by simp [h.1] at h1)]
    go_enter Tryz.func30, Tryz.ntmps30
    go_wp2
    exact bodyPost_ret (v := .agg #[.int .i64 v.k, .int .i64 v.n]) (by simp [results, Tryz.results30, go_sem]) rfl ⟨rfl, by go_grown⟩
  · rcases h2 : (v.n == 112) with _ | _
    · rw [if_neg (fun h => by simp [h.2] at h2)]
      go_enter Tryz.func30, Tryz.ntmps30
      go_wp2
      exact bodyPost_ret (v := .agg #[.int .i64 v.k, .int .i64 v.n]) (by simp [results, Tryz.results30, go_sem]) rfl ⟨rfl, by go_grown⟩
    · have e1 : v.k = 1 := by simpa using h1
      rw [if_pos ⟨e1, by simpa using h2⟩]
      go_enter Tryz.func30, Tryz.ntmps30
      go_wp2
      exact bodyPost_ret (v := .agg #[.int .i64 1, .int .i64 96]) (by simp [results, Tryz.results30, go_sem, e1]) rfl ⟨rfl, by go_grown⟩
/-- how many steps are left, against when they come -/
def Jq (k r j : Nat) : Prop := r = 0 ∨ 3 * r + j + ((k + 3 - j % 3) % 3) ≤ 130
theorem Jq.own {k r r' j : Nat} (h : Jq k r j) (hk : j % 3 = k) (hr : r' < r ∨ r' = 0) : Jq k r' (j + 1) := by
  unfold Jq at *
  omega
theorem Jq.other {k r r' j : Nat} (h : Jq k r j) (hk : j % 3 ≠ k) (hk3 : k < 3) (hr : r' ≤ r) : Jq k r' (j + 1) := by
  unfold Jq at *
  omega
theorem Jq.start {k r : Nat} (hr : r ≤ 12) (hk : k < 2) : Jq k r 90 := by
  unfold Jq
  omega
set_option maxHeartbeats 12000000 in
theorem wCloverSwaps (av : Option Addr) (ll cv' : Nat) (zl : Nat → Vl) (v1 v2 : Vl) (ap : Option Addr) (lp cp' : Nat) (zp : Nat → Int) (w : World) (W : H.Wid w) (cv : CameV w av ll zl) (fi1 : v1.Fit) (fi2 : v2.Fit) (ci : CameI w ap lp zp) :
    Calls Tryz.prog 6 #[.slice av ll cv', .agg #[.int .i64 v1.k, .int .i64 v1.n, .int .i64 v2.k, .int .i64 v2.n], .slice ap lp cp'] w fun e w' => e = .returned (.bool true) ∧ Below w.heap.size w w' := by
  obtain ⟨S, hS⟩ : ∃ S, laidS 4 2 (clP ll zl) = S := ⟨_, rfl⟩
  have hSl : S.ws.length = 160 := by rw [← hS]; exact laid_len _ _ _
  have M0 := laid_m6 4 2 (clP ll zl)
  obtain ⟨O0, hc0⟩ := claimed_ob ll zl
  rw [hS] at M0 O0
  obtain ⟨G, G9⟩ := good_clP ll zl 0
  obtain ⟨old, hold'⟩ : ∃ old : Nat → Int, (fun k => (clP ll zl k).w) = old := ⟨_, rfl⟩
  rw [hold'] at M0 O0 hc0
  obtain ⟨u, hu⟩ : ∃ u, clP ll zl 0 = u := ⟨_, rfl⟩
  rw [hu] at G G9
  have hcu : cur old (fun _ => 0) 0 = u.w := by rw [hc0 0, hu]
  have hz0 : old 0 = u.w := by rw [← hold', ← hu]
  have hz72 : u.w ≠ 72 := fun e => G9 ((good_w72 G).1 e)
  have hw : S.word 97 = u.w := by have := M0.fa 0 (by omega); rw [hz0] at this; exact this
  have GA := good_valP v1
  have GB := good_valP v2
  obtain ⟨a, ha⟩ : ∃ v, valP v1 = v := ⟨_, rfl⟩
  obtain ⟨b', hb'⟩ : ∃ v, valP v2 = v := ⟨_, rfl⟩
  rw [ha] at GA
  rw [hb'] at GB
  have hU := u.u64
  have hkk : F.Plain.kind u.w = u.k := congrArg Vl.k G.of
  have hnn : F.Plain.num u.w = u.n := congrArg Vl.n G.of
  have ok0 : (rqS u a).Ok := ⟨.inr (.inr rfl), by simp [rqS], by simp [rqS], by simp [rqS], by simp [rqS], .inr (by simp [rqS])⟩
  have ok1 : (rqS u b').Ok := ⟨.inr (.inr rfl), by simp [rqS], by simp [rqS], by simp [rqS], by simp [rqS], .inr (by simp [rqS])⟩
  have okh0 : (Cw.hd (rqS u a) false false).Ok := ⟨.inr (.inr rfl), by simp [rqS], by simp [rqS], by simp [rqS], by simp [rqS]⟩
  have okh1 : (Cw.hd (rqS u b') false false).Ok := ⟨.inr (.inr rfl), by simp [rqS], by simp [rqS], by simp [rqS], by simp [rqS]⟩
  have okm : (Mo.mk 0 0).Ok := ⟨by simp, U64.zero⟩
  go_enter Tryz.func6, Tryz.ntmps6
  go_upto_region 3 with (first
    | (go_at_call 7; refine (cShown _ (W.on (by go_grown))).mono ?_; rintro e w1 ⟨rfl, hb1'⟩; have hb1 : Below w.heap.size w w1 := bel_trans (by go_grown) hb1'; have T0 : Blk w w1 w.heap.size 82 #[.int .i64 v1.k, .int .i64 v1.n, .int .i64 v2.k, .int .i64 v2.n] := (Blk.new (Nat.le_refl _) _ (by decide)).below hb1'; clear hb1')
    | (go_at_call 24; refine (cClaimed w1 (cv.on hb1)).mono ?_; rintro e wc ⟨ao, cap, rfl, cvc, hbc⟩; have bc := bel_trans hb1 hbc; have Tc := T0.below hbc; clear T0))
  have acb : Below wc.heap.size wc (wc.alloc (.cells #[.int .i64 4, .int .i64 2, .slice ao (min ll 3) cap] 24)) := (Below.refl _ _).alloc (Nat.le_refl _) _
  have cvb := cvc.on acb
  have bbb := bel_trans bc acb
  have Tb := Tc.below acb
  go_upto_region 6 with (go_at_call 8; refine (cLaid _ (W.on bbb) cvb (by decide) (by decide) (by decide) (by decide)).mono ?_; rintro e w2 ⟨b, y, rfl, h2⟩; rw [cl_fld, show kd 4 6 = 4 by decide, show kd 2 3 = 2 by decide, hS] at h2; have h3 := h2.lift bbb W; have T1 := Tb.below h2.bel; clear h2)
  clear acb cvb bbb bc cvc hbc Tb Tc
  obtain ⟨g, cp, hs⟩ := Two.seen h3
  have c0 := hs.c0
  rw [hSl] at c0
  have c1 := hs.at hSl 97 (by omega)
  rw [show ((97 : Nat) : Int) = 97 from rfl, hw] at c1
  have ly := hs.ly
  have lg := hs.lg
  obtain ⟨uw, huw⟩ : ∃ uw, u.w = uw := ⟨_, rfl⟩
  rw [huw] at c1 hU hkk hnn hz0 hcu hz72
  obtain ⟨tw, htw⟩ : ∃ tw, w.heap.size = tw := ⟨_, rfl⟩
  rw [htw] at T1 ⊢
  clear htw
  go_upto_region 7 with (go_at_call 27; refine (F.rOf uw hU.1 hU.2 _).mono ?_; rintro e w3 ⟨rfl, hw3⟩; rw [hkk, hnn] at hw3 ⊢; have hb3 : Below w2.heap.size w2 w3 := (by rw [hw3]; go_grown); have h4 := h3.below hb3; have T2 := T1.below hb3; clear hw3 hb3)
  have BUb : Below w3.heap.size w3 (w3.alloc (.cells #[.int .i64 u.k, .int .i64 u.n] 38)) := (Below.refl _ _).alloc (Nat.le_refl _) _
  have BU : Blk w (w3.alloc (.cells #[.int .i64 u.k, .int .i64 u.n] 38)) w3.heap.size 38 #[.int .i64 u.k, .int .i64 u.n] := Blk.new h4.bel.size _ (by decide)
  have h5 := h4.below BUb
  have T3 := T2.below BUb
  generalize w3.alloc (.cells #[.int .i64 u.k, .int .i64 u.n] 38) = w4 at BU h5 T3 ⊢
  generalize w3.heap.size = ub at BU ⊢
  clear BUb
  clear c0 c1 ly lg hs T2 T1 h4 h3
  have t0 : w4.cell? ⟨tw, 0, none⟩ = some (.int .i64 v1.k) := T3.cell 0
  have t1 : w4.cell? ⟨tw, 1, none⟩ = some (.int .i64 v1.n) := T3.cell 1
  go_upto_region 8 with (go_at_call 25; refine (cVal v1 fi1 _).mono ?_; rintro e w5 ⟨rfl, hb5⟩; rw [ha]; have h6 := h5.below hb5; have T4 := T3.below hb5; have BU5 := BU.below hb5; clear hb5)
  have BAb : Below w5.heap.size w5 (w5.alloc (.cells #[.int .i64 a.k, .int .i64 a.n] 38)) := (Below.refl _ _).alloc (Nat.le_refl _) _
  have BA : Blk w (w5.alloc (.cells #[.int .i64 a.k, .int .i64 a.n] 38)) w5.heap.size 38 #[.int .i64 a.k, .int .i64 a.n] := Blk.new h6.bel.size _ (by decide)
  have h7 := h6.below BAb
  have T5 := T4.below BAb
  have BU6 := BU5.below BAb
  generalize w5.alloc (.cells #[.int .i64 a.k, .int .i64 a.n] 38) = w6 at BA h7 T5 BU6 ⊢
  generalize w5.heap.size = ab at BA ⊢
  clear BAb
  have t2 : w6.cell? ⟨tw, 2, none⟩ = some (.int .i64 v2.k) := T5.cell 2
  have t3 : w6.cell? ⟨tw, 3, none⟩ = some (.int .i64 v2.n) := T5.cell 3
  go_upto_region 9 with (go_at_call 25; refine (cVal v2 fi2 _).mono ?_; rintro e w7 ⟨rfl, hb7⟩; rw [hb']; have h8 := h7.below hb7; have BU7 := BU6.below hb7; have BA7 := BA.below hb7; clear hb7)
  have BBbb : Below w7.heap.size w7 (w7.alloc (.cells #[.int .i64 b'.k, .int .i64 b'.n] 38)) := (Below.refl _ _).alloc (Nat.le_refl _) _
  have BBb : Blk w (w7.alloc (.cells #[.int .i64 b'.k, .int .i64 b'.n] 38)) w7.heap.size 38 #[.int .i64 b'.k, .int .i64 b'.n] := Blk.new h8.bel.size _ (by decide)
  have h9b := h8.below BBbb
  have BU8b := BU7.below BBbb
  have BA8b := BA7.below BBbb
  generalize w7.alloc (.cells #[.int .i64 b'.k, .int .i64 b'.n] 38) = w7b at BBb h9b BU8b BA8b ⊢
  generalize w7.heap.size = bb at BBb ⊢
  clear BBbb
  clear t0 t1 t2 t3 T3 T4 T5 h5 h6 h7 h8 BU BU5 BU6 BU7 BA BA7
  go_upto_region 10 with (fail)
  have aI : Below w7b.heap.size w7b (w7b.alloc (.cells #[.int .i64 0, .int .i64 9] 38)) := (Below.refl _ _).alloc (Nat.le_refl _) _
  have BI : Blk w (w7b.alloc (.cells #[.int .i64 0, .int .i64 9] 38)) w7b.heap.size 38 #[.int .i64 0, .int .i64 9] := Blk.new h9b.bel.size _ (by decide)
  have h9 := h9b.below aI
  have BU8 := BU8b.below aI
  have BA8 := BA8b.below aI
  have BB := BBb.below aI
  generalize w7b.alloc (.cells #[.int .i64 0, .int .i64 9] 38) = w8 at BI h9 BU8 BA8 BB ⊢
  generalize w7b.heap.size = nib at BI ⊢
  clear aI h9b BU8b BA8b BBb
  by_cases na : oneP a = oneP u
  · have q1 := eqVal_t na
    clear na
    have hbd : Below w8.heap.size w8 w8.drew := (Below.refl _ _).drew
    have BAd := BA8.below hbd
    have BUd := BU8.below hbd
    have BBd := BB.below hbd
    have BId := BI.below hbd
    have hd := h9.below hbd
    refine wp_region_noPanic ?_
    refine wp_region_held_drew (S := fun w' => w'.cell? ⟨ab, 0, none⟩ = some (.int .i64 a.k) ∧ w'.cell? ⟨ab, 1, none⟩ = some (.int .i64 a.n) ∧ w'.cell? ⟨ub, 0, none⟩ = some (.int .i64 u.k) ∧ w'.cell? ⟨ub, 1, none⟩ = some (.int .i64 u.n) ∧ w'.cell? ⟨bb, 0, none⟩ = some (.int .i64 b'.k) ∧ w'.cell? ⟨bb, 1, none⟩ = some (.int .i64 b'.n) ∧ w'.cell? ⟨nib, 0, none⟩ = some (.int .i64 0) ∧ w'.cell? ⟨nib, 1, none⟩ = some (.int .i64 9)) (by kernel_rfl) ⟨(BAd).cell 0, (BAd).cell 1, (BUd).cell 0, (BUd).cell 1, (BBd).cell 0, (BBd).cell 1, (BId).cell 0, (BId).cell 1⟩ (fun hHeld => ?_)
    refine takeH (i := 0) 51 (.agg #[.int .i64 a.k, .int .i64 a.n]) rfl rfl (by kernel_rfl) (by kernel_rfl) (by kernel_rfl) (fun _ _ _ h => h) (by rfl) ?_ (by assumption) ?_
    · intro w hSw; (try dsimp only at hSw); go_simp
    simp only [List.setIfInBounds_toArray, List.set_cons_zero, List.set_cons_succ]
    refine takeH (i := 2) 53 (.agg #[.int .i64 u.k, .int .i64 u.n]) rfl rfl (by kernel_rfl) (by kernel_rfl) (by kernel_rfl) (fun _ _ _ h => h) (by rfl) ?_ (by assumption) ?_
    · intro w hSw; (try dsimp only at hSw); go_simp
    simp only [List.setIfInBounds_toArray, List.set_cons_zero, List.set_cons_succ]
    refine wpAnyH_ready (rs := [1]) (by kernel_rfl) (by simp) ?_
    refine AllReadyH.cons rfl (fun K hK => ?_) AllReadyH.nil
    go_simp
    refine (cOne a _).mono ?_
    rintro e woe1 ⟨rfl, hboe1⟩
    have BAe1 := BAd.below hboe1
    have BUe1 := BUd.below hboe1
    have BBe1 := BBd.below hboe1
    have BIe1 := BId.below hboe1
    have he1 := hd.below hboe1
    refine hK.out _ _ ⟨(BAe1).cell 0, (BAe1).cell 1, (BUe1).cell 0, (BUe1).cell 1, (BBe1).cell 0, (BBe1).cell 1, (BIe1).cell 0, (BIe1).cell 1⟩ (fun hHeld => ?_)
    clear hK K
    try simp only [Act.put, List.setIfInBounds_toArray, List.set_cons_zero, List.set_cons_succ]
    refine wpAnyH_ready (rs := [3]) (by kernel_rfl) (by simp) ?_
    refine AllReadyH.cons rfl (fun K hK => ?_) AllReadyH.nil
    go_simp
    refine (cOne u _).mono ?_
    rintro e woe2 ⟨rfl, hboe2⟩
    have BAe2 := BAe1.below hboe2
    have BUe2 := BUe1.below hboe2
    have BBe2 := BBe1.below hboe2
    have BIe2 := BIe1.below hboe2
    have he2 := he1.below hboe2
    refine hK.out _ _ ⟨(BAe2).cell 0, (BAe2).cell 1, (BUe2).cell 0, (BUe2).cell 1, (BBe2).cell 0, (BBe2).cell 1, (BIe2).cell 0, (BIe2).cell 1⟩ (fun hHeld => ?_)
    clear hK K
    try simp only [Act.put, List.setIfInBounds_toArray, List.set_cons_zero, List.set_cons_succ]
    refine takeH (i := 4) 55 (.bool true) rfl rfl (by kernel_rfl) (by kernel_rfl) (by kernel_rfl) (fun _ _ _ h => h) (by rfl) ?_ (by assumption) ?_
    · intro w hSw; (try dsimp only at hSw); go_simp
    simp only [List.setIfInBounds_toArray, List.set_cons_zero, List.set_cons_succ]
    refine takeH (i := 5) 56 (.bool true) rfl rfl (by kernel_rfl) (by kernel_rfl) (by kernel_rfl) (fun _ _ _ h => h) (by rfl) ?_ (by assumption) ?_
    · intro w hSw; (try dsimp only at hSw); go_simp
    simp only [List.setIfInBounds_toArray, List.set_cons_zero, List.set_cons_succ]
    refine skipH (i := 6) 57 rfl rfl (by kernel_rfl) (by kernel_rfl) (by kernel_rfl) (fun _ _ _ h => h) (by rfl) (by assumption) ?_
    simp only [List.setIfInBounds_toArray, List.set_cons_zero, List.set_cons_succ]
    refine skipH (i := 7) 58 rfl rfl (by kernel_rfl) (by kernel_rfl) (by kernel_rfl) (fun _ _ _ h => h) (by rfl) (by assumption) ?_
    simp only [List.setIfInBounds_toArray, List.set_cons_zero, List.set_cons_succ]
    refine skipH (i := 8) 59 rfl rfl (by kernel_rfl) (by kernel_rfl) (by kernel_rfl) (fun _ _ _ h => h) (by rfl) (by assumption) ?_
    simp only [List.setIfInBounds_toArray, List.set_cons_zero, List.set_cons_succ]
    refine skipH (i := 9) 60 rfl rfl (by kernel_rfl) (by kernel_rfl) (by kernel_rfl) (fun _ _ _ h => h) (by rfl) (by assumption) ?_
    simp only [List.setIfInBounds_toArray, List.set_cons_zero, List.set_cons_succ]
    refine skipH (i := 10) 61 rfl rfl (by kernel_rfl) (by kernel_rfl) (by kernel_rfl) (fun _ _ _ h => h) (by rfl) (by assumption) ?_
    simp only [List.setIfInBounds_toArray, List.set_cons_zero, List.set_cons_succ]
    refine takeH (i := 11) 62 (.bool true) rfl rfl (by kernel_rfl) (by kernel_rfl) (by kernel_rfl) (fun _ _ _ h => h) (by rfl) ?_ (by assumption) ?_
    · intro w hSw; (try dsimp only at hSw); go_simp
    simp only [List.setIfInBounds_toArray, List.set_cons_zero, List.set_cons_succ]
    refine takeH (i := 12) 63 (.bool true) rfl rfl (by kernel_rfl) (by kernel_rfl) (by kernel_rfl) (fun _ _ _ h => h) (by rfl) ?_ (by assumption) ?_
    · intro w hSw; (try dsimp only at hSw); go_simp
    simp only [List.setIfInBounds_toArray, List.set_cons_zero, List.set_cons_succ]
    refine skipH (i := 13) 64 rfl rfl (by kernel_rfl) (by kernel_rfl) (by kernel_rfl) (fun _ _ _ h => h) (by rfl) (by assumption) ?_
    simp only [List.setIfInBounds_toArray, List.set_cons_zero, List.set_cons_succ]
    refine skipH (i := 14) 65 rfl rfl (by kernel_rfl) (by kernel_rfl) (by kernel_rfl) (fun _ _ _ h => h) (by rfl) (by assumption) ?_
    simp only [List.setIfInBounds_toArray, List.set_cons_zero, List.set_cons_succ]
    refine skipH (i := 15) 66 rfl rfl (by kernel_rfl) (by kernel_rfl) (by kernel_rfl) (fun _ _ _ h => h) (by rfl) (by assumption) ?_
    simp only [List.setIfInBounds_toArray, List.set_cons_zero, List.set_cons_succ]
    refine takeH (i := 16) 67 (.bool true) rfl rfl (by kernel_rfl) (by kernel_rfl) (by kernel_rfl) (fun _ _ _ h => h) (by rfl) ?_ (by assumption) ?_
    · intro w hSw; (try dsimp only at hSw); go_simp
    simp only [List.setIfInBounds_toArray, List.set_cons_zero, List.set_cons_succ]
    refine takeH (i := 17) 68 (.bool true) rfl rfl (by kernel_rfl) (by kernel_rfl) (by kernel_rfl) (fun _ _ _ h => h) (by rfl) ?_ (by assumption) ?_
    · intro w hSw; (try dsimp only at hSw); go_simp
    simp only [List.setIfInBounds_toArray, List.set_cons_zero, List.set_cons_succ]
    refine skipH (i := 18) 69 rfl rfl (by kernel_rfl) (by kernel_rfl) (by kernel_rfl) (fun _ _ _ h => h) (by rfl) (by assumption) ?_
    simp only [List.setIfInBounds_toArray, List.set_cons_zero, List.set_cons_succ]
    refine skipH (i := 19) 70 rfl rfl (by kernel_rfl) (by kernel_rfl) (by kernel_rfl) (fun _ _ _ h => h) (by rfl) (by assumption) ?_
    simp only [List.setIfInBounds_toArray, List.set_cons_zero, List.set_cons_succ]
    refine skipH (i := 20) 71 rfl rfl (by kernel_rfl) (by kernel_rfl) (by kernel_rfl) (fun _ _ _ h => h) (by rfl) (by assumption) ?_
    simp only [List.setIfInBounds_toArray, List.set_cons_zero, List.set_cons_succ]
    refine takeH (i := 21) 72 (.bool true) rfl rfl (by kernel_rfl) (by kernel_rfl) (by kernel_rfl) (fun _ _ _ h => h) (by rfl) ?_ (by assumption) ?_
    · intro w hSw; (try dsimp only at hSw); go_simp
    simp only [List.setIfInBounds_toArray, List.set_cons_zero, List.set_cons_succ]
    refine wpAnyH_done (by kernel_rfl) ?_ _
    refine NoPanic.normal ?_
    go_wp2
    go_ret
    exact ⟨rfl, he2.bel⟩
  · have q1 := eqVal_f na
    by_cases nb : oneP b' = oneP u
    · have q2 := eqVal_t nb
      have na' : Hid (oneP a ≠ oneP u) := na
      clear na nb
      have hbd : Below w8.heap.size w8 w8.drew := (Below.refl _ _).drew
      have BAd := BA8.below hbd
      have BUd := BU8.below hbd
      have BBd := BB.below hbd
      have BId := BI.below hbd
      have hd := h9.below hbd
      refine wp_region_noPanic ?_
      refine wp_region_held_drew (S := fun w' => w'.cell? ⟨ab, 0, none⟩ = some (.int .i64 a.k) ∧ w'.cell? ⟨ab, 1, none⟩ = some (.int .i64 a.n) ∧ w'.cell? ⟨ub, 0, none⟩ = some (.int .i64 u.k) ∧ w'.cell? ⟨ub, 1, none⟩ = some (.int .i64 u.n) ∧ w'.cell? ⟨bb, 0, none⟩ = some (.int .i64 b'.k) ∧ w'.cell? ⟨bb, 1, none⟩ = some (.int .i64 b'.n) ∧ w'.cell? ⟨nib, 0, none⟩ = some (.int .i64 0) ∧ w'.cell? ⟨nib, 1, none⟩ = some (.int .i64 9)) (by kernel_rfl) ⟨(BAd).cell 0, (BAd).cell 1, (BUd).cell 0, (BUd).cell 1, (BBd).cell 0, (BBd).cell 1, (BId).cell 0, (BId).cell 1⟩ (fun hHeld => ?_)
      refine takeH (i := 0) 51 (.agg #[.int .i64 a.k, .int .i64 a.n]) rfl rfl (by kernel_rfl) (by kernel_rfl) (by kernel_rfl) (fun _ _ _ h => h) (by rfl) ?_ (by assumption) ?_
      · intro w hSw; (try dsimp only at hSw); go_simp
      simp only [List.setIfInBounds_toArray, List.set_cons_zero, List.set_cons_succ]
      refine takeH (i := 2) 53 (.agg #[.int .i64 u.k, .int .i64 u.n]) rfl rfl (by kernel_rfl) (by kernel_rfl) (by kernel_rfl) (fun _ _ _ h => h) (by rfl) ?_ (by assumption) ?_
      · intro w hSw; (try dsimp only at hSw); go_simp
      simp only [List.setIfInBounds_toArray, List.set_cons_zero, List.set_cons_succ]
      refine wpAnyH_ready (rs := [1]) (by kernel_rfl) (by simp) ?_
      refine AllReadyH.cons rfl (fun K hK => ?_) AllReadyH.nil
      go_simp
      refine (cOne a _).mono ?_
      rintro e woe1 ⟨rfl, hboe1⟩
      have BAe1 := BAd.below hboe1
      have BUe1 := BUd.below hboe1
      have BBe1 := BBd.below hboe1
      have BIe1 := BId.below hboe1
      have he1 := hd.below hboe1
      refine hK.out _ _ ⟨(BAe1).cell 0, (BAe1).cell 1, (BUe1).cell 0, (BUe1).cell 1, (BBe1).cell 0, (BBe1).cell 1, (BIe1).cell 0, (BIe1).cell 1⟩ (fun hHeld => ?_)
      clear hK K
      try simp only [Act.put, List.setIfInBounds_toArray, List.set_cons_zero, List.set_cons_succ]
      refine wpAnyH_ready (rs := [3]) (by kernel_rfl) (by simp) ?_
      refine AllReadyH.cons rfl (fun K hK => ?_) AllReadyH.nil
      go_simp
      refine (cOne u _).mono ?_
      rintro e woe2 ⟨rfl, hboe2⟩
      have BAe2 := BAe1.below hboe2
      have BUe2 := BUe1.below hboe2
      have BBe2 := BBe1.below hboe2
      have BIe2 := BIe1.below hboe2
      have he2 := he1.below hboe2
      refine hK.out _ _ ⟨(BAe2).cell 0, (BAe2).cell 1, (BUe2).cell 0, (BUe2).cell 1, (BBe2).cell 0, (BBe2).cell 1, (BIe2).cell 0, (BIe2).cell 1⟩ (fun hHeld => ?_)
      clear hK K
      try simp only [Act.put, List.setIfInBounds_toArray, List.set_cons_zero, List.set_cons_succ]
      refine takeH (i := 4) 55 (.bool false) rfl rfl (by kernel_rfl) (by kernel_rfl) (by kernel_rfl) (fun _ _ _ h => h) (by rfl) ?_ (by assumption) ?_
      · intro w hSw; (try dsimp only at hSw); go_simp
      simp only [List.setIfInBounds_toArray, List.set_cons_zero, List.set_cons_succ]
      refine takeH (i := 5) 56 (.bool false) rfl rfl (by kernel_rfl) (by kernel_rfl) (by kernel_rfl) (fun _ _ _ h => h) (by rfl) ?_ (by assumption) ?_
      · intro w hSw; (try dsimp only at hSw); go_simp
      simp only [List.setIfInBounds_toArray, List.set_cons_zero, List.set_cons_succ]
      refine takeH (i := 6) 57 (.agg #[.int .i64 b'.k, .int .i64 b'.n]) rfl rfl (by kernel_rfl) (by kernel_rfl) (by kernel_rfl) (fun _ _ _ h => h) (by rfl) ?_ (by assumption) ?_
      · intro w hSw; (try dsimp only at hSw); go_simp
      simp only [List.setIfInBounds_toArray, List.set_cons_zero, List.set_cons_succ]
      refine takeH (i := 8) 59 (.agg #[.int .i64 u.k, .int .i64 u.n]) rfl rfl (by kernel_rfl) (by kernel_rfl) (by kernel_rfl) (fun _ _ _ h => h) (by rfl) ?_ (by assumption) ?_
      · intro w hSw; (try dsimp only at hSw); go_simp
      simp only [List.setIfInBounds_toArray, List.set_cons_zero, List.set_cons_succ]
      refine wpAnyH_ready (rs := [7]) (by kernel_rfl) (by simp) ?_
      refine AllReadyH.cons rfl (fun K hK => ?_) AllReadyH.nil
      go_simp
      refine (cOne b' _).mono ?_
      rintro e woe3 ⟨rfl, hboe3⟩
      have BAe3 := BAe2.below hboe3
      have BUe3 := BUe2.below hboe3
      have BBe3 := BBe2.below hboe3
      have BIe3 := BIe2.below hboe3
      have he3 := he2.below hboe3
      refine hK.out _ _ ⟨(BAe3).cell 0, (BAe3).cell 1, (BUe3).cell 0, (BUe3).cell 1, (BBe3).cell 0, (BBe3).cell 1, (BIe3).cell 0, (BIe3).cell 1⟩ (fun hHeld => ?_)
      clear hK K
      try simp only [Act.put, List.setIfInBounds_toArray, List.set_cons_zero, List.set_cons_succ]
      refine wpAnyH_ready (rs := [9]) (by kernel_rfl) (by simp) ?_
      refine AllReadyH.cons rfl (fun K hK => ?_) AllReadyH.nil
      go_simp
      refine (cOne u _).mono ?_
      rintro e woe4 ⟨rfl, hboe4⟩
      have BAe4 := BAe3.below hboe4
      have BUe4 := BUe3.below hboe4
      have BBe4 := BBe3.below hboe4
      have BIe4 := BIe3.below hboe4
      have he4 := he3.below hboe4
      refine hK.out _ _ ⟨(BAe4).cell 0, (BAe4).cell 1, (BUe4).cell 0, (BUe4).cell 1, (BBe4).cell 0, (BBe4).cell 1, (BIe4).cell 0, (BIe4).cell 1⟩ (fun hHeld => ?_)
      clear hK K
      try simp only [Act.put, List.setIfInBounds_toArray, List.set_cons_zero, List.set_cons_succ]
      refine takeH (i := 10) 61 (.bool true) rfl rfl (by kernel_rfl) (by kernel_rfl) (by kernel_rfl) (fun _ _ _ h => h) (by rfl) ?_ (by assumption) ?_
      · intro w hSw; (try dsimp only at hSw); go_simp
      simp only [List.setIfInBounds_toArray, List.set_cons_zero, List.set_cons_succ]
      refine takeH (i := 11) 62 (.bool true) rfl rfl (by kernel_rfl) (by kernel_rfl) (by kernel_rfl) (fun _ _ _ h => h) (by rfl) ?_ (by assumption) ?_
      · intro w hSw; (try dsimp only at hSw); go_simp
      simp only [List.setIfInBounds_toArray, List.set_cons_zero, List.set_cons_succ]
      refine takeH (i := 12) 63 (.bool true) rfl rfl (by kernel_rfl) (by kernel_rfl) (by kernel_rfl) (fun _ _ _ h => h) (by rfl) ?_ (by assumption) ?_
      · intro w hSw; (try dsimp only at hSw); go_simp
      simp only [List.setIfInBounds_toArray, List.set_cons_zero, List.set_cons_succ]
      refine skipH (i := 13) 64 rfl rfl (by kernel_rfl) (by kernel_rfl) (by kernel_rfl) (fun _ _ _ h => h) (by rfl) (by assumption) ?_
      simp only [List.setIfInBounds_toArray, List.set_cons_zero, List.set_cons_succ]
      refine skipH (i := 14) 65 rfl rfl (by kernel_rfl) (by kernel_rfl) (by kernel_rfl) (fun _ _ _ h => h) (by rfl) (by assumption) ?_
      simp only [List.setIfInBounds_toArray, List.set_cons_zero, List.set_cons_succ]
      refine skipH (i := 15) 66 rfl rfl (by kernel_rfl) (by kernel_rfl) (by kernel_rfl) (fun _ _ _ h => h) (by rfl) (by assumption) ?_
      simp only [List.setIfInBounds_toArray, List.set_cons_zero, List.set_cons_succ]
      refine takeH (i := 16) 67 (.bool true) rfl rfl (by kernel_rfl) (by kernel_rfl) (by kernel_rfl) (fun _ _ _ h => h) (by rfl) ?_ (by assumption) ?_
      · intro w hSw; (try dsimp only at hSw); go_simp
      simp only [List.setIfInBounds_toArray, List.set_cons_zero, List.set_cons_succ]
      refine takeH (i := 17) 68 (.bool true) rfl rfl (by kernel_rfl) (by kernel_rfl) (by kernel_rfl) (fun _ _ _ h => h) (by rfl) ?_ (by assumption) ?_
      · intro w hSw; (try dsimp only at hSw); go_simp
      simp only [List.setIfInBounds_toArray, List.set_cons_zero, List.set_cons_succ]
      refine skipH (i := 18) 69 rfl rfl (by kernel_rfl) (by kernel_rfl) (by kernel_rfl) (fun _ _ _ h => h) (by rfl) (by assumption) ?_
      simp only [List.setIfInBounds_toArray, List.set_cons_zero, List.set_cons_succ]
      refine skipH (i := 19) 70 rfl rfl (by kernel_rfl) (by kernel_rfl) (by kernel_rfl) (fun _ _ _ h => h) (by rfl) (by assumption) ?_
      simp only [List.setIfInBounds_toArray, List.set_cons_zero, List.set_cons_succ]
      refine skipH (i := 20) 71 rfl rfl (by kernel_rfl) (by kernel_rfl) (by kernel_rfl) (fun _ _ _ h => h) (by rfl) (by assumption) ?_
      simp only [List.setIfInBounds_toArray, List.set_cons_zero, List.set_cons_succ]
      refine takeH (i := 21) 72 (.bool true) rfl rfl (by kernel_rfl) (by kernel_rfl) (by kernel_rfl) (fun _ _ _ h => h) (by rfl) ?_ (by assumption) ?_
      · intro w hSw; (try dsimp only at hSw); go_simp
      simp only [List.setIfInBounds_toArray, List.set_cons_zero, List.set_cons_succ]
      refine wpAnyH_done (by kernel_rfl) ?_ _
      refine NoPanic.normal ?_
      go_wp2
      go_ret
      exact ⟨rfl, he4.bel⟩
    · have q2 := eqVal_f nb
      have hu1 : Vl.of uw = u := by rw [← huw]; exact G.of
      have na' : Hid (oneP a ≠ oneP u) := na
      have nb' : Hid (oneP b' ≠ oneP u) := nb
      clear na nb
      by_cases n9 : a = nine
      · have q3 : ∀ w, (binOp .eql 38 (.agg #[.int .i64 a.k, .int .i64 a.n]) (.agg #[.int .i64 0, .int .i64 9])).run Tryz.prog w = .ok (.bool true) w := eqVal_t (b := nine) n9
        clear n9
        have hbd : Below w8.heap.size w8 w8.drew := (Below.refl _ _).drew
        have BAd := BA8.below hbd
        have BUd := BU8.below hbd
        have BBd := BB.below hbd
        have BId := BI.below hbd
        have hd := h9.below hbd
        refine wp_region_noPanic ?_
        refine wp_region_held_drew (S := fun w' => w'.cell? ⟨ab, 0, none⟩ = some (.int .i64 a.k) ∧ w'.cell? ⟨ab, 1, none⟩ = some (.int .i64 a.n) ∧ w'.cell? ⟨ub, 0, none⟩ = some (.int .i64 u.k) ∧ w'.cell? ⟨ub, 1, none⟩ = some (.int .i64 u.n) ∧ w'.cell? ⟨bb, 0, none⟩ = some (.int .i64 b'.k) ∧ w'.cell? ⟨bb, 1, none⟩ = some (.int .i64 b'.n) ∧ w'.cell? ⟨nib, 0, none⟩ = some (.int .i64 0) ∧ w'.cell? ⟨nib, 1, none⟩ = some (.int .i64 9)) (by kernel_rfl) ⟨(BAd).cell 0, (BAd).cell 1, (BUd).cell 0, (BUd).cell 1, (BBd).cell 0, (BBd).cell 1, (BId).cell 0, (BId).cell 1⟩ (fun hHeld => ?_)
        refine takeH (i := 0) 51 (.agg #[.int .i64 a.k, .int .i64 a.n]) rfl rfl (by kernel_rfl) (by kernel_rfl) (by kernel_rfl) (fun _ _ _ h => h) (by rfl) ?_ (by assumption) ?_
        · intro w hSw; (try dsimp only at hSw); go_simp
        simp only [List.setIfInBounds_toArray, List.set_cons_zero, List.set_cons_succ]
        refine takeH (i := 2) 53 (.agg #[.int .i64 u.k, .int .i64 u.n]) rfl rfl (by kernel_rfl) (by kernel_rfl) (by kernel_rfl) (fun _ _ _ h => h) (by rfl) ?_ (by assumption) ?_
        · intro w hSw; (try dsimp only at hSw); go_simp
        simp only [List.setIfInBounds_toArray, List.set_cons_zero, List.set_cons_succ]
        refine wpAnyH_ready (rs := [1]) (by kernel_rfl) (by simp) ?_
        refine AllReadyH.cons rfl (fun K hK => ?_) AllReadyH.nil
        go_simp
        refine (cOne a _).mono ?_
        rintro e woe1 ⟨rfl, hboe1⟩
        have BAe1 := BAd.below hboe1
        have BUe1 := BUd.below hboe1
        have BBe1 := BBd.below hboe1
        have BIe1 := BId.below hboe1
        have he1 := hd.below hboe1
        refine hK.out _ _ ⟨(BAe1).cell 0, (BAe1).cell 1, (BUe1).cell 0, (BUe1).cell 1, (BBe1).cell 0, (BBe1).cell 1, (BIe1).cell 0, (BIe1).cell 1⟩ (fun hHeld => ?_)
        clear hK K
        try simp only [Act.put, List.setIfInBounds_toArray, List.set_cons_zero, List.set_cons_succ]
        refine wpAnyH_ready (rs := [3]) (by kernel_rfl) (by simp) ?_
        refine AllReadyH.cons rfl (fun K hK => ?_) AllReadyH.nil
        go_simp
        refine (cOne u _).mono ?_
        rintro e woe2 ⟨rfl, hboe2⟩
        have BAe2 := BAe1.below hboe2
        have BUe2 := BUe1.below hboe2
        have BBe2 := BBe1.below hboe2
        have BIe2 := BIe1.below hboe2
        have he2 := he1.below hboe2
        refine hK.out _ _ ⟨(BAe2).cell 0, (BAe2).cell 1, (BUe2).cell 0, (BUe2).cell 1, (BBe2).cell 0, (BBe2).cell 1, (BIe2).cell 0, (BIe2).cell 1⟩ (fun hHeld => ?_)
        clear hK K
        try simp only [Act.put, List.setIfInBounds_toArray, List.set_cons_zero, List.set_cons_succ]
        refine takeH (i := 4) 55 (.bool false) rfl rfl (by kernel_rfl) (by kernel_rfl) (by kernel_rfl) (fun _ _ _ h => h) (by rfl) ?_ (by assumption) ?_
        · intro w hSw; (try dsimp only at hSw); go_simp
        simp only [List.setIfInBounds_toArray, List.set_cons_zero, List.set_cons_succ]
        refine takeH (i := 5) 56 (.bool false) rfl rfl (by kernel_rfl) (by kernel_rfl) (by kernel_rfl) (fun _ _ _ h => h) (by rfl) ?_ (by assumption) ?_
        · intro w hSw; (try dsimp only at hSw); go_simp
        simp only [List.setIfInBounds_toArray, List.set_cons_zero, List.set_cons_succ]
        refine takeH (i := 6) 57 (.agg #[.int .i64 b'.k, .int .i64 b'.n]) rfl rfl (by kernel_rfl) (by kernel_rfl) (by kernel_rfl) (fun _ _ _ h => h) (by rfl) ?_ (by assumption) ?_
        · intro w hSw; (try dsimp only at hSw); go_simp
        simp only [List.setIfInBounds_toArray, List.set_cons_zero, List.set_cons_succ]
        refine takeH (i := 8) 59 (.agg #[.int .i64 u.k, .int .i64 u.n]) rfl rfl (by kernel_rfl) (by kernel_rfl) (by kernel_rfl) (fun _ _ _ h => h) (by rfl) ?_ (by assumption) ?_
        · intro w hSw; (try dsimp only at hSw); go_simp
        simp only [List.setIfInBounds_toArray, List.set_cons_zero, List.set_cons_succ]
        refine wpAnyH_ready (rs := [7]) (by kernel_rfl) (by simp) ?_
        refine AllReadyH.cons rfl (fun K hK => ?_) AllReadyH.nil
        go_simp
        refine (cOne b' _).mono ?_
        rintro e woe3 ⟨rfl, hboe3⟩
        have BAe3 := BAe2.below hboe3
        have BUe3 := BUe2.below hboe3
        have BBe3 := BBe2.below hboe3
        have BIe3 := BIe2.below hboe3
        have he3 := he2.below hboe3
        refine hK.out _ _ ⟨(BAe3).cell 0, (BAe3).cell 1, (BUe3).cell 0, (BUe3).cell 1, (BBe3).cell 0, (BBe3).cell 1, (BIe3).cell 0, (BIe3).cell 1⟩ (fun hHeld => ?_)
        clear hK K
        try simp only [Act.put, List.setIfInBounds_toArray, List.set_cons_zero, List.set_cons_succ]
        refine wpAnyH_ready (rs := [9]) (by kernel_rfl) (by simp) ?_
        refine AllReadyH.cons rfl (fun K hK => ?_) AllReadyH.nil
        go_simp
        refine (cOne u _).mono ?_
        rintro e woe4 ⟨rfl, hboe4⟩
        have BAe4 := BAe3.below hboe4
        have BUe4 := BUe3.below hboe4
        have BBe4 := BBe3.below hboe4
        have BIe4 := BIe3.below hboe4
        have he4 := he3.below hboe4
        refine hK.out _ _ ⟨(BAe4).cell 0, (BAe4).cell 1, (BUe4).cell 0, (BUe4).cell 1, (BBe4).cell 0, (BBe4).cell 1, (BIe4).cell 0, (BIe4).cell 1⟩ (fun hHeld => ?_)
        clear hK K
        try simp only [Act.put, List.setIfInBounds_toArray, List.set_cons_zero, List.set_cons_succ]
        refine takeH (i := 10) 61 (.bool false) rfl rfl (by kernel_rfl) (by kernel_rfl) (by kernel_rfl) (fun _ _ _ h => h) (by rfl) ?_ (by assumption) ?_
        · intro w hSw; (try dsimp only at hSw); go_simp
        simp only [List.setIfInBounds_toArray, List.set_cons_zero, List.set_cons_succ]
        refine takeH (i := 11) 62 (.bool false) rfl rfl (by kernel_rfl) (by kernel_rfl) (by kernel_rfl) (fun _ _ _ h => h) (by rfl) ?_ (by assumption) ?_
        · intro w hSw; (try dsimp only at hSw); go_simp
        simp only [List.setIfInBounds_toArray, List.set_cons_zero, List.set_cons_succ]
        refine takeH (i := 12) 63 (.bool false) rfl rfl (by kernel_rfl) (by kernel_rfl) (by kernel_rfl) (fun _ _ _ h => h) (by rfl) ?_ (by assumption) ?_
        · intro w hSw; (try dsimp only at hSw); go_simp
        simp only [List.setIfInBounds_toArray, List.set_cons_zero, List.set_cons_succ]
        refine takeH (i := 13) 64 (.agg #[.int .i64 a.k, .int .i64 a.n]) rfl rfl (by kernel_rfl) (by kernel_rfl) (by kernel_rfl) (fun _ _ _ h => h) (by rfl) ?_ (by assumption) ?_
        · intro w hSw; (try dsimp only at hSw); go_simp
        simp only [List.setIfInBounds_toArray, List.set_cons_zero, List.set_cons_succ]
        refine takeH (i := 14) 65 (.agg #[.int .i64 0, .int .i64 9]) rfl rfl (by kernel_rfl) (by kernel_rfl) (by kernel_rfl) (fun _ _ _ h => h) (by rfl) ?_ (by assumption) ?_
        · intro w hSw; (try dsimp only at hSw); go_simp
        simp only [List.setIfInBounds_toArray, List.set_cons_zero, List.set_cons_succ]
        refine takeH (i := 15) 66 (.bool true) rfl rfl (by kernel_rfl) (by kernel_rfl) (by kernel_rfl) (fun _ _ _ h => h) (by rfl) ?_ (by assumption) ?_
        · intro w hSw; (try dsimp only at hSw); go_simp
        simp only [List.setIfInBounds_toArray, List.set_cons_zero, List.set_cons_succ]
        refine takeH (i := 16) 67 (.bool true) rfl rfl (by kernel_rfl) (by kernel_rfl) (by kernel_rfl) (fun _ _ _ h => h) (by rfl) ?_ (by assumption) ?_
        · intro w hSw; (try dsimp only at hSw); go_simp
        simp only [List.setIfInBounds_toArray, List.set_cons_zero, List.set_cons_succ]
        refine takeH (i := 17) 68 (.bool true) rfl rfl (by kernel_rfl) (by kernel_rfl) (by kernel_rfl) (fun _ _ _ h => h) (by rfl) ?_ (by assumption) ?_
        · intro w hSw; (try dsimp only at hSw); go_simp
        simp only [List.setIfInBounds_toArray, List.set_cons_zero, List.set_cons_succ]
        refine skipH (i := 18) 69 rfl rfl (by kernel_rfl) (by kernel_rfl) (by kernel_rfl) (fun _ _ _ h => h) (by rfl) (by assumption) ?_
        simp only [List.setIfInBounds_toArray, List.set_cons_zero, List.set_cons_succ]
        refine skipH (i := 19) 70 rfl rfl (by kernel_rfl) (by kernel_rfl) (by kernel_rfl) (fun _ _ _ h => h) (by rfl) (by assumption) ?_
        simp only [List.setIfInBounds_toArray, List.set_cons_zero, List.set_cons_succ]
        refine skipH (i := 20) 71 rfl rfl (by kernel_rfl) (by kernel_rfl) (by kernel_rfl) (fun _ _ _ h => h) (by rfl) (by assumption) ?_
        simp only [List.setIfInBounds_toArray, List.set_cons_zero, List.set_cons_succ]
        refine takeH (i := 21) 72 (.bool true) rfl rfl (by kernel_rfl) (by kernel_rfl) (by kernel_rfl) (fun _ _ _ h => h) (by rfl) ?_ (by assumption) ?_
        · intro w hSw; (try dsimp only at hSw); go_simp
        simp only [List.setIfInBounds_toArray, List.set_cons_zero, List.set_cons_succ]
        refine wpAnyH_done (by kernel_rfl) ?_ _
        refine NoPanic.normal ?_
        go_wp2
        go_ret
        exact ⟨rfl, he4.bel⟩
      have q3 : ∀ w, (binOp .eql 38 (.agg #[.int .i64 a.k, .int .i64 a.n]) (.agg #[.int .i64 0, .int .i64 9])).run Tryz.prog w = .ok (.bool false) w := eqVal_f (b := nine) n9
      have na9 : Hid (a ≠ nine) := n9
      clear n9
      by_cases n9 : b' = nine
      · have q4 : ∀ w, (binOp .eql 38 (.agg #[.int .i64 b'.k, .int .i64 b'.n]) (.agg #[.int .i64 0, .int .i64 9])).run Tryz.prog w = .ok (.bool true) w := eqVal_t (b := nine) n9
        clear n9
        have hbd : Below w8.heap.size w8 w8.drew := (Below.refl _ _).drew
        have BAd := BA8.below hbd
        have BUd := BU8.below hbd
        have BBd := BB.below hbd
        have BId := BI.below hbd
        have hd := h9.below hbd
        refine wp_region_noPanic ?_
        refine wp_region_held_drew (S := fun w' => w'.cell? ⟨ab, 0, none⟩ = some (.int .i64 a.k) ∧ w'.cell? ⟨ab, 1, none⟩ = some (.int .i64 a.n) ∧ w'.cell? ⟨ub, 0, none⟩ = some (.int .i64 u.k) ∧ w'.cell? ⟨ub, 1, none⟩ = some (.int .i64 u.n) ∧ w'.cell? ⟨bb, 0, none⟩ = some (.int .i64 b'.k) ∧ w'.cell? ⟨bb, 1, none⟩ = some (.int .i64 b'.n) ∧ w'.cell? ⟨nib, 0, none⟩ = some (.int .i64 0) ∧ w'.cell? ⟨nib, 1, none⟩ = some (.int .i64 9)) (by kernel_rfl) ⟨(BAd).cell 0, (BAd).cell 1, (BUd).cell 0, (BUd).cell 1, (BBd).cell 0, (BBd).cell 1, (BId).cell 0, (BId).cell 1⟩ (fun hHeld => ?_)
        refine takeH (i := 0) 51 (.agg #[.int .i64 a.k, .int .i64 a.n]) rfl rfl (by kernel_rfl) (by kernel_rfl) (by kernel_rfl) (fun _ _ _ h => h) (by rfl) ?_ (by assumption) ?_
        · intro w hSw; (try dsimp only at hSw); go_simp
        simp only [List.setIfInBounds_toArray, List.set_cons_zero, List.set_cons_succ]
        refine takeH (i := 2) 53 (.agg #[.int .i64 u.k, .int .i64 u.n]) rfl rfl (by kernel_rfl) (by kernel_rfl) (by kernel_rfl) (fun _ _ _ h => h) (by rfl) ?_ (by assumption) ?_
        · intro w hSw; (try dsimp only at hSw); go_simp
        simp only [List.setIfInBounds_toArray, List.set_cons_zero, List.set_cons_succ]
        refine wpAnyH_ready (rs := [1]) (by kernel_rfl) (by simp) ?_
        refine AllReadyH.cons rfl (fun K hK => ?_) AllReadyH.nil
        go_simp
        refine (cOne a _).mono ?_
        rintro e woe1 ⟨rfl, hboe1⟩
        have BAe1 := BAd.below hboe1
        have BUe1 := BUd.below hboe1
        have BBe1 := BBd.below hboe1
        have BIe1 := BId.below hboe1
        have he1 := hd.below hboe1
        refine hK.out _ _ ⟨(BAe1).cell 0, (BAe1).cell 1, (BUe1).cell 0, (BUe1).cell 1, (BBe1).cell 0, (BBe1).cell 1, (BIe1).cell 0, (BIe1).cell 1⟩ (fun hHeld => ?_)
        clear hK K
        try simp only [Act.put, List.setIfInBounds_toArray, List.set_cons_zero, List.set_cons_succ]
        refine wpAnyH_ready (rs := [3]) (by kernel_rfl) (by simp) ?_
        refine AllReadyH.cons rfl (fun K hK => ?_) AllReadyH.nil
        go_simp
        refine (cOne u _).mono ?_
        rintro e woe2 ⟨rfl, hboe2⟩
        have BAe2 := BAe1.below hboe2
        have BUe2 := BUe1.below hboe2
        have BBe2 := BBe1.below hboe2
        have BIe2 := BIe1.below hboe2
        have he2 := he1.below hboe2
        refine hK.out _ _ ⟨(BAe2).cell 0, (BAe2).cell 1, (BUe2).cell 0, (BUe2).cell 1, (BBe2).cell 0, (BBe2).cell 1, (BIe2).cell 0, (BIe2).cell 1⟩ (fun hHeld => ?_)
        clear hK K
        try simp only [Act.put, List.setIfInBounds_toArray, List.set_cons_zero, List.set_cons_succ]
        refine takeH (i := 4) 55 (.bool false) rfl rfl (by kernel_rfl) (by kernel_rfl) (by kernel_rfl) (fun _ _ _ h => h) (by rfl) ?_ (by assumption) ?_
        · intro w hSw; (try dsimp only at hSw); go_simp
        simp only [List.setIfInBounds_toArray, List.set_cons_zero, List.set_cons_succ]
        refine takeH (i := 5) 56 (.bool false) rfl rfl (by kernel_rfl) (by kernel_rfl) (by kernel_rfl) (fun _ _ _ h => h) (by rfl) ?_ (by assumption) ?_
        · intro w hSw; (try dsimp only at hSw); go_simp
        simp only [List.setIfInBounds_toArray, List.set_cons_zero, List.set_cons_succ]
        refine takeH (i := 6) 57 (.agg #[.int .i64 b'.k, .int .i64 b'.n]) rfl rfl (by kernel_rfl) (by kernel_rfl) (by kernel_rfl) (fun _ _ _ h => h) (by rfl) ?_ (by assumption) ?_
        · intro w hSw; (try dsimp only at hSw); go_simp
        simp only [List.setIfInBounds_toArray, List.set_cons_zero, List.set_cons_succ]
        refine takeH (i := 8) 59 (.agg #[.int .i64 u.k, .int .i64 u.n]) rfl rfl (by kernel_rfl) (by kernel_rfl) (by kernel_rfl) (fun _ _ _ h => h) (by rfl) ?_ (by assumption) ?_
        · intro w hSw; (try dsimp only at hSw); go_simp
        simp only [List.setIfInBounds_toArray, List.set_cons_zero, List.set_cons_succ]
        refine wpAnyH_ready (rs := [7]) (by kernel_rfl) (by simp) ?_
        refine AllReadyH.cons rfl (fun K hK => ?_) AllReadyH.nil
        go_simp
        refine (cOne b' _).mono ?_
        rintro e woe3 ⟨rfl, hboe3⟩
        have BAe3 := BAe2.below hboe3
        have BUe3 := BUe2.below hboe3
        have BBe3 := BBe2.below hboe3
        have BIe3 := BIe2.below hboe3
        have he3 := he2.below hboe3
        refine hK.out _ _ ⟨(BAe3).cell 0, (BAe3).cell 1, (BUe3).cell 0, (BUe3).cell 1, (BBe3).cell 0, (BBe3).cell 1, (BIe3).cell 0, (BIe3).cell 1⟩ (fun hHeld => ?_)
        clear hK K
        try simp only [Act.put, List.setIfInBounds_toArray, List.set_cons_zero, List.set_cons_succ]
        refine wpAnyH_ready (rs := [9]) (by kernel_rfl) (by simp) ?_
        refine AllReadyH.cons rfl (fun K hK => ?_) AllReadyH.nil
        go_simp
        refine (cOne u _).mono ?_
        rintro e woe4 ⟨rfl, hboe4⟩
        have BAe4 := BAe3.below hboe4
        have BUe4 := BUe3.below hboe4
        have BBe4 := BBe3.below hboe4
        have BIe4 := BIe3.below hboe4
        have he4 := he3.below hboe4
        refine hK.out _ _ ⟨(BAe4).cell 0, (BAe4).cell 1, (BUe4).cell 0, (BUe4).cell 1, (BBe4).cell 0, (BBe4).cell 1, (BIe4).cell 0, (BIe4).cell 1⟩ (fun hHeld => ?_)
        clear hK K
        try simp only [Act.put, List.setIfInBounds_toArray, List.set_cons_zero, List.set_cons_succ]
        refine takeH (i := 10) 61 (.bool false) rfl rfl (by kernel_rfl) (by kernel_rfl) (by kernel_rfl) (fun _ _ _ h => h) (by rfl) ?_ (by assumption) ?_
        · intro w hSw; (try dsimp only at hSw); go_simp
        simp only [List.setIfInBounds_toArray, List.set_cons_zero, List.set_cons_succ]
        refine takeH (i := 11) 62 (.bool false) rfl rfl (by kernel_rfl) (by kernel_rfl) (by kernel_rfl) (fun _ _ _ h => h) (by rfl) ?_ (by assumption) ?_
        · intro w hSw; (try dsimp only at hSw); go_simp
        simp only [List.setIfInBounds_toArray, List.set_cons_zero, List.set_cons_succ]
        refine takeH (i := 12) 63 (.bool false) rfl rfl (by kernel_rfl) (by kernel_rfl) (by kernel_rfl) (fun _ _ _ h => h) (by rfl) ?_ (by assumption) ?_
        · intro w hSw; (try dsimp only at hSw); go_simp
        simp only [List.setIfInBounds_toArray, List.set_cons_zero, List.set_cons_succ]
        refine takeH (i := 13) 64 (.agg #[.int .i64 a.k, .int .i64 a.n]) rfl rfl (by kernel_rfl) (by kernel_rfl) (by kernel_rfl) (fun _ _ _ h => h) (by rfl) ?_ (by assumption) ?_
        · intro w hSw; (try dsimp only at hSw); go_simp
        simp only [List.setIfInBounds_toArray, List.set_cons_zero, List.set_cons_succ]
        refine takeH (i := 14) 65 (.agg #[.int .i64 0, .int .i64 9]) rfl rfl (by kernel_rfl) (by kernel_rfl) (by kernel_rfl) (fun _ _ _ h => h) (by rfl) ?_ (by assumption) ?_
        · intro w hSw; (try dsimp only at hSw); go_simp
        simp only [List.setIfInBounds_toArray, List.set_cons_zero, List.set_cons_succ]
        refine takeH (i := 15) 66 (.bool false) rfl rfl (by kernel_rfl) (by kernel_rfl) (by kernel_rfl) (fun _ _ _ h => h) (by rfl) ?_ (by assumption) ?_
        · intro w hSw; (try dsimp only at hSw); go_simp
        simp only [List.setIfInBounds_toArray, List.set_cons_zero, List.set_cons_succ]
        refine takeH (i := 16) 67 (.bool false) rfl rfl (by kernel_rfl) (by kernel_rfl) (by kernel_rfl) (fun _ _ _ h => h) (by rfl) ?_ (by assumption) ?_
        · intro w hSw; (try dsimp only at hSw); go_simp
        simp only [List.setIfInBounds_toArray, List.set_cons_zero, List.set_cons_succ]
        refine takeH (i := 17) 68 (.bool false) rfl rfl (by kernel_rfl) (by kernel_rfl) (by kernel_rfl) (fun _ _ _ h => h) (by rfl) ?_ (by assumption) ?_
        · intro w hSw; (try dsimp only at hSw); go_simp
        simp only [List.setIfInBounds_toArray, List.set_cons_zero, List.set_cons_succ]
        refine takeH (i := 18) 69 (.agg #[.int .i64 b'.k, .int .i64 b'.n]) rfl rfl (by kernel_rfl) (by kernel_rfl) (by kernel_rfl) (fun _ _ _ h => h) (by rfl) ?_ (by assumption) ?_
        · intro w hSw; (try dsimp only at hSw); go_simp
        simp only [List.setIfInBounds_toArray, List.set_cons_zero, List.set_cons_succ]
        refine takeH (i := 19) 70 (.agg #[.int .i64 0, .int .i64 9]) rfl rfl (by kernel_rfl) (by kernel_rfl) (by kernel_rfl) (fun _ _ _ h => h) (by rfl) ?_ (by assumption) ?_
        · intro w hSw; (try dsimp only at hSw); go_simp
        simp only [List.setIfInBounds_toArray, List.set_cons_zero, List.set_cons_succ]
        refine takeH (i := 20) 71 (.bool true) rfl rfl (by kernel_rfl) (by kernel_rfl) (by kernel_rfl) (fun _ _ _ h => h) (by rfl) ?_ (by assumption) ?_
        · intro w hSw; (try dsimp only at hSw); go_simp
        simp only [List.setIfInBounds_toArray, List.set_cons_zero, List.set_cons_succ]
        refine takeH (i := 21) 72 (.bool true) rfl rfl (by kernel_rfl) (by kernel_rfl) (by kernel_rfl) (fun _ _ _ h => h) (by rfl) ?_ (by assumption) ?_
        · intro w hSw; (try dsimp only at hSw); go_simp
        simp only [List.setIfInBounds_toArray, List.set_cons_zero, List.set_cons_succ]
        refine wpAnyH_done (by kernel_rfl) ?_ _
        refine NoPanic.normal ?_
        go_wp2
        go_ret
        exact ⟨rfl, he4.bel⟩
      have q4 : ∀ w, (binOp .eql 38 (.agg #[.int .i64 b'.k, .int .i64 b'.n]) (.agg #[.int .i64 0, .int .i64 9])).run Tryz.prog w = .ok (.bool false) w := eqVal_f (b := nine) n9
      have nb9 : Hid (b' ≠ nine) := n9
      clear n9
      have hbd : Below w8.heap.size w8 w8.drew := (Below.refl _ _).drew
      have BAd := BA8.below hbd
      have BUd := BU8.below hbd
      have BBd := BB.below hbd
      have BId := BI.below hbd
      have hd := h9.below hbd
      refine wp_region_noPanic ?_
      refine wp_region_held_drew (S := fun w' => w'.cell? ⟨ab, 0, none⟩ = some (.int .i64 a.k) ∧ w'.cell? ⟨ab, 1, none⟩ = some (.int .i64 a.n) ∧ w'.cell? ⟨ub, 0, none⟩ = some (.int .i64 u.k) ∧ w'.cell? ⟨ub, 1, none⟩ = some (.int .i64 u.n) ∧ w'.cell? ⟨bb, 0, none⟩ = some (.int .i64 b'.k) ∧ w'.cell? ⟨bb, 1, none⟩ = some (.int .i64 b'.n) ∧ w'.cell? ⟨nib, 0, none⟩ = some (.int .i64 0) ∧ w'.cell? ⟨nib, 1, none⟩ = some (.int .i64 9)) (by kernel_rfl) ⟨(BAd).cell 0, (BAd).cell 1, (BUd).cell 0, (BUd).cell 1, (BBd).cell 0, (BBd).cell 1, (BId).cell 0, (BId).cell 1⟩ (fun hHeld => ?_)
      refine takeH (i := 0) 51 (.agg #[.int .i64 a.k, .int .i64 a.n]) rfl rfl (by kernel_rfl) (by kernel_rfl) (by kernel_rfl) (fun _ _ _ h => h) (by rfl) ?_ (by assumption) ?_
      · intro w hSw; (try dsimp only at hSw); go_simp
      simp only [List.setIfInBounds_toArray, List.set_cons_zero, List.set_cons_succ]
      refine takeH (i := 2) 53 (.agg #[.int .i64 u.k, .int .i64 u.n]) rfl rfl (by kernel_rfl) (by kernel_rfl) (by kernel_rfl) (fun _ _ _ h => h) (by rfl) ?_ (by assumption) ?_
      · intro w hSw; (try dsimp only at hSw); go_simp
      simp only [List.setIfInBounds_toArray, List.set_cons_zero, List.set_cons_succ]
      refine wpAnyH_ready (rs := [1]) (by kernel_rfl) (by simp) ?_
      refine AllReadyH.cons rfl (fun K hK => ?_) AllReadyH.nil
      go_simp
      refine (cOne a _).mono ?_
      rintro e woe1 ⟨rfl, hboe1⟩
      have BAe1 := BAd.below hboe1
      have BUe1 := BUd.below hboe1
      have BBe1 := BBd.below hboe1
      have BIe1 := BId.below hboe1
      have he1 := hd.below hboe1
      refine hK.out _ _ ⟨(BAe1).cell 0, (BAe1).cell 1, (BUe1).cell 0, (BUe1).cell 1, (BBe1).cell 0, (BBe1).cell 1, (BIe1).cell 0, (BIe1).cell 1⟩ (fun hHeld => ?_)
      clear hK K
      try simp only [Act.put, List.setIfInBounds_toArray, List.set_cons_zero, List.set_cons_succ]
      refine wpAnyH_ready (rs := [3]) (by kernel_rfl) (by simp) ?_
      refine AllReadyH.cons rfl (fun K hK => ?_) AllReadyH.nil
      go_simp
      refine (cOne u _).mono ?_
      rintro e woe2 ⟨rfl, hboe2⟩
      have BAe2 := BAe1.below hboe2
      have BUe2 := BUe1.below hboe2
      have BBe2 := BBe1.below hboe2
      have BIe2 := BIe1.below hboe2
      have he2 := he1.below hboe2
      refine hK.out _ _ ⟨(BAe2).cell 0, (BAe2).cell 1, (BUe2).cell 0, (BUe2).cell 1, (BBe2).cell 0, (BBe2).cell 1, (BIe2).cell 0, (BIe2).cell 1⟩ (fun hHeld => ?_)
      clear hK K
      try simp only [Act.put, List.setIfInBounds_toArray, List.set_cons_zero, List.set_cons_succ]
      refine takeH (i := 4) 55 (.bool false) rfl rfl (by kernel_rfl) (by kernel_rfl) (by kernel_rfl) (fun _ _ _ h => h) (by rfl) ?_ (by assumption) ?_
      · intro w hSw; (try dsimp only at hSw); go_simp
      simp only [List.setIfInBounds_toArray, List.set_cons_zero, List.set_cons_succ]
      refine takeH (i := 5) 56 (.bool false) rfl rfl (by kernel_rfl) (by kernel_rfl) (by kernel_rfl) (fun _ _ _ h => h) (by rfl) ?_ (by assumption) ?_
      · intro w hSw; (try dsimp only at hSw); go_simp
      simp only [List.setIfInBounds_toArray, List.set_cons_zero, List.set_cons_succ]
      refine takeH (i := 6) 57 (.agg #[.int .i64 b'.k, .int .i64 b'.n]) rfl rfl (by kernel_rfl) (by kernel_rfl) (by kernel_rfl) (fun _ _ _ h => h) (by rfl) ?_ (by assumption) ?_
      · intro w hSw; (try dsimp only at hSw); go_simp
      simp only [List.setIfInBounds_toArray, List.set_cons_zero, List.set_cons_succ]
      refine takeH (i := 8) 59 (.agg #[.int .i64 u.k, .int .i64 u.n]) rfl rfl (by kernel_rfl) (by kernel_rfl) (by kernel_rfl) (fun _ _ _ h => h) (by rfl) ?_ (by assumption) ?_
      · intro w hSw; (try dsimp only at hSw); go_simp
      simp only [List.setIfInBounds_toArray, List.set_cons_zero, List.set_cons_succ]
      refine wpAnyH_ready (rs := [7]) (by kernel_rfl) (by simp) ?_
      refine AllReadyH.cons rfl (fun K hK => ?_) AllReadyH.nil
      go_simp
      refine (cOne b' _).mono ?_
      rintro e woe3 ⟨rfl, hboe3⟩
      have BAe3 := BAe2.below hboe3
      have BUe3 := BUe2.below hboe3
      have BBe3 := BBe2.below hboe3
      have BIe3 := BIe2.below hboe3
      have he3 := he2.below hboe3
      refine hK.out _ _ ⟨(BAe3).cell 0, (BAe3).cell 1, (BUe3).cell 0, (BUe3).cell 1, (BBe3).cell 0, (BBe3).cell 1, (BIe3).cell 0, (BIe3).cell 1⟩ (fun hHeld => ?_)
      clear hK K
      try simp only [Act.put, List.setIfInBounds_toArray, List.set_cons_zero, List.set_cons_succ]
      refine wpAnyH_ready (rs := [9]) (by kernel_rfl) (by simp) ?_
      refine AllReadyH.cons rfl (fun K hK => ?_) AllReadyH.nil
      go_simp
      refine (cOne u _).mono ?_
      rintro e woe4 ⟨rfl, hboe4⟩
      have BAe4 := BAe3.below hboe4
      have BUe4 := BUe3.below hboe4
      have BBe4 := BBe3.below hboe4
      have BIe4 := BIe3.below hboe4
      have he4 := he3.below hboe4
      refine hK.out _ _ ⟨(BAe4).cell 0, (BAe4).cell 1, (BUe4).cell 0, (BUe4).cell 1, (BBe4).cell 0, (BBe4).cell 1, (BIe4).cell 0, (BIe4).cell 1⟩ (fun hHeld => ?_)
      clear hK K
      try simp only [Act.put, List.setIfInBounds_toArray, List.set_cons_zero, List.set_cons_succ]
      refine takeH (i := 10) 61 (.bool false) rfl rfl (by kernel_rfl) (by kernel_rfl) (by kernel_rfl) (fun _ _ _ h => h) (by rfl) ?_ (by assumption) ?_
      · intro w hSw; (try dsimp only at hSw); go_simp
      simp only [List.setIfInBounds_toArray, List.set_cons_zero, List.set_cons_succ]
      refine takeH (i := 11) 62 (.bool false) rfl rfl (by kernel_rfl) (by kernel_rfl) (by kernel_rfl) (fun _ _ _ h => h) (by rfl) ?_ (by assumption) ?_
      · intro w hSw; (try dsimp only at hSw); go_simp
      simp only [List.setIfInBounds_toArray, List.set_cons_zero, List.set_cons_succ]
      refine takeH (i := 12) 63 (.bool false) rfl rfl (by kernel_rfl) (by kernel_rfl) (by kernel_rfl) (fun _ _ _ h => h) (by rfl) ?_ (by assumption) ?_
      · intro w hSw; (try dsimp only at hSw); go_simp
      simp only [List.setIfInBounds_toArray, List.set_cons_zero, List.set_cons_succ]
      refine takeH (i := 13) 64 (.agg #[.int .i64 a.k, .int .i64 a.n]) rfl rfl (by kernel_rfl) (by kernel_rfl) (by kernel_rfl) (fun _ _ _ h => h) (by rfl) ?_ (by assumption) ?_
      · intro w hSw; (try dsimp only at hSw); go_simp
      simp only [List.setIfInBounds_toArray, List.set_cons_zero, List.set_cons_succ]
      refine takeH (i := 14) 65 (.agg #[.int .i64 0, .int .i64 9]) rfl rfl (by kernel_rfl) (by kernel_rfl) (by kernel_rfl) (fun _ _ _ h => h) (by rfl) ?_ (by assumption) ?_
      · intro w hSw; (try dsimp only at hSw); go_simp
      simp only [List.setIfInBounds_toArray, List.set_cons_zero, List.set_cons_succ]
      refine takeH (i := 15) 66 (.bool false) rfl rfl (by kernel_rfl) (by kernel_rfl) (by kernel_rfl) (fun _ _ _ h => h) (by rfl) ?_ (by assumption) ?_
      · intro w hSw; (try dsimp only at hSw); go_simp
      simp only [List.setIfInBounds_toArray, List.set_cons_zero, List.set_cons_succ]
      refine takeH (i := 16) 67 (.bool false) rfl rfl (by kernel_rfl) (by kernel_rfl) (by kernel_rfl) (fun _ _ _ h => h) (by rfl) ?_ (by assumption) ?_
      · intro w hSw; (try dsimp only at hSw); go_simp
      simp only [List.setIfInBounds_toArray, List.set_cons_zero, List.set_cons_succ]
      refine takeH (i := 17) 68 (.bool false) rfl rfl (by kernel_rfl) (by kernel_rfl) (by kernel_rfl) (fun _ _ _ h => h) (by rfl) ?_ (by assumption) ?_
      · intro w hSw; (try dsimp only at hSw); go_simp
      simp only [List.setIfInBounds_toArray, List.set_cons_zero, List.set_cons_succ]
      refine takeH (i := 18) 69 (.agg #[.int .i64 b'.k, .int .i64 b'.n]) rfl rfl (by kernel_rfl) (by kernel_rfl) (by kernel_rfl) (fun _ _ _ h => h) (by rfl) ?_ (by assumption) ?_
      · intro w hSw; (try dsimp only at hSw); go_simp
      simp only [List.setIfInBounds_toArray, List.set_cons_zero, List.set_cons_succ]
      refine takeH (i := 19) 70 (.agg #[.int .i64 0, .int .i64 9]) rfl rfl (by kernel_rfl) (by kernel_rfl) (by kernel_rfl) (fun _ _ _ h => h) (by rfl) ?_ (by assumption) ?_
      · intro w hSw; (try dsimp only at hSw); go_simp
      simp only [List.setIfInBounds_toArray, List.set_cons_zero, List.set_cons_succ]
      refine takeH (i := 20) 71 (.bool false) rfl rfl (by kernel_rfl) (by kernel_rfl) (by kernel_rfl) (fun _ _ _ h => h) (by rfl) ?_ (by assumption) ?_
      · intro w hSw; (try dsimp only at hSw); go_simp
      simp only [List.setIfInBounds_toArray, List.set_cons_zero, List.set_cons_succ]
      refine takeH (i := 21) 72 (.bool false) rfl rfl (by kernel_rfl) (by kernel_rfl) (by kernel_rfl) (fun _ _ _ h => h) (by rfl) ?_ (by assumption) ?_
      · intro w hSw; (try dsimp only at hSw); go_simp
      simp only [List.setIfInBounds_toArray, List.set_cons_zero, List.set_cons_succ]
      refine wpAnyH_done (by kernel_rfl) ?_ _
      refine NoPanic.normal ?_
      clear q1 q2 q3 q4 hbd BAd BUd BBd BId hd BAe1 BUe1 BBe1 BIe1 he1 BAe2 BUe2 BBe2 BIe2 he2 BAe3 BUe3 BBe3 BIe3 he3 BA8 BU8 BB BI h9 BIe4
      go_upto_region 13 with (fail)
      have EB : Below woe4.heap.size woe4 (woe4.alloc (.cells #[.int .i64 6, .int .i64 0, .int .i64 9] 54)) := (Below.refl _ _).alloc (Nat.le_refl _) _
      have BE0 : Blk w (woe4.alloc (.cells #[.int .i64 6, .int .i64 0, .int .i64 9] 54)) woe4.heap.size 54 #[.int .i64 6, .int .i64 0, .int .i64 9] := Blk.new he4.bel.size _ (by decide)
      have i0 := he4.below EB
      have BU0 := BUe4.below EB
      have BA0 := BAe4.below EB
      have BB0 := BBe4.below EB
      generalize woe4.alloc (.cells #[.int .i64 6, .int .i64 0, .int .i64 9] 54) = wE at BE0 i0 BU0 BA0 BB0 ⊢
      generalize woe4.heap.size = eb at BE0 ⊢
      clear EB
      go_upto_region 14 with (fail)
      have XB : Below wE.heap.size wE (wE.alloc (.cells #[.pointer none, .pointer none] 83)) := (Below.refl _ _).alloc (Nat.le_refl _) _
      have X9 : Blk w (wE.alloc (.cells #[.pointer none, .pointer none] 83)) wE.heap.size 83 #[.pointer none, .pointer none] := Blk.new i0.bel.size _ (by decide)
      have i9 := i0.below XB
      have BU9 := BU0.below XB
      have BA9 := BA0.below XB
      have BB9 := BB0.below XB
      have BE9 := BE0.below XB
      generalize wE.alloc (.cells #[.pointer none, .pointer none] 83) = w9 at X9 i9 BU9 BA9 BB9 BE9 ⊢
      generalize wE.heap.size = xb at X9 ⊢
      clear XB BE0 i0 BU0 BA0 BB0
      have hbd : Below w9.heap.size w9 w9.drew := (Below.refl _ _).drew
      have id := i9.below hbd
      have BUd := BU9.below hbd
      have BAd := BA9.below hbd
      have BBd := BB9.below hbd
      have BEd := BE9.below hbd
      have Xd := X9.below hbd
      refine wp_region_noPanic ?_
      refine wp_region_held_drew (S := fun w' => w'.cell? ⟨ub, 0, none⟩ = some (.int .i64 u.k) ∧ w'.cell? ⟨ub, 1, none⟩ = some (.int .i64 u.n) ∧ w'.cell? ⟨ab, 0, none⟩ = some (.int .i64 a.k) ∧ w'.cell? ⟨ab, 1, none⟩ = some (.int .i64 a.n) ∧ w'.cell? ⟨eb, 0, none⟩ = some (.int .i64 6) ∧ w'.cell? ⟨eb, 1, none⟩ = some (.int .i64 0) ∧ w'.cell? ⟨eb, 2, none⟩ = some (.int .i64 9)) (by kernel_rfl) ⟨BUd.cell 0, BUd.cell 1, BAd.cell 0, BAd.cell 1, BEd.cell 0, BEd.cell 1, BEd.cell 2⟩ (fun hHeld => ?_)
      refine takeH (i := 1) 77 (.agg #[.int .i64 u.k, .int .i64 u.n]) rfl rfl (by kernel_rfl) (by kernel_rfl) (by kernel_rfl) (fun _ _ _ h => h) (by rfl) ?_ (by assumption) ?_
      · intro w hSw; (try dsimp only at hSw); go_simp
      simp only [List.setIfInBounds_toArray, List.set_cons_zero, List.set_cons_succ]
      refine takeH (i := 2) 78 (.agg #[.int .i64 a.k, .int .i64 a.n]) rfl rfl (by kernel_rfl) (by kernel_rfl) (by kernel_rfl) (fun _ _ _ h => h) (by rfl) ?_ (by assumption) ?_
      · intro w hSw; (try dsimp only at hSw); go_simp
      simp only [List.setIfInBounds_toArray, List.set_cons_zero, List.set_cons_succ]
      refine takeH (i := 3) 79 (.agg #[.int .i64 3, .int .i64 96, .int .i64 0, .int .i64 u.k, .int .i64 u.n, .int .i64 a.k, .int .i64 a.n]) rfl rfl (by kernel_rfl) (by kernel_rfl) (by kernel_rfl) (fun _ _ _ h => h) (by rfl) ?_ (by assumption) ?_
      · intro w hSw; (try dsimp only at hSw); go_simp
      simp only [List.setIfInBounds_toArray, List.set_cons_zero, List.set_cons_succ]
      refine takeH (i := 4) 80 (.agg #[.int .i64 6, .int .i64 0, .int .i64 9]) rfl rfl (by kernel_rfl) (by kernel_rfl) (by kernel_rfl) (fun _ _ _ h => h) (by rfl) ?_ (by assumption) ?_
      · intro w hSw; (try dsimp only at hSw); go_simp
      simp only [List.setIfInBounds_toArray, List.set_cons_zero, List.set_cons_succ]
      refine wpAnyH_ready (rs := [0]) (by kernel_rfl) (by simp) ?_
      refine AllReadyH.cons rfl (fun K hK => ?_) AllReadyH.nil
      go_simp
      refine (cAt _).mono ?_
      rintro e wt0 ⟨rfl, hbt⟩
      have it := id.below hbt
      have BUt := BUd.below hbt
      have BAt := BAd.below hbt
      have BBt := BBd.below hbt
      have BEt := BEd.below hbt
      have Xt := Xd.below hbt
      refine hK.out _ _ ⟨BUt.cell 0, BUt.cell 1, BAt.cell 0, BAt.cell 1, BEt.cell 0, BEt.cell 1, BEt.cell 2⟩ (fun hHeld => ?_)
      clear hK K
      try simp only [Act.put, List.setIfInBounds_toArray, List.set_cons_zero, List.set_cons_succ]
      refine wpAnyH_ready (rs := [5]) (by kernel_rfl) (by simp) ?_
      refine AllReadyH.cons rfl (fun K hK => ?_) AllReadyH.nil
      go_simp
      refine (cNewC (rqS u a) ⟨6, 0, 9⟩ _ ok0 rfl).mono ?_
      rintro e wn0 ⟨p0, rfl, Mn⟩
      have in_ := it.below Mn.bel
      have BUn := BUt.below Mn.bel
      have BAn := BAt.below Mn.bel
      have BBn := BBt.below Mn.bel
      have BEn := BEt.below Mn.bel
      have Xn := Xt.below Mn.bel
      have Mk : Cm w wn0 p0 (.hd (rqS u a) false false) := Mn.cm it.bel.size okh0
      have xz : wn0.cell? ⟨xb, 0, none⟩ = some (.pointer none) := Xn.cell 0
      have xzf := Xn.free 0
      clear Mn
      refine hK.out _ _ ⟨BUn.cell 0, BUn.cell 1, BAn.cell 0, BAn.cell 1, BEn.cell 0, BEn.cell 1, BEn.cell 2⟩ (fun hHeld => ?_)
      clear hK K
      try simp only [Act.put, List.setIfInBounds_toArray, List.set_cons_zero, List.set_cons_succ]
      refine takeH (i := 6) 82 (.pointer (some ⟨xb, 0, none⟩)) rfl rfl (by kernel_rfl) (by kernel_rfl) (by kernel_rfl) (fun _ _ _ h => h) (by rfl) ?_ (by assumption) ?_
      · intro w hSw; (try dsimp only at hSw); go_simp
      simp only [List.setIfInBounds_toArray, List.set_cons_zero, List.set_cons_succ]
      have X11 : Blk w (wn0.setCell ⟨xb, 0, none⟩ (pt p0)) xb 83 #[pt p0, .pointer none] := Xn.set 0 (pt p0)
      have i11 := in_.set Xn 0 (pt p0)
      have oX : Oth [xb] wn0 (wn0.setCell ⟨xb, 0, none⟩ (pt p0)) := Oth.set _ _ _ _ (by simp)
      obtain ⟨vk, Bk⟩ := Mk.blk
      have P11 := Mk.oth1 oX Xn (by decide) (Bk.ne Xn (by decide))
      have BU11 := BUn.oth oX (by simpa using BUn.ne Xn (by decide))
      have BA11 := BAn.oth oX (by simpa using BAn.ne Xn (by decide))
      have BB11 := BBn.oth oX (by simpa using BBn.ne Xn (by decide))
      have BE11 := BEn.oth oX (by simpa using BEn.ne Xn (by decide))
      refine wpAnyH_ready (rs := [7]) (by kernel_rfl) (by simp) ?_
      refine AllReadyH.cons rfl (fun K hK => ?_) AllReadyH.nil
      go_simp
      refine hK.out _ _ ⟨BU11.cell 0, BU11.cell 1, BA11.cell 0, BA11.cell 1, BE11.cell 0, BE11.cell 1, BE11.cell 2⟩ (fun hHeld => ?_)
      clear hK K
      try simp only [Act.put, List.setIfInBounds_toArray, List.set_cons_zero, List.set_cons_succ]
      refine wpAnyH_done (by kernel_rfl) ?_ _
      refine NoPanic.normal ?_
      clear xz xzf oX Bk hbd hbt id BUd BAd BBd BEd Xd it BUt BAt BBt BEt Xt in_ BUn BAn BBn BEn Xn Mk
      generalize wn0.setCell ⟨xb, 0, none⟩ (pt p0) = w11 at X11 i11 P11 BU11 BA11 BB11 BE11 hHeld ⊢
      go_upto_region 15 with (fail)
      have hbd : Below w11.heap.size w11 w11.drew := (Below.refl _ _).drew
      have id := i11.below hbd
      have BUd := BU11.below hbd
      have BAd := BA11.below hbd
      have BBd := BB11.below hbd
      have BEd := BE11.below hbd
      have Xd := X11.below hbd
      have Pd := P11.below hbd
      refine wp_region_noPanic ?_
      refine wp_region_held_drew (S := fun w' => w'.cell? ⟨ub, 0, none⟩ = some (.int .i64 u.k) ∧ w'.cell? ⟨ub, 1, none⟩ = some (.int .i64 u.n) ∧ w'.cell? ⟨bb, 0, none⟩ = some (.int .i64 b'.k) ∧ w'.cell? ⟨bb, 1, none⟩ = some (.int .i64 b'.n) ∧ w'.cell? ⟨eb, 0, none⟩ = some (.int .i64 6) ∧ w'.cell? ⟨eb, 1, none⟩ = some (.int .i64 0) ∧ w'.cell? ⟨eb, 2, none⟩ = some (.int .i64 9)) (by kernel_rfl) ⟨BUd.cell 0, BUd.cell 1, BBd.cell 0, BBd.cell 1, BEd.cell 0, BEd.cell 1, BEd.cell 2⟩ (fun hHeld => ?_)
      refine takeH (i := 1) 84 (.agg #[.int .i64 u.k, .int .i64 u.n]) rfl rfl (by kernel_rfl) (by kernel_rfl) (by kernel_rfl) (fun _ _ _ h => h) (by rfl) ?_ (by assumption) ?_
      · intro w hSw; (try dsimp only at hSw); go_simp
      simp only [List.setIfInBounds_toArray, List.set_cons_zero, List.set_cons_succ]
      refine takeH (i := 2) 85 (.agg #[.int .i64 b'.k, .int .i64 b'.n]) rfl rfl (by kernel_rfl) (by kernel_rfl) (by kernel_rfl) (fun _ _ _ h => h) (by rfl) ?_ (by assumption) ?_
      · intro w hSw; (try dsimp only at hSw); go_simp
      simp only [List.setIfInBounds_toArray, List.set_cons_zero, List.set_cons_succ]
      refine takeH (i := 3) 86 (.agg #[.int .i64 3, .int .i64 96, .int .i64 0, .int .i64 u.k, .int .i64 u.n, .int .i64 b'.k, .int .i64 b'.n]) rfl rfl (by kernel_rfl) (by kernel_rfl) (by kernel_rfl) (fun _ _ _ h => h) (by rfl) ?_ (by assumption) ?_
      · intro w hSw; (try dsimp only at hSw); go_simp
      simp only [List.setIfInBounds_toArray, List.set_cons_zero, List.set_cons_succ]
      refine takeH (i := 4) 87 (.agg #[.int .i64 6, .int .i64 0, .int .i64 9]) rfl rfl (by kernel_rfl) (by kernel_rfl) (by kernel_rfl) (fun _ _ _ h => h) (by rfl) ?_ (by assumption) ?_
      · intro w hSw; (try dsimp only at hSw); go_simp
      simp only [List.setIfInBounds_toArray, List.set_cons_zero, List.set_cons_succ]
      refine wpAnyH_ready (rs := [0]) (by kernel_rfl) (by simp) ?_
      refine AllReadyH.cons rfl (fun K hK => ?_) AllReadyH.nil
      go_simp
      refine (cAt _).mono ?_
      rintro e wt1 ⟨rfl, hbt⟩
      have it := id.below hbt
      have BUt := BUd.below hbt
      have BAt := BAd.below hbt
      have BBt := BBd.below hbt
      have BEt := BEd.below hbt
      have Xt := Xd.below hbt
      have Pt := Pd.below hbt
      refine hK.out _ _ ⟨BUt.cell 0, BUt.cell 1, BBt.cell 0, BBt.cell 1, BEt.cell 0, BEt.cell 1, BEt.cell 2⟩ (fun hHeld => ?_)
      clear hK K
      try simp only [Act.put, List.setIfInBounds_toArray, List.set_cons_zero, List.set_cons_succ]
      refine wpAnyH_ready (rs := [5]) (by kernel_rfl) (by simp) ?_
      refine AllReadyH.cons rfl (fun K hK => ?_) AllReadyH.nil
      go_simp
      refine (cNewC (rqS u b') ⟨6, 0, 9⟩ _ ok1 rfl).mono ?_
      rintro e wn1 ⟨p1, rfl, Mn⟩
      have in_ := it.below Mn.bel
      have BUn := BUt.below Mn.bel
      have BAn := BAt.below Mn.bel
      have BBn := BBt.below Mn.bel
      have BEn := BEt.below Mn.bel
      have Xn := Xt.below Mn.bel
      have Pn := Pt.below Mn.bel
      have Mk : Cm w wn1 p1 (.hd (rqS u b') false false) := Mn.cm it.bel.size okh1
      have npq : p0 ≠ p1 := (by have := Pt.lt; have := Mn.new; omega)
      have xz : wn1.cell? ⟨xb, 1, none⟩ = some (.pointer none) := Xn.cell 1
      have xzf := Xn.free 1
      clear Mn
      refine hK.out _ _ ⟨BUn.cell 0, BUn.cell 1, BBn.cell 0, BBn.cell 1, BEn.cell 0, BEn.cell 1, BEn.cell 2⟩ (fun hHeld => ?_)
      clear hK K
      try simp only [Act.put, List.setIfInBounds_toArray, List.set_cons_zero, List.set_cons_succ]
      refine takeH (i := 6) 89 (.pointer (some ⟨xb, 1, none⟩)) rfl rfl (by kernel_rfl) (by kernel_rfl) (by kernel_rfl) (fun _ _ _ h => h) (by rfl) ?_ (by assumption) ?_
      · intro w hSw; (try dsimp only at hSw); go_simp
      simp only [List.setIfInBounds_toArray, List.set_cons_zero, List.set_cons_succ]
      have X13 : Blk w (wn1.setCell ⟨xb, 1, none⟩ (pt p1)) xb 83 #[pt p0, pt p1] := Xn.set 1 (pt p1)
      have i13 := in_.set Xn 1 (pt p1)
      have oX : Oth [xb] wn1 (wn1.setCell ⟨xb, 1, none⟩ (pt p1)) := Oth.set _ _ _ _ (by simp)
      obtain ⟨vk, Bk⟩ := Mk.blk
      have Q13 := Mk.oth1 oX Xn (by decide) (Bk.ne Xn (by decide))
      obtain ⟨vj, Bj⟩ := Pn.blk
      have P13 := Pn.oth1 oX Xn (by decide) (Bj.ne Xn (by decide))
      have BU13 := BUn.oth oX (by simpa using BUn.ne Xn (by decide))
      have BA13 := BAn.oth oX (by simpa using BAn.ne Xn (by decide))
      have BB13 := BBn.oth oX (by simpa using BBn.ne Xn (by decide))
      have BE13 := BEn.oth oX (by simpa using BEn.ne Xn (by decide))
      refine wpAnyH_ready (rs := [7]) (by kernel_rfl) (by simp) ?_
      refine AllReadyH.cons rfl (fun K hK => ?_) AllReadyH.nil
      go_simp
      refine hK.out _ _ ⟨BU13.cell 0, BU13.cell 1, BB13.cell 0, BB13.cell 1, BE13.cell 0, BE13.cell 1, BE13.cell 2⟩ (fun hHeld => ?_)
      clear hK K
      try simp only [Act.put, List.setIfInBounds_toArray, List.set_cons_zero, List.set_cons_succ]
      refine wpAnyH_done (by kernel_rfl) ?_ _
      refine NoPanic.normal ?_
      clear xz xzf oX Bk hbd hbt id BUd BAd BBd BEd Xd Pd it BUt BAt BBt BEt Xt Pt in_ BUn BAn BBn BEn Xn Pn Mk Bj
      generalize wn1.setCell ⟨xb, 1, none⟩ (pt p1) = w13 at X13 i13 P13 BU13 BA13 BB13 BE13 Q13 hHeld ⊢
      have X4 := X13
      have i5 := i13
      have P3 := P13
      have Q1 := Q13
      clear X13 i13 P13 Q13
      have xc0 : w13.cell? ⟨xb, 0, none⟩ = some (pt p0) := X4.cell 0
      have xc1 : w13.cell? ⟨xb, 1, none⟩ = some (pt p1) := X4.cell 1
      have xl := X4.lt
      have a14 : Below w13.heap.size w13 (w13.alloc (.cells #[.int .i64 0, .int .u64 0] 72)) := (Below.refl _ _).alloc (Nat.le_refl _) _
      have i6 := i5.below a14
      have P4 := P3.below a14
      have Q2 := Q1.below a14
      have X5 := X4.below a14
      have BA14 := BA13.below a14
      have BB14 := BB13.below a14
      have C14 : Blk w (w13.alloc (.cells #[.int .i64 0, .int .u64 0] 72)) w13.heap.size 72 #[.int .i64 0, .int .u64 0] := Blk.new i5.bel.size _ (by decide)
      have G0 : SG u a b' uw (.hd (rqS u a) false false) (.hd (rqS u b') false false) ⟨0, 0⟩ S 12 12 := ⟨okm, old, fun _ => 0, O0, .inl ⟨hcu, .inl ⟨rfl, rfl⟩, .inl ⟨rfl, rfl⟩⟩⟩
      go_wp2_with (fail)
      obtain ⟨qm, hq⟩ : ∃ q, w13.heap.size = q := ⟨_, rfl⟩
      rw [hq] at C14 ⊢
      generalize w13.alloc (.cells #[.int .i64 0, .int .u64 0] 72) = w14 at i6 P4 Q2 X5 BA14 BB14 C14 ⊢
      clear a14 hq xc0 xc1 xl X9 X11 X4 BU9 BU11 BU13 BA9 BA11 BA13 BB9 BB11 BB13 BE9 BE11 BE13 i9 i11 i5 P11 P3 Q1 BAe4 BUe4 BBe4 he4
      go_loopw [18] (fun i wr => ∃ j : Nat, j ≤ 180 ∧ i = .int .i64 j ∧ ∃ x0 x1 m s r0 r1, Two w wr b y s S (20 + j) ∧ Cm w wr p0 x0 ∧ Cm w wr p1 x1 ∧ SG u a b' uw x0 x1 m s r0 r1 ∧ (90 ≤ j → Jq 0 r0 j ∧ Jq 1 r1 j) ∧ Blk w wr xb 83 #[pt p0, pt p1] ∧ Blk w wr ab 38 #[.int .i64 a.k, .int .i64 a.n] ∧ Blk w wr bb 38 #[.int .i64 b'.k, .int .i64 b'.n] ∧ Blk w wr qm 72 m.cells) (fun i _ => 180 - (intOf i).toNat)
      case atStart => exact ⟨0, Nat.zero_le _, rfl, _, _, ⟨0, 0⟩, S, 12, 12, i6, P4, Q2, G0, fun h => by omega, X5, BA14, BB14, C14⟩
      case round =>
        obtain ⟨j, hj, rfl, x0, x1, m, s, r0, r1, k1, k2, k3, GG, hJ, k5, k6, k7, k8⟩ := hrel
        by_cases hj8 : j < 180
        case pos =>
          have hji : (j : Int) < 180 := by omega
          have xc0 : wr.cell? ⟨xb, 0, none⟩ = some (pt p0) := k5.cell 0
          have xc1 : wr.cell? ⟨xb, 1, none⟩ = some (pt p1) := k5.cell 1
          have xl := k5.lt
          obtain ⟨vp, Bp⟩ := k2.blk
          obtain ⟨vq, Bq⟩ := k3.blk
          by_cases hA : j < lp
          · by_cases hB : j < 90
            · have ci1 := ci.on k1.bel
              obtain ⟨vb, off, rfl, hvb, hz⟩ : ∃ b off, ap = some ⟨b, off, none⟩ ∧ b < wr.heap.size ∧ ∀ j, j < lp → wr.cell? ⟨b, off + j, none⟩ = some (.int .i64 (zp j)) ∧ -9223372036854775808 ≤ zp j ∧ zp j ≤ 9223372036854775807 := ci1.resolve_left (by omega)
              obtain ⟨dz, z0, z1⟩ := hz j hA
              obtain ⟨zj, hzj⟩ : ∃ zj, zp j = zj := ⟨_, rfl⟩
              rw [hzj] at dz z0 z1
              clear hz hzj ci1
              have hAi : (j : Int) < (lp : Int) := by omega
              have hBi : (j : Int) < 90 := by omega
              have kk := kd_lt zj 3 (by decide)
              obtain ⟨kz, hkz⟩ : ∃ kz, kd zj 3 = kz := ⟨_, rfl⟩
              rw [hkz] at kk
              rcases (show kz = 0 ∨ kz = 1 ∨ kz = 2 by omega) with rfl | rfl | rfl
              · obtain ⟨r0', r1', hr0, hr1, G'⟩ := GG.step0 hz72 hu1 G GA GB na9.out nb9.out na'.out nb'.out
                have JJ : 90 ≤ j + 1 → Jq 0 r0' (j + 1) ∧ Jq 1 r1' (j + 1) := fun h => by
                  rcases Nat.lt_or_ge j 90 with h90 | h90
                  · obtain rfl : j = 89 := by omega
                    exact ⟨Jq.start (G'.le).1 (by omega), Jq.start (G'.le).2 (by omega)⟩
                  · have hm' := (show j % 3 = 0 by omega)
                    exact ⟨(hJ h90).1.own (by omega) hr0, (hJ h90).2.other (by omega) (by omega) hr1⟩
                go_wp2_with (first
                  | (go_at_call 18; refine (tC k1 k2 (by omega)).mono ?_; rintro e w20 ⟨rfl, t1, t2, o20⟩; have t3 := k3.oth1 o20 Bp (by decide) (Ne.symm npq); have t5 := k5.oth o20 (by simpa using k5.ne Bp (by decide)); have t6 := k6.oth o20 (by simpa using k6.ne Bp (by decide)); have t7 := k7.oth o20 (by simpa using k7.ne Bp (by decide)); have t8 := k8.oth o20 (by simpa using k8.ne Bp (by decide)))
                  | (go_at_call 9; refine (cKind _ zj 3 z0 z1 (by decide)).mono ?_; rintro e wk ⟨rfl, hwk⟩; rw [hwk, hkz]; clear hwk wk))
                go_roundw
                case rel => exact ⟨j + 1, by omega, by go_num, _, _, _, _, r0', r1', t1, t2, t3, G', JJ, t5, t6, t7, t8⟩
                case measure => simp [intOf]; omega
              · obtain ⟨r1', r0', hr1, hr0, G'⟩ := GG.flip.step0 hz72 hu1 G GB GA nb9.out na9.out nb'.out na'.out
                have JJ : 90 ≤ j + 1 → Jq 0 r0' (j + 1) ∧ Jq 1 r1' (j + 1) := fun h => by
                  rcases Nat.lt_or_ge j 90 with h90 | h90
                  · obtain rfl : j = 89 := by omega
                    exact ⟨Jq.start (G'.flip.le).1 (by omega), Jq.start (G'.flip.le).2 (by omega)⟩
                  · have hm' := (show j % 3 = 1 by omega)
                    exact ⟨(hJ h90).1.other (by omega) (by omega) hr0, (hJ h90).2.own (by omega) hr1⟩
                go_wp2_with (first
                  | (go_at_call 18; refine (tC k1 k3 (by omega)).mono ?_; rintro e w20 ⟨rfl, t1, t2, o20⟩; have t3 := k2.oth1 o20 Bq (by decide) npq; have t5 := k5.oth o20 (by simpa using k5.ne Bq (by decide)); have t6 := k6.oth o20 (by simpa using k6.ne Bq (by decide)); have t7 := k7.oth o20 (by simpa using k7.ne Bq (by decide)); have t8 := k8.oth o20 (by simpa using k8.ne Bq (by decide)))
                  | (go_at_call 9; refine (cKind _ zj 3 z0 z1 (by decide)).mono ?_; rintro e wk ⟨rfl, hwk⟩; rw [hwk, hkz]; clear hwk wk))
                go_roundw
                case rel => exact ⟨j + 1, by omega, by go_num, _, _, _, _, r0', r1', t1, t3, t2, G'.flip, JJ, t5, t6, t7, t8⟩
                case measure => simp [intOf]; omega
              · obtain ⟨r0', r1', hr0, hr1, G'⟩ : ∃ t0 t1, t0 ≤ r0 ∧ t1 ≤ r1 ∧ SG u a b' uw x0 x1 (m.next s) (m.mem s) t0 t1 := ⟨r0, r1, Nat.le_refl _, Nat.le_refl _, GG.mo k1.rng1⟩
                have JJ : 90 ≤ j + 1 → Jq 0 r0' (j + 1) ∧ Jq 1 r1' (j + 1) := fun h => by
                  rcases Nat.lt_or_ge j 90 with h90 | h90
                  · obtain rfl : j = 89 := by omega
                    exact ⟨Jq.start (G'.le).1 (by omega), Jq.start (G'.le).2 (by omega)⟩
                  · have hm' := (show j % 3 = 2 by omega)
                    exact ⟨(hJ h90).1.other (by omega) (by omega) hr0, (hJ h90).2.other (by omega) (by omega) hr1⟩
                go_wp2_with (first
                  | (go_at_call 26; refine (tMv k1 k8 GG.ok (by omega)).mono ?_; rintro e w20 ⟨⟨dd, rfl⟩, t1, t2, o20⟩; have u2 := k2.oth1 o20 k8 (by decide) (Bp.ne k8 (by decide)); have u3 := k3.oth1 o20 k8 (by decide) (Bq.ne k8 (by decide)); have t5 := k5.oth o20 (by simpa using k5.ne k8 (by decide)); have t6 := k6.oth o20 (by simpa using k6.ne k8 (by decide)); have t7 := k7.oth o20 (by simpa using k7.ne k8 (by decide)))
                  | (go_at_call 9; refine (cKind _ zj 3 z0 z1 (by decide)).mono ?_; rintro e wk ⟨rfl, hwk⟩; rw [hwk, hkz]; clear hwk wk))
                go_roundw
                case rel => exact ⟨j + 1, by omega, by go_num, _, _, _, _, r0', r1', t1, u2, u3, G', JJ, t5, t6, t7, t2⟩
                case measure => simp [intOf]; omega
            · have hAi : (j : Int) < (lp : Int) := by omega
              have hBi : ¬ (j : Int) < 90 := by omega
              rcases (show j % 3 = 0 ∨ j % 3 = 1 ∨ j % 3 = 2 by omega) with hm | hm | hm
              · have hmi : (j : Int) % 3 = 0 := by omega
                obtain ⟨r0', r1', hr0, hr1, G'⟩ := GG.step0 hz72 hu1 G GA GB na9.out nb9.out na'.out nb'.out
                have JJ : 90 ≤ j + 1 → Jq 0 r0' (j + 1) ∧ Jq 1 r1' (j + 1) := fun h => by
                  rcases Nat.lt_or_ge j 90 with h90 | h90
                  · obtain rfl : j = 89 := by omega
                    exact ⟨Jq.start (G'.le).1 (by omega), Jq.start (G'.le).2 (by omega)⟩
                  · have hm' := hm
                    exact ⟨(hJ h90).1.own (by omega) hr0, (hJ h90).2.other (by omega) (by omega) hr1⟩
                go_wp2_with (first
                  | (go_at_call 18; refine (tC k1 k2 (by omega)).mono ?_; rintro e w20 ⟨rfl, t1, t2, o20⟩; have t3 := k3.oth1 o20 Bp (by decide) (Ne.symm npq); have t5 := k5.oth o20 (by simpa using k5.ne Bp (by decide)); have t6 := k6.oth o20 (by simpa using k6.ne Bp (by decide)); have t7 := k7.oth o20 (by simpa using k7.ne Bp (by decide)); have t8 := k8.oth o20 (by simpa using k8.ne Bp (by decide))))
                go_roundw
                case rel => exact ⟨j + 1, by omega, by go_num, _, _, _, _, r0', r1', t1, t2, t3, G', JJ, t5, t6, t7, t8⟩
                case measure => simp [intOf]; omega
              · have hmi : (j : Int) % 3 = 1 := by omega
                obtain ⟨r1', r0', hr1, hr0, G'⟩ := GG.flip.step0 hz72 hu1 G GB GA nb9.out na9.out nb'.out na'.out
                have JJ : 90 ≤ j + 1 → Jq 0 r0' (j + 1) ∧ Jq 1 r1' (j + 1) := fun h => by
                  rcases Nat.lt_or_ge j 90 with h90 | h90
                  · obtain rfl : j = 89 := by omega
                    exact ⟨Jq.start (G'.flip.le).1 (by omega), Jq.start (G'.flip.le).2 (by omega)⟩
                  · have hm' := hm
                    exact ⟨(hJ h90).1.other (by omega) (by omega) hr0, (hJ h90).2.own (by omega) hr1⟩
                go_wp2_with (first
                  | (go_at_call 18; refine (tC k1 k3 (by omega)).mono ?_; rintro e w20 ⟨rfl, t1, t2, o20⟩; have t3 := k2.oth1 o20 Bq (by decide) npq; have t5 := k5.oth o20 (by simpa using k5.ne Bq (by decide)); have t6 := k6.oth o20 (by simpa using k6.ne Bq (by decide)); have t7 := k7.oth o20 (by simpa using k7.ne Bq (by decide)); have t8 := k8.oth o20 (by simpa using k8.ne Bq (by decide))))
                go_roundw
                case rel => exact ⟨j + 1, by omega, by go_num, _, _, _, _, r0', r1', t1, t3, t2, G'.flip, JJ, t5, t6, t7, t8⟩
                case measure => simp [intOf]; omega
              · have hmi : (j : Int) % 3 = 2 := by omega
                obtain ⟨r0', r1', hr0, hr1, G'⟩ : ∃ t0 t1, t0 ≤ r0 ∧ t1 ≤ r1 ∧ SG u a b' uw x0 x1 (m.next s) (m.mem s) t0 t1 := ⟨r0, r1, Nat.le_refl _, Nat.le_refl _, GG.mo k1.rng1⟩
                have JJ : 90 ≤ j + 1 → Jq 0 r0' (j + 1) ∧ Jq 1 r1' (j + 1) := fun h => by
                  rcases Nat.lt_or_ge j 90 with h90 | h90
                  · obtain rfl : j = 89 := by omega
                    exact ⟨Jq.start (G'.le).1 (by omega), Jq.start (G'.le).2 (by omega)⟩
                  · have hm' := hm
                    exact ⟨(hJ h90).1.other (by omega) (by omega) hr0, (hJ h90).2.other (by omega) (by omega) hr1⟩
                go_wp2_with (first
                  | (go_at_call 26; refine (tMv k1 k8 GG.ok (by omega)).mono ?_; rintro e w20 ⟨⟨dd, rfl⟩, t1, t2, o20⟩; have u2 := k2.oth1 o20 k8 (by decide) (Bp.ne k8 (by decide)); have u3 := k3.oth1 o20 k8 (by decide) (Bq.ne k8 (by decide)); have t5 := k5.oth o20 (by simpa using k5.ne k8 (by decide)); have t6 := k6.oth o20 (by simpa using k6.ne k8 (by decide)); have t7 := k7.oth o20 (by simpa using k7.ne k8 (by decide))))
                go_roundw
                case rel => exact ⟨j + 1, by omega, by go_num, _, _, _, _, r0', r1', t1, u2, u3, G', JJ, t5, t6, t7, t2⟩
                case measure => simp [intOf]; omega
          · have hAi : ¬ (j : Int) < (lp : Int) := by omega
            rcases (show j % 3 = 0 ∨ j % 3 = 1 ∨ j % 3 = 2 by omega) with hm | hm | hm
            · have hmi : (j : Int) % 3 = 0 := by omega
              obtain ⟨r0', r1', hr0, hr1, G'⟩ := GG.step0 hz72 hu1 G GA GB na9.out nb9.out na'.out nb'.out
              have JJ : 90 ≤ j + 1 → Jq 0 r0' (j + 1) ∧ Jq 1 r1' (j + 1) := fun h => by
                rcases Nat.lt_or_ge j 90 with h90 | h90
                · obtain rfl : j = 89 := by omega
                  exact ⟨Jq.start (G'.le).1 (by omega), Jq.start (G'.le).2 (by omega)⟩
                · have hm' := hm
                  exact ⟨(hJ h90).1.own (by omega) hr0, (hJ h90).2.other (by omega) (by omega) hr1⟩
              go_wp2_with (first
                | (go_at_call 18; refine (tC k1 k2 (by omega)).mono ?_; rintro e w20 ⟨rfl, t1, t2, o20⟩; have t3 := k3.oth1 o20 Bp (by decide) (Ne.symm npq); have t5 := k5.oth o20 (by simpa using k5.ne Bp (by decide)); have t6 := k6.oth o20 (by simpa using k6.ne Bp (by decide)); have t7 := k7.oth o20 (by simpa using k7.ne Bp (by decide)); have t8 := k8.oth o20 (by simpa using k8.ne Bp (by decide))))
              go_roundw
              case rel => exact ⟨j + 1, by omega, by go_num, _, _, _, _, r0', r1', t1, t2, t3, G', JJ, t5, t6, t7, t8⟩
              case measure => simp [intOf]; omega
            · have hmi : (j : Int) % 3 = 1 := by omega
              obtain ⟨r1', r0', hr1, hr0, G'⟩ := GG.flip.step0 hz72 hu1 G GB GA nb9.out na9.out nb'.out na'.out
              have JJ : 90 ≤ j + 1 → Jq 0 r0' (j + 1) ∧ Jq 1 r1' (j + 1) := fun h => by
                rcases Nat.lt_or_ge j 90 with h90 | h90
                · obtain rfl : j = 89 := by omega
                  exact ⟨Jq.start (G'.flip.le).1 (by omega), Jq.start (G'.flip.le).2 (by omega)⟩
                · have hm' := hm
                  exact ⟨(hJ h90).1.other (by omega) (by omega) hr0, (hJ h90).2.own (by omega) hr1⟩
              go_wp2_with (first
                | (go_at_call 18; refine (tC k1 k3 (by omega)).mono ?_; rintro e w20 ⟨rfl, t1, t2, o20⟩; have t3 := k2.oth1 o20 Bq (by decide) npq; have t5 := k5.oth o20 (by simpa using k5.ne Bq (by decide)); have t6 := k6.oth o20 (by simpa using k6.ne Bq (by decide)); have t7 := k7.oth o20 (by simpa using k7.ne Bq (by decide)); have t8 := k8.oth o20 (by simpa using k8.ne Bq (by decide))))
              go_roundw
              case rel => exact ⟨j + 1, by omega, by go_num, _, _, _, _, r0', r1', t1, t3, t2, G'.flip, JJ, t5, t6, t7, t8⟩
              case measure => simp [intOf]; omega
            · have hmi : (j : Int) % 3 = 2 := by omega
              obtain ⟨r0', r1', hr0, hr1, G'⟩ : ∃ t0 t1, t0 ≤ r0 ∧ t1 ≤ r1 ∧ SG u a b' uw x0 x1 (m.next s) (m.mem s) t0 t1 := ⟨r0, r1, Nat.le_refl _, Nat.le_refl _, GG.mo k1.rng1⟩
              have JJ : 90 ≤ j + 1 → Jq 0 r0' (j + 1) ∧ Jq 1 r1' (j + 1) := fun h => by
                rcases Nat.lt_or_ge j 90 with h90 | h90
                · obtain rfl : j = 89 := by omega
                  exact ⟨Jq.start (G'.le).1 (by omega), Jq.start (G'.le).2 (by omega)⟩
                · have hm' := hm
                  exact ⟨(hJ h90).1.other (by omega) (by omega) hr0, (hJ h90).2.other (by omega) (by omega) hr1⟩
              go_wp2_with (first
                | (go_at_call 26; refine (tMv k1 k8 GG.ok (by omega)).mono ?_; rintro e w20 ⟨⟨dd, rfl⟩, t1, t2, o20⟩; have u2 := k2.oth1 o20 k8 (by decide) (Bp.ne k8 (by decide)); have u3 := k3.oth1 o20 k8 (by decide) (Bq.ne k8 (by decide)); have t5 := k5.oth o20 (by simpa using k5.ne k8 (by decide)); have t6 := k6.oth o20 (by simpa using k6.ne k8 (by decide)); have t7 := k7.oth o20 (by simpa using k7.ne k8 (by decide))))
              go_roundw
              case rel => exact ⟨j + 1, by omega, by go_num, _, _, _, _, r0', r1', t1, u2, u3, G', JJ, t5, t6, t7, t2⟩
              case measure => simp [intOf]; omega
        case neg =>
          obtain rfl : j = 180 := by omega
          have xc0 : wr.cell? ⟨xb, 0, none⟩ = some (pt p0) := k5.cell 0
          obtain ⟨J0, J1⟩ := hJ (by omega)
          obtain rfl : r0 = 0 := by unfold Jq at J0; omega
          obtain rfl : r1 = 0 := by unfold Jq at J1; omega
          obtain ⟨gg, A3, F0⟩ := GG.fin
          go_upto_region 29 with (go_at_call 21; refine (cCResult k2).mono ?_; rintro e w21 ⟨rfl, hb21⟩; unfold Ou.val; have l1 := k1.below hb21; have l3 := k3.below hb21; have l5 := k5.below hb21; have l6 := k6.below hb21; have l7 := k7.below hb21; clear hb21)
          have OAb : Below w21.heap.size w21 (w21.alloc (.cells #[.int .i64 x0.o.c, .int .i64 x0.o.v.k, .int .i64 x0.o.v.n, .bool x0.o.y] 63)) := (Below.refl _ _).alloc (Nat.le_refl _) _
          have OA : Blk w (w21.alloc (.cells #[.int .i64 x0.o.c, .int .i64 x0.o.v.k, .int .i64 x0.o.v.n, .bool x0.o.y] 63)) w21.heap.size 63 #[.int .i64 x0.o.c, .int .i64 x0.o.v.k, .int .i64 x0.o.v.n, .bool x0.o.y] := Blk.new l1.bel.size _ (by decide)
          have m1 := l1.below OAb
          have m3 := l3.below OAb
          have m5 := l5.below OAb
          have m6 := l6.below OAb
          have m7 := l7.below OAb
          generalize w21.alloc (.cells #[.int .i64 x0.o.c, .int .i64 x0.o.v.k, .int .i64 x0.o.v.n, .bool x0.o.y] 63) = w22 at OA m1 m3 m5 m6 m7 ⊢
          generalize w21.heap.size = ob at OA ⊢
          clear OAb
          have xc1 : w22.cell? ⟨xb, 1, none⟩ = some (pt p1) := m5.cell 1
          go_upto_region 30 with (go_at_call 21; refine (cCResult m3).mono ?_; rintro e w23 ⟨rfl, hb23⟩; unfold Ou.val; have n1 := m1.below hb23; have n6 := m6.below hb23; have n7 := m7.below hb23; have nO := OA.below hb23; clear hb23)
          have OBb : Below w23.heap.size w23 (w23.alloc (.cells #[.int .i64 x1.o.c, .int .i64 x1.o.v.k, .int .i64 x1.o.v.n, .bool x1.o.y] 63)) := (Below.refl _ _).alloc (Nat.le_refl _) _
          have OB : Blk w (w23.alloc (.cells #[.int .i64 x1.o.c, .int .i64 x1.o.v.k, .int .i64 x1.o.v.n, .bool x1.o.y] 63)) w23.heap.size 63 #[.int .i64 x1.o.c, .int .i64 x1.o.v.k, .int .i64 x1.o.v.n, .bool x1.o.y] := Blk.new n1.bel.size _ (by decide)
          have r1 := n1.below OBb
          have r6 := n6.below OBb
          have r7 := n7.below OBb
          have rO := nO.below OBb
          generalize w23.alloc (.cells #[.int .i64 x1.o.c, .int .i64 x1.o.v.k, .int .i64 x1.o.v.n, .bool x1.o.y] 63) = w24 at OB r1 r6 r7 rO ⊢
          generalize w23.heap.size = oc at OB ⊢
          clear OBb
          obtain ⟨nv, hnv⟩ : ∃ nv, Vl.of (gg 0) = nv := ⟨_, rfl⟩
          go_upto_region 31 with (go_at_call 28; refine (cNow (k := 0) r1 A3 (by omega) (by omega)).mono ?_; rintro e w25 ⟨rfl, s', H25, A25, o25⟩; rw [hnv]; have s6 := r6.oth o25 (by simp); have s7 := r7.oth o25 (by simp); have sO := rO.oth o25 (by simp); have sP := OB.oth o25 (by simp); clear o25)
          have BNb : Below w25.heap.size w25 (w25.alloc (.cells #[.int .i64 nv.k, .int .i64 nv.n] 38)) := (Below.refl _ _).alloc (Nat.le_refl _) _
          have BN : Blk w (w25.alloc (.cells #[.int .i64 nv.k, .int .i64 nv.n] 38)) w25.heap.size 38 #[.int .i64 nv.k, .int .i64 nv.n] := Blk.new H25.bel.size _ (by decide)
          have H27 := H25.below BNb
          have y6 := s6.below BNb
          have y7 := s7.below BNb
          have yO := sO.below BNb
          have yP := sP.below BNb
          generalize w25.alloc (.cells #[.int .i64 nv.k, .int .i64 nv.n] 38) = w27 at BN H27 y6 y7 yO yP ⊢
          generalize w25.heap.size = nb2 at BN ⊢
          clear BNb
          have d0 : w27.cell? ⟨ob, 3, none⟩ = some (.bool x0.o.y) := yO.cell 3
          have d1 : w27.cell? ⟨oc, 3, none⟩ = some (.bool x1.o.y) := yP.cell 3
          have f0 : w27.cell? ⟨nb2, 0, none⟩ = some (.int .i64 nv.k) := BN.cell 0
          have f1 : w27.cell? ⟨nb2, 1, none⟩ = some (.int .i64 nv.n) := BN.cell 1
          have fl := BN.lt
          have ga0 : w27.cell? ⟨ab, 0, none⟩ = some (.int .i64 a.k) := y6.cell 0
          have ga1 : w27.cell? ⟨ab, 1, none⟩ = some (.int .i64 a.n) := y6.cell 1
          have gal := y6.lt
          have hb0 : w27.cell? ⟨bb, 0, none⟩ = some (.int .i64 b'.k) := y7.cell 0
          have hb1 : w27.cell? ⟨bb, 1, none⟩ = some (.int .i64 b'.n) := y7.cell 1
          have hbl := y7.lt
          rcases F0 with ⟨F1, F2, F3⟩ | ⟨F1, F2, F3⟩
          · rw [F1] at d0
            rw [F2] at d1
            have hna : nv = a := by rw [← hnv, F3, GA.of]
            have e1 := eqVal_t hna
            have b1 := bneT
            clear hna F1 F2 F3
            go_wp2
            go_ret
            exact ⟨rfl, H27.bel⟩
          · rw [F1] at d0
            rw [F2] at d1
            have hna : nv = b' := by rw [← hnv, F3, GB.of]
            have e1 := eqVal_t hna
            have b1 := bneF
            clear hna F1 F2 F3
            go_wp2
            go_ret
            exact ⟨rfl, H27.bel⟩
end Go.Proofs.YtmlgohknbjfciaaGreatDoor
