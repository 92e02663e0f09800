/-
  The walk of the law on a field that is elsewhere.
-/
import Derived.Test.YtmlgohknbjfciaaDoorCk
import Derived.Test.YtmlgohknbjfciaaDoorCg
import Derived.Test.YtmlgohknbjfciaaDoorCu
import Derived.Test.YtmlgohknbjfciaaDoorCq
namespace Go.Proofs.YtmlgohknbjfciaaDoor
set_option linter.unusedVariables false
set_option linter.unusedSimpArgs false
set_option maxRecDepth 100000
open Go.ChangeShapes Go.WideShapes Go.RowKit
open H.Plain (hw pS pC pN pM pG pT pL mv)

theorem cSent (w : World) : Calls Tryd.prog 20 #[] w fun e w' => e = .returned (.int .u64 72) ∧ Below w.heap.size w w' := by
  have h72 : F.Plain.word 0 9 = 72 := by decide
  go_enter Tryd.func20, Tryd.ntmps20
  go_wp2_with (go_at_call 19; refine (F.rWord 0 9 _).mono ?_; rintro e w1 ⟨rfl, m1, hw1⟩; rw [h72]; have hb1 : Below w.heap.size w w1 := (by rw [hw1]; exact F.bdr ((Below.refl _ _).alloc (Nat.le_refl _) _) _); clear hw1)
  go_ret
  exact ⟨rfl, hb1⟩
theorem outv {o : Ou} {t y : Bool} (hc : (Cw.fin t o).o.c = 0) (hy : (Cw.fin t o).o.y = y) : (Cw.fin t o).o.val = .agg #[.int .i64 0, .int .i64 (Cw.fin t o).o.v.k, .int .i64 (Cw.fin t o).o.v.n, .bool y] := by
  unfold Ou.val
  rw [hc, hy]
set_option maxHeartbeats 8000000 in
theorem wElse1 (c1 : Vl) (q : Op15) (w : World) (W : H.Wid w) (fc : c1.Fit) (fit : q.Fit) (hop : (reqP q).op = 1) :
    Calls Tryd.prog 4 #[.agg #[.int .i64 c1.k, .int .i64 c1.n], .agg q.cells] w fun e w' => e = .returned (.bool true) ∧ Below w.heap.size w w' := by
  obtain ⟨S, hS⟩ : ∃ S, laidS 4 2 (fldP 3 (fun _ => ⟨0, 9⟩)) = S := ⟨_, rfl⟩
  have hSl : S.ws.length = 160 := by rw [← hS]; exact laid_len _ _ _
  have M0 := laid_m6 4 2 (fldP 3 (fun _ => ⟨0, 9⟩))
  rw [hS] at M0
  obtain ⟨old, hold'⟩ : ∃ old : Nat → Int, (fun k => (fldP 3 (fun _ => ⟨0, 9⟩) k).w) = old := ⟨_, rfl⟩
  rw [hold'] at M0
  have h72 : ∀ k, k < 3 → old k = 72 := fun k hk => by rw [← hold']; simp only [fldP, if_pos hk]; decide
  have kf := kd_lt q.fd 3 (by decide)
  obtain ⟨f, hf⟩ : ∃ f : Nat, kd q.fd 3 = (f : Int) := ⟨(kd q.fd 3).toNat, by omega⟩
  rw [hf] at kf
  have hf3 : f < 3 := by omega
  have km := kd_lt q.md 3 (by decide)
  obtain ⟨mk, hmk⟩ : ∃ m, kd q.md 3 = m := ⟨_, rfl⟩
  rw [hmk] at km
  obtain ⟨md, hmd⟩ : ∃ m, 6 + mk = m := ⟨_, rfl⟩
  have imd : IntKind.i64.wrap md = md := by rw [IntKind.wrap_i64]; omega
  have gx := good_valP q.x
  have gy := good_valP q.y
  have gu := good_valP c1
  obtain ⟨vx, hvx⟩ : ∃ v, valP q.x = v := ⟨_, rfl⟩
  obtain ⟨vy, hvy⟩ : ∃ v, valP q.y = v := ⟨_, rfl⟩
  obtain ⟨u, hu⟩ : ∃ v, valP c1 = v := ⟨_, rfl⟩
  rw [hvx] at gx
  rw [hvy] at gy
  rw [hu] at gu
  obtain ⟨at0, hat0⟩ : ∃ a, (reqP q).at_ = a := ⟨_, rfl⟩
  obtain ⟨f0, hf0⟩ : ∃ a, (reqP q).fd = a := ⟨_, rfl⟩
  have hrq : (reqP q).cells = #[.int .i64 1, .int .i64 at0, .int .i64 f0, .int .i64 vx.k, .int .i64 vx.n, .int .i64 vy.k, .int .i64 vy.n] := by
    unfold Rq.cells
    rw [hop, hat0, hf0, show (reqP q).x = vx from hvx, show (reqP q).y = vy from hvy]
  obtain ⟨fx, hfx⟩ : ∃ b, (md == 8) = b := ⟨_, rfl⟩
  obtain ⟨sh, hsh⟩ : ∃ b, decide (7 ≤ md) = b := ⟨_, rfl⟩
  have hnew : Cw.new (Rq.mk 1 96 f vx vy) ⟨md, 0, 9⟩ = (Cw.hd (Rq.mk 1 96 f vx vy) sh fx) := by
    unfold Cw.new
    rw [if_neg (by simp), if_neg (by simp only; omega), hfx, hsh]
  have opo : (1 : Int) = 1 ∨ (1 : Int) = 2 ∨ (1 : Int) = 3 := by decide
  have okR : (Rq.mk 1 96 f vx vy).Ok := ⟨opo, by simp, by simp, by simp, by simp only; omega, .inr (by simp)⟩
  have ok0 : (Cw.hd (Rq.mk 1 96 f vx vy) sh fx).Ok := ⟨opo, by simp, by simp, by simp, by simp only; omega⟩
  have M1 := M0.storeC hf3 u.w
  obtain ⟨S1, hS1⟩ : ∃ s, S.store (113 + (f : Int)) u.w = s := ⟨_, rfl⟩
  rw [hS1] at M1
  obtain ⟨d, x', s', c', hd6, E, M', hwant, hC, hY⟩ := else_ends (r := (Rq.mk 1 96 f vx vy)) (u := u) M1 hf3 rfl rfl opo (h72 f hf3) gu gx (by simp [updN]) sh fx
  have hwant' : c' f = u.w := hwant.trans (if_neg (by simp))
  have hyes : x'.o.y = false := hY.trans (decide_eq_false (by simp))
  clear hwant hY
  obtain ⟨hit', o', rfl⟩ := done_fin E.done
  have a0 : Below w.heap.size w ((w.alloc (.cells #[.int .i64 c1.k, .int .i64 c1.n] 24)).alloc (.cells q.cells 28)) := by go_grown
  have V0 : Blk w (w.alloc (.cells #[.int .i64 c1.k, .int .i64 c1.n] 24)) w.heap.size 24 #[.int .i64 c1.k, .int .i64 c1.n] := Blk.new (Nat.le_refl _) _ (by decide)
  have V1 := V0.below ((Below.refl _ _).alloc (Nat.le_refl _) (.cells q.cells 28))
  have C0 : Blk w ((w.alloc (.cells #[.int .i64 c1.k, .int .i64 c1.n] 24)).alloc (.cells q.cells 28)) (w.heap.size + 1) 28 q.cells := ⟨newAt (by simp), by omega, by decide⟩
  go_enter Tryd.func4, Tryd.ntmps4
  unfold Op15.cells
  go_upto_region 1 with (fail)
  obtain ⟨cb, hcb⟩ : ∃ cb, w.heap.size = cb := ⟨_, rfl⟩
  obtain ⟨ob, hob⟩ : ∃ ob, cb + 1 = ob := ⟨_, rfl⟩
  change Blk w ((w.alloc (.cells #[.int .i64 c1.k, .int .i64 c1.n] 24)).alloc (.cells q.cells 28)) (w.heap.size + 1) 28 q.cells at C0
  rw [hcb] at C0 V1
  rw [hob] at C0
  rw [hcb, hob]
  unfold Op15.cells at C0 a0 V1
  generalize hw0 : (w.alloc _).alloc _ = wa at C0 a0 V1 ⊢
  clear hw0 hob hcb V0
  go_upto_region 2 with (go_at_call 5; refine (cShown _ (W.on a0)).mono ?_; rintro e w1 ⟨rfl, hb1'⟩; have hb1 := bel_trans a0 hb1'; have C1 := C0.below hb1'; have V2 := V1.below hb1'; clear hb1')
  have cvA : CameV (w1.alloc (.cells #[.int .i64 0, .int .i64 9, .int .i64 0, .int .i64 9, .int .i64 0, .int .i64 9] 24)) (some ⟨w1.heap.size, 0, none⟩) 3 (fun _ => ⟨0, 9⟩) := .inr ⟨w1.heap.size, 0, rfl, by simp, fun j hj => by rcases (show j = 0 ∨ j = 1 ∨ j = 2 by omega) with rfl | rfl | rfl <;> exact ⟨by go_cell, by go_cell, ⟨by decide, by decide, by decide, by decide⟩⟩⟩
  have belA : Below w1.heap.size w1 (w1.alloc (.cells #[.int .i64 0, .int .i64 9, .int .i64 0, .int .i64 9, .int .i64 0, .int .i64 9] 24)) := by go_grown
  have bbA := bel_trans hb1 belA
  have C1a := C1.below belA
  have V2a := V2.below belA
  go_upto_region 3 with (go_at_call 7; refine (cLaid (cv' := 3) _ (W.on bbA) cvA (by decide) (by decide) (by decide) (by decide)).mono ?_; rintro e w2 ⟨b, y, rfl, h2⟩; rw [show kd 4 6 = 4 by decide, show kd 2 3 = 2 by decide, hS] at h2; have C2 := C1a.below h2.bel; have V3 := V2a.below h2.bel; have h3 := h2.lift bbA W; clear h2)
  clear cvA belA bbA C1a V2a C1 V2 C0 V1
  have d0 : w2.cell? ⟨ob, 0, none⟩ = some (.int .i64 q.ob) := C2.cell 0
  have d1 : w2.cell? ⟨ob, 1, none⟩ = some (.int .i64 q.fd) := C2.cell 1
  have d2 : w2.cell? ⟨ob, 2, none⟩ = some (.int .i64 q.ac) := C2.cell 2
  have d3 : w2.cell? ⟨ob, 3, none⟩ = some (.int .i64 q.md) := C2.cell 3
  have d4 : w2.cell? ⟨ob, 4, none⟩ = some (.int .i64 q.x.k) := C2.cell 4
  have d5 : w2.cell? ⟨ob, 5, none⟩ = some (.int .i64 q.x.n) := C2.cell 5
  have d6 : w2.cell? ⟨ob, 6, none⟩ = some (.int .i64 q.y.k) := C2.cell 6
  have d7 : w2.cell? ⟨ob, 7, none⟩ = some (.int .i64 q.y.n) := C2.cell 7
  have d8 : w2.cell? ⟨ob, 8, none⟩ = some (.int .i64 q.hS) := C2.cell 8
  have d9 : w2.cell? ⟨ob, 9, none⟩ = some (.int .i64 q.hC) := C2.cell 9
  have d10 : w2.cell? ⟨ob, 10, none⟩ = some (.int .i64 q.hN) := C2.cell 10
  have d11 : w2.cell? ⟨ob, 11, none⟩ = some (.int .i64 q.hM) := C2.cell 11
  have d12 : w2.cell? ⟨ob, 12, none⟩ = some (.int .i64 q.hG) := C2.cell 12
  have d13 : w2.cell? ⟨ob, 13, none⟩ = some (.int .i64 q.hT) := C2.cell 13
  have d14 : w2.cell? ⟨ob, 14, none⟩ = some (.int .i64 q.hL) := C2.cell 14
  have dl := C2.lt
  go_upto_region 5 with (first
    | (go_at_call 8; refine (cKind _ q.fd 3 fit.fd.1 fit.fd.2 (by decide)).mono ?_; rintro e wk ⟨rfl, hwk⟩; rw [hwk, hf]; clear hwk wk)
    | (go_at_call 17; refine (cReq q fit _).mono ?_; rintro e w3 ⟨rfl, hb3⟩; rw [hrq]; have h4 := h3.below hb3; have C3 := C2.below hb3; have V4 := V3.below hb3; clear hb3))
  clear d0 d1 d2 d3 d4 d5 d6 d7 d8 d9 d10 d11 d12 d13 d14 dl
  have Q4b : Below w3.heap.size w3 (w3.alloc (.cells #[.int .i64 1, .int .i64 at0, .int .i64 f0, .int .i64 vx.k, .int .i64 vx.n, .int .i64 vy.k, .int .i64 vy.n] 48)) := (Below.refl _ _).alloc (Nat.le_refl _) _
  have Q4 : Blk w (w3.alloc (.cells #[.int .i64 1, .int .i64 at0, .int .i64 f0, .int .i64 vx.k, .int .i64 vx.n, .int .i64 vy.k, .int .i64 vy.n] 48)) w3.heap.size 48 #[.int .i64 1, .int .i64 at0, .int .i64 f0, .int .i64 vx.k, .int .i64 vx.n, .int .i64 vy.k, .int .i64 vy.n] := Blk.new h4.bel.size _ (by decide)
  have h5 := h4.below Q4b
  have C4 := C3.below Q4b
  have V5 := V4.below Q4b
  generalize w3.alloc (.cells #[.int .i64 1, .int .i64 at0, .int .i64 f0, .int .i64 vx.k, .int .i64 vx.n, .int .i64 vy.k, .int .i64 vy.n] 48) = w4 at Q4 h5 C4 V5 ⊢
  generalize w3.heap.size = rb at Q4 ⊢
  clear Q4b
  have e1 : w4.cell? ⟨rb, 1, none⟩ = some (.int .i64 at0) := Q4.cell 1
  have e2 : w4.cell? ⟨rb, 2, none⟩ = some (.int .i64 f0) := Q4.cell 2
  have ef1 := Q4.free 1
  have ef2 := Q4.free 2
  go_upto_region 7 with (fail)
  have KQ : Kept [rb] w4 ((w4.setCell ⟨rb, 1, none⟩ (.int .i64 96)).setCell ⟨rb, 2, none⟩ (.int .i64 f)) := (Kept.setCell [rb] _ _ _ (by simp)).trans (Kept.setCell [rb] _ _ _ (by simp)) (fun _ h => .inl h)
  have Q5 : Blk w ((w4.setCell ⟨rb, 1, none⟩ (.int .i64 96)).setCell ⟨rb, 2, none⟩ (.int .i64 f)) rb 48 #[.int .i64 1, .int .i64 96, .int .i64 f, .int .i64 vx.k, .int .i64 vx.n, .int .i64 vy.k, .int .i64 vy.n] := (Q4.set 1 _).set 2 _
  have h6 := to_twoB h5 KQ Q4
  have C5 := C4.oth (Oth.kept KQ) (by simpa using C4.ne Q4 (by decide))
  have V6 := V5.oth (Oth.kept KQ) (by simpa using V5.ne Q4 (by decide))
  clear e1 e2 ef1 ef2
  generalize (w4.setCell ⟨rb, 1, none⟩ (.int .i64 96)).setCell ⟨rb, 2, none⟩ (.int .i64 f) = w5 at Q5 h6 C5 V6 ⊢
  clear KQ
  have hbd : Below w5.heap.size w5 w5.drew := (Below.refl _ _).drew
  refine wp_region_noPanic ?_
  refine wp_region_held_drew (S := fun w' => w'.cell? ⟨rb, 0, none⟩ = some (.int .i64 1) ∧ w'.cell? ⟨rb, 1, none⟩ = some (.int .i64 96) ∧ w'.cell? ⟨rb, 2, none⟩ = some (.int .i64 f) ∧ w'.cell? ⟨rb, 3, none⟩ = some (.int .i64 vx.k) ∧ w'.cell? ⟨rb, 4, none⟩ = some (.int .i64 vx.n) ∧ w'.cell? ⟨rb, 5, none⟩ = some (.int .i64 vy.k) ∧ w'.cell? ⟨rb, 6, none⟩ = some (.int .i64 vy.n) ∧ w'.cell? ⟨ob, 3, none⟩ = some (.int .i64 q.md)) (by kernel_rfl) ⟨(Q5.below hbd).cell 0, (Q5.below hbd).cell 1, (Q5.below hbd).cell 2, (Q5.below hbd).cell 3, (Q5.below hbd).cell 4, (Q5.below hbd).cell 5, (Q5.below hbd).cell 6, (C5.below hbd).cell 3⟩ (fun hHeld => ?_)
  refine takeH (i := 1) 34 (.agg #[.int .i64 1, .int .i64 96, .int .i64 f, .int .i64 vx.k, .int .i64 vx.n, .int .i64 vy.k, .int .i64 vy.n]) rfl rfl (by kernel_rfl) (by kernel_rfl) (by kernel_rfl) (fun _ _ _ h => h) (by rfl) ?_ (by assumption) ?_
  · intro w hSw; (try dsimp only at hSw); go_simp
  simp only [List.setIfInBounds_toArray, List.set_cons_zero, List.set_cons_succ]
  refine takeH (i := 2) 35 (.pointer (some ⟨ob, 3, none⟩)) rfl rfl (by kernel_rfl) (by kernel_rfl) (by kernel_rfl) (fun _ _ _ h => h) (by rfl) ?_ (by assumption) ?_
  · intro w hSw; (try dsimp only at hSw); go_simp
  simp only [List.setIfInBounds_toArray, List.set_cons_zero, List.set_cons_succ]
  refine takeH (i := 3) 36 (.int .i64 q.md) rfl rfl (by kernel_rfl) (by kernel_rfl) (by kernel_rfl) (fun _ _ _ h => h) (by rfl) ?_ (by assumption) ?_
  · intro w hSw; (try dsimp only at hSw); go_simp
  simp only [List.setIfInBounds_toArray, List.set_cons_zero, List.set_cons_succ]
  refine wpAnyH_ready (rs := [0]) (by kernel_rfl) (by simp) ?_
  refine AllReadyH.cons rfl (fun K hK => ?_) AllReadyH.nil
  go_simp
  refine (cAt _).mono ?_
  rintro e w5t ⟨rfl, hbt⟩
  have ht := (h6.below hbd).below hbt
  have Qt := (Q5.below hbd).below hbt
  have Ct := (C5.below hbd).below hbt
  have Vt := (V6.below hbd).below hbt
  refine hK.out _ _ ⟨Qt.cell 0, Qt.cell 1, Qt.cell 2, Qt.cell 3, Qt.cell 4, Qt.cell 5, Qt.cell 6, Ct.cell 3⟩ (fun hHeld => ?_)
  clear hK K
  try simp only [Act.put, List.setIfInBounds_toArray, List.set_cons_zero, List.set_cons_succ]
  refine wpAnyH_ready (rs := [4]) (by kernel_rfl) (by simp) ?_
  refine AllReadyH.cons rfl (fun K hK => ?_) AllReadyH.nil
  go_simp
  refine (cKind _ q.md 3 fit.md.1 fit.md.2 (by decide)).mono ?_
  rintro e wk ⟨rfl, hwk⟩
  rw [hwk, hmk]
  clear hwk wk
  refine hK.out _ _ ⟨Qt.cell 0, Qt.cell 1, Qt.cell 2, Qt.cell 3, Qt.cell 4, Qt.cell 5, Qt.cell 6, Ct.cell 3⟩ (fun hHeld => ?_)
  clear hK K
  try simp only [Act.put, List.setIfInBounds_toArray, List.set_cons_zero, List.set_cons_succ]
  refine takeH (i := 5) 38 (.int .i64 md) rfl rfl (by kernel_rfl) (by kernel_rfl) (by kernel_rfl) (fun _ _ _ h => h) (by rfl) ?_ (by assumption) ?_
  · intro w hSw; (try dsimp only at hSw); go_simp
  simp only [List.setIfInBounds_toArray, List.set_cons_zero, List.set_cons_succ]
  refine takeH (i := 6) 39 (.agg #[.int .i64 md, .int .i64 0, .int .i64 9]) rfl rfl (by kernel_rfl) (by kernel_rfl) (by kernel_rfl) (fun _ _ _ h => h) (by rfl) ?_ (by assumption) ?_
  · intro w hSw; (try dsimp only at hSw); go_simp
  simp only [List.setIfInBounds_toArray, List.set_cons_zero, List.set_cons_succ]
  refine wpAnyH_ready (rs := [7]) (by kernel_rfl) (by simp) ?_
  refine AllReadyH.cons rfl (fun K hK => ?_) AllReadyH.nil
  go_simp
  refine (cNewC (Rq.mk 1 96 f vx vy) ⟨md, 0, 9⟩ _ okR rfl).mono ?_
  rintro e w6 ⟨p, rfl, Mp⟩
  rw [hnew] at Mp
  have h7 := ht.below Mp.bel
  have m7 : Cm w w6 p (Cw.hd (Rq.mk 1 96 f vx vy) sh fx) := Mp.cm ht.bel.size ok0
  have Q6 := Qt.below Mp.bel
  have C6 := Ct.below Mp.bel
  have V7 := Vt.below Mp.bel
  clear Mp
  refine hK.out _ _ ⟨Q6.cell 0, Q6.cell 1, Q6.cell 2, Q6.cell 3, Q6.cell 4, Q6.cell 5, Q6.cell 6, C6.cell 3⟩ (fun hHeld => ?_)
  clear hK K
  try simp only [Act.put, List.setIfInBounds_toArray, List.set_cons_zero, List.set_cons_succ]
  refine takeH (i := 8) 10 (pt p) rfl rfl (by kernel_rfl) (by kernel_rfl) (by kernel_rfl) (fun _ _ _ h => h) (by rfl) ?_ (by assumption) ?_
  · intro w hSw; (try dsimp only at hSw); go_simp
  simp only [List.setIfInBounds_toArray, List.set_cons_zero, List.set_cons_succ]
  refine wpAnyH_done (by kernel_rfl) ?_ _
  refine NoPanic.normal ?_
  clear h3 h4 h5 h6 ht C2 C3 C4 C5 Ct Q4 Q5 Qt V3 V4 V5 V6 Vt hbd hbt
  go_upto_region 10 with (fail)
  have x0 : w6.cell? ⟨cb, 0, none⟩ = some (.int .i64 c1.k) := V7.cell 0
  have x1 : w6.cell? ⟨cb, 1, none⟩ = some (.int .i64 c1.n) := V7.cell 1
  have xl := V7.lt
  go_upto_region 11 with (go_at_call 10; refine (cVal c1 fc _).mono ?_; rintro e w7 ⟨rfl, hb7⟩; rw [hu]; have h8 := h7.below hb7; have m8 := m7.below hb7; have Q7 := Q6.below hb7; clear hb7)
  clear x0 x1 xl V7 C6 Q6 h7 m7
  have U8b : Below w7.heap.size w7 (w7.alloc (.cells #[.int .i64 u.k, .int .i64 u.n] 24)) := (Below.refl _ _).alloc (Nat.le_refl _) _
  have U8 : Blk w (w7.alloc (.cells #[.int .i64 u.k, .int .i64 u.n] 24)) w7.heap.size 24 #[.int .i64 u.k, .int .i64 u.n] := Blk.new h8.bel.size _ (by decide)
  have h9 := h8.below U8b
  have m9 := m8.below U8b
  have Q8 := Q7.below U8b
  generalize w7.alloc (.cells #[.int .i64 u.k, .int .i64 u.n] 24) = w8 at U8 h9 m9 Q8 ⊢
  generalize w7.heap.size = ub at U8 ⊢
  clear U8b
  have x0 : w8.cell? ⟨ub, 0, none⟩ = some (.int .i64 u.k) := U8.cell 0
  have x1 : w8.cell? ⟨ub, 1, none⟩ = some (.int .i64 u.n) := U8.cell 1
  have xl := U8.lt
  have i113 : IntKind.i64.wrap (113 + (f : Int)) = 113 + (f : Int) := by rw [IntKind.wrap_i64]; omega
  have i97 : IntKind.i64.wrap (97 + (f : Int)) = 97 + (f : Int) := by rw [IntKind.wrap_i64]; omega
  have hU2 := u64_word u.k u.n
  obtain ⟨wd2, hwd2⟩ : ∃ wd2, F.Plain.word u.k u.n = wd2 := ⟨_, rfl⟩
  rw [hwd2] at hU2
  go_wp2_with (first
    | (go_at_call 19; refine (F.rWord u.k u.n _).mono ?_; rintro e w10 ⟨rfl, m10, hw10⟩; rw [hwd2]; have hb10 : Below w8.heap.size w8 w10 := (by rw [hw10]; exact F.bdr ((Below.refl _ _).alloc (Nat.le_refl _) _) _); have h10 := h9.below hb10; have m11 := m9.below hb10; have Q10 := Q8.below hb10; have U10 := U8.below hb10; clear hw10 hb10)
    | (go_at_call 18; refine (tStore h10 (by omega) (113 + (f : Int)) hU2).mono ?_; rintro e w11 ⟨rfl, h11, o11⟩; rw [← hwd2, show F.Plain.word u.k u.n = u.w from rfl, hS1] at h11; have m12 := m11.oth0 o11; have Q11 := Q10.oth o11 (by simp); have U11 := U10.oth o11 (by simp); clear o11))
  clear x0 x1 xl h8 h9 h10 m8 m9 m11 Q7 Q8 Q10 U8 U10
  go_loopw [12, 13] (fun dn i wr => ∃ j : Nat, j ≤ d ∧ i = .int .i64 j ∧ dn = .bool (runC (Cw.hd (Rq.mk 1 96 f vx vy) sh fx) S1 j).1.done ∧ Two w wr b y (runC (Cw.hd (Rq.mk 1 96 f vx vy) sh fx) S1 j).2 S (21 + j) ∧ Cm w wr p (runC (Cw.hd (Rq.mk 1 96 f vx vy) sh fx) S1 j).1 ∧ Blk w wr rb 48 #[.int .i64 1, .int .i64 96, .int .i64 f, .int .i64 vx.k, .int .i64 vx.n, .int .i64 vy.k, .int .i64 vy.n] ∧ Blk w wr ub 24 #[.int .i64 u.k, .int .i64 u.n]) (fun _ i _ => 12 - (intOf i).toNat)
  case atStart => exact ⟨0, Nat.zero_le _, rfl, rfl, h11, m12, Q11, U11⟩
  case round =>
    clear h11 m12 Q11 U11
    obtain ⟨j, hj, rfl, rfl, k1, k2, k3, k9⟩ := hrel
    rcases Nat.lt_or_ge j d with hjd | hjd
    · have hdn : (runC (Cw.hd (Rq.mk 1 96 f vx vy) sh fx) S1 j).1.done = false := E.not j hjd
      have hji : (j : Int) < 12 := by omega
      obtain ⟨XX, hX⟩ : ∃ X, (runC (Cw.hd (Rq.mk 1 96 f vx vy) sh fx) S1 j).1 = X := ⟨_, rfl⟩
      obtain ⟨SX, hSX⟩ : ∃ X, (runC (Cw.hd (Rq.mk 1 96 f vx vy) sh fx) S1 j).2 = X := ⟨_, rfl⟩
      rw [hX] at k2 hdn
      rw [hSX] at k1
      rw [hX, hdn]
      obtain ⟨cx, Bx'⟩ := k2.blk
      go_wp2_with (go_at_call 13; refine (tC k1 k2 (by omega)).mono ?_; rintro e w20 ⟨rfl, k4, k5, o6⟩; have k6 := k3.oth o6 (by simpa using k3.ne Bx' (by decide)); have k10 := k9.oth o6 (by simpa using k9.ne Bx' (by decide)))
      go_roundw
      case rel => exact ⟨j + 1, by omega, by go_num, by simp only [runC, hX, hSX], by simp only [runC, hX, hSX]; exact k4, by simp only [runC, hX, hSX]; exact k5, k6, k10⟩
      case measure => simp [intOf]; omega
    · obtain rfl : j = d := by omega
      have hdn : (runC (Cw.hd (Rq.mk 1 96 f vx vy) sh fx) S1 j).1.done = true := by rw [E.at_]; rfl
      rw [hdn]
      rw [E.at_] at k1 k2
      simp only at k1 k2
      have hji : (j : Int) < 12 := by omega
      have g0 : wr.cell? ⟨ub, 0, none⟩ = some (.int .i64 u.k) := k9.cell 0
      have g1 : wr.cell? ⟨ub, 1, none⟩ = some (.int .i64 u.n) := k9.cell 1
      have gl := k9.lt
      have f0 := fOut0
      have f2 := fOut2
      obtain ⟨ov, hov⟩ : ∃ v, (Cw.fin hit' o').o.v = v := ⟨_, rfl⟩
      go_upto_region 18 with (fail)
      clear g0 g1 gl
      have hun' : ub ≠ wr.heap.size := by have := k9.lt; omega
      have N1b : Below wr.heap.size wr (wr.alloc (.cells #[.int .i64 u.k, .int .i64 u.n] 24)) := (Below.refl _ _).alloc (Nat.le_refl _) _
      have N1 : Blk w (wr.alloc (.cells #[.int .i64 u.k, .int .i64 u.n] 24)) wr.heap.size 24 #[.int .i64 u.k, .int .i64 u.n] := Blk.new k1.bel.size _ (by decide)
      have t1 := k1.below N1b
      have m1 := k2.below N1b
      have R1 := k3.below N1b
      have U1 := k9.below N1b
      generalize wr.alloc (.cells #[.int .i64 u.k, .int .i64 u.n] 24) = w21 at N1 t1 m1 R1 U1 ⊢
      generalize wr.heap.size = nb at N1 hun' ⊢
      have hun : ub ≠ nb := hun'
      clear hun'
      clear N1b
      have r0 : w21.cell? ⟨rb, 0, none⟩ = some (.int .i64 1) := R1.cell 0
      have r1 : w21.cell? ⟨rb, 1, none⟩ = some (.int .i64 96) := R1.cell 1
      have r2 : w21.cell? ⟨rb, 2, none⟩ = some (.int .i64 f) := R1.cell 2
      have r3 : w21.cell? ⟨rb, 3, none⟩ = some (.int .i64 vx.k) := R1.cell 3
      have r4 : w21.cell? ⟨rb, 4, none⟩ = some (.int .i64 vx.n) := R1.cell 4
      have r5 : w21.cell? ⟨rb, 5, none⟩ = some (.int .i64 vy.k) := R1.cell 5
      have r6 : w21.cell? ⟨rb, 6, none⟩ = some (.int .i64 vy.n) := R1.cell 6
      have us0 : w21.cell? ⟨ub, 0, none⟩ = some (.int .i64 u.k) := U1.cell 0
      have usf0 := U1.free 0
      have us1 : w21.cell? ⟨ub, 1, none⟩ = some (.int .i64 u.n) := U1.cell 1
      have usf1 := U1.free 1
      have ns0 : w21.cell? ⟨nb, 0, none⟩ = some (.int .i64 u.k) := N1.cell 0
      have nsf0 := N1.free 0
      have ns1 : w21.cell? ⟨nb, 1, none⟩ = some (.int .i64 u.n) := N1.cell 1
      have nsf1 := N1.free 1
      have rl := R1.lt
      have ul := U1.lt
      have nl := N1.lt
      go_upto_region 20 with (fail)
      clear r0 r1 r2 r3 r4 r5 r6 us0 usf0 us1 usf1 ns0 nsf0 ns1 nsf1 rl ul nl
      obtain ⟨uw, huw⟩ : ∃ v, u.w = v := ⟨_, rfl⟩
      have hUw : U64 uw := huw ▸ u.u64
      have hkw : F.Plain.kind uw = u.k := by rw [← huw]; exact congrArg Vl.k gu.of
      have hnw : F.Plain.num uw = u.n := by rw [← huw]; exact congrArg Vl.n gu.of
      have hgf : s'.got (97 + (f : Int)) = 72 := by rw [M'.gota hf3]; exact h72 f hf3
      have hgc : (s'.load (97 + (f : Int))).got (113 + (f : Int)) = uw := by rw [(M'.load (in_a hf3)).gotc hf3, hwant', huw]
      have ev := eqVal_t (a := u) (b := u) rfl
      have bq := beqFF
      have hbd : Below w21.heap.size w21 w21.drew := (Below.refl _ _).drew
      have TT0 := t1.below hbd
      have MM0 := m1.below hbd
      have NN0 := N1.below hbd
      have RR0 := R1.below hbd
      have UU0 := U1.below hbd
      refine wp_region_noPanic ?_
      refine wp_region_held_drew (S := fun w' => w'.cell? ⟨nb, 0, none⟩ = some (.int .i64 u.k) ∧ w'.cell? ⟨nb, 1, none⟩ = some (.int .i64 u.n) ∧ w'.cell? ⟨rb, 0, none⟩ = some (.int .i64 1) ∧ w'.cell? ⟨rb, 3, none⟩ = some (.int .i64 vx.k) ∧ w'.cell? ⟨rb, 4, none⟩ = some (.int .i64 vx.n) ∧ w'.cell? ⟨ub, 0, none⟩ = some (.int .i64 u.k) ∧ w'.cell? ⟨ub, 1, none⟩ = some (.int .i64 u.n)) (by kernel_rfl) ⟨NN0.cell 0, NN0.cell 1, RR0.cell 0, RR0.cell 3, RR0.cell 4, UU0.cell 0, UU0.cell 1⟩ (fun hHeld => ?_)
      refine takeH (i := 0) 87 (.bool true) rfl rfl (by kernel_rfl) (by kernel_rfl) (by kernel_rfl) (fun _ _ _ h => h) (by rfl) ?_ (by assumption) ?_
      · intro w hSw; (try dsimp only at hSw); go_simp
      simp only [List.setIfInBounds_toArray, List.set_cons_zero, List.set_cons_succ]
      refine takeH (i := 1) 88 (.bool true) rfl rfl (by kernel_rfl) (by kernel_rfl) (by kernel_rfl) (fun _ _ _ h => h) (by rfl) ?_ (by assumption) ?_
      · intro w hSw; (try dsimp only at hSw); go_simp
      simp only [List.setIfInBounds_toArray, List.set_cons_zero, List.set_cons_succ]
      refine takeH (i := 2) 89 (pt p) rfl rfl (by kernel_rfl) (by kernel_rfl) (by kernel_rfl) (fun _ _ _ h => h) (by rfl) ?_ (by assumption) ?_
      · intro w hSw; (try dsimp only at hSw); go_simp
      simp only [List.setIfInBounds_toArray, List.set_cons_zero, List.set_cons_succ]
      refine wpAnyH_ready (rs := [3]) (by kernel_rfl) (by simp) ?_
      refine AllReadyH.cons rfl (fun K hK => ?_) AllReadyH.nil
      go_simp
      refine (cCResult MM0).mono ?_
      rintro e w31 ⟨rfl, hb31⟩
      rw [show (Cw.fin hit' o').o.val = .agg #[.int .i64 0, .int .i64 ov.k, .int .i64 ov.n, .bool false] by rw [← hov]; exact outv hC hyes]
      have TT1 := TT0.below hb31
      have NN1 := NN0.below hb31
      have RR1 := RR0.below hb31
      have UU1 := UU0.below hb31
      have MM1 := MM0.below hb31
      clear hb31
      refine hK.out _ _ ⟨NN1.cell 0, NN1.cell 1, RR1.cell 0, RR1.cell 3, RR1.cell 4, UU1.cell 0, UU1.cell 1⟩ (fun hHeld => ?_)
      clear hK K
      try simp only [Act.put, List.setIfInBounds_toArray, List.set_cons_zero, List.set_cons_succ]
      refine takeH (i := 4) 91 (.int .i64 0) rfl rfl (by kernel_rfl) (by kernel_rfl) (by kernel_rfl) (fun _ _ _ h => h) (by rfl) ?_ (by assumption) ?_
      · intro w hSw; (try dsimp only at hSw); go_simp
      simp only [List.setIfInBounds_toArray, List.set_cons_zero, List.set_cons_succ]
      refine takeH (i := 5) 92 (.bool true) rfl rfl (by kernel_rfl) (by kernel_rfl) (by kernel_rfl) (fun _ _ _ h => h) (by rfl) ?_ (by assumption) ?_
      · intro w hSw; (try dsimp only at hSw); go_simp
      simp only [List.setIfInBounds_toArray, List.set_cons_zero, List.set_cons_succ]
      refine takeH (i := 6) 93 (.bool true) rfl rfl (by kernel_rfl) (by kernel_rfl) (by kernel_rfl) (fun _ _ _ h => h) (by rfl) ?_ (by assumption) ?_
      · intro w hSw; (try dsimp only at hSw); go_simp
      simp only [List.setIfInBounds_toArray, List.set_cons_zero, List.set_cons_succ]
      refine takeH (i := 7) 94 (.bool true) rfl rfl (by kernel_rfl) (by kernel_rfl) (by kernel_rfl) (fun _ _ _ h => h) (by rfl) ?_ (by assumption) ?_
      · intro w hSw; (try dsimp only at hSw); go_simp
      simp only [List.setIfInBounds_toArray, List.set_cons_zero, List.set_cons_succ]
      refine takeH (i := 8) 95 (pt b) rfl rfl (by kernel_rfl) (by kernel_rfl) (by kernel_rfl) (fun _ _ _ h => h) (by rfl) ?_ (by assumption) ?_
      · intro w hSw; (try dsimp only at hSw); go_simp
      simp only [List.setIfInBounds_toArray, List.set_cons_zero, List.set_cons_succ]
      refine takeH (i := 9) 96 (.int .i64 f) rfl rfl (by kernel_rfl) (by kernel_rfl) (by kernel_rfl) (fun _ _ _ h => h) (by rfl) ?_ (by assumption) ?_
      · intro w hSw; (try dsimp only at hSw); go_simp
      simp only [List.setIfInBounds_toArray, List.set_cons_zero, List.set_cons_succ]
      refine takeH (i := 10) 97 (.int .i64 (97 + f)) rfl rfl (by kernel_rfl) (by kernel_rfl) (by kernel_rfl) (fun _ _ _ h => h) (by rfl) ?_ (by assumption) ?_
      · intro w hSw; (try dsimp only at hSw); go_simp
      simp only [List.setIfInBounds_toArray, List.set_cons_zero, List.set_cons_succ]
      refine wpAnyH_ready (rs := [11]) (by kernel_rfl) (by simp) ?_
      refine AllReadyH.cons rfl (fun K hK => ?_) AllReadyH.nil
      go_simp
      refine (tLoad TT1 (by omega) (97 + (f : Int))).mono ?_
      rintro e w32 ⟨rfl, TT2, o32⟩
      rw [hgf]
      have NN2 := NN1.oth o32 (by simp)
      have RR2 := RR1.oth o32 (by simp)
      have UU2 := UU1.oth o32 (by simp)
      have MM2 := MM1.oth0 o32
      clear o32
      refine hK.out _ _ ⟨NN2.cell 0, NN2.cell 1, RR2.cell 0, RR2.cell 3, RR2.cell 4, UU2.cell 0, UU2.cell 1⟩ (fun hHeld => ?_)
      clear hK K
      try simp only [Act.put, List.setIfInBounds_toArray, List.set_cons_zero, List.set_cons_succ]
      refine wpAnyH_ready (rs := [12]) (by kernel_rfl) (by simp) ?_
      refine AllReadyH.cons rfl (fun K hK => ?_) AllReadyH.nil
      go_simp
      refine (cSent _).mono ?_
      rintro e w33 ⟨rfl, hb33⟩
      have TT3 := TT2.below hb33
      have NN3 := NN2.below hb33
      have RR3 := RR2.below hb33
      have UU3 := UU2.below hb33
      have MM3 := MM2.below hb33
      clear hb33
      refine hK.out _ _ ⟨NN3.cell 0, NN3.cell 1, RR3.cell 0, RR3.cell 3, RR3.cell 4, UU3.cell 0, UU3.cell 1⟩ (fun hHeld => ?_)
      clear hK K
      try simp only [Act.put, List.setIfInBounds_toArray, List.set_cons_zero, List.set_cons_succ]
      refine takeH (i := 13) 100 (.bool true) rfl rfl (by kernel_rfl) (by kernel_rfl) (by kernel_rfl) (fun _ _ _ h => h) (by rfl) ?_ (by assumption) ?_
      · intro w hSw; (try dsimp only at hSw); go_simp
      simp only [List.setIfInBounds_toArray, List.set_cons_zero, List.set_cons_succ]
      refine takeH (i := 14) 101 (.bool true) rfl rfl (by kernel_rfl) (by kernel_rfl) (by kernel_rfl) (fun _ _ _ h => h) (by rfl) ?_ (by assumption) ?_
      · intro w hSw; (try dsimp only at hSw); go_simp
      simp only [List.setIfInBounds_toArray, List.set_cons_zero, List.set_cons_succ]
      refine takeH (i := 15) 102 (.bool true) rfl rfl (by kernel_rfl) (by kernel_rfl) (by kernel_rfl) (fun _ _ _ h => h) (by rfl) ?_ (by assumption) ?_
      · intro w hSw; (try dsimp only at hSw); go_simp
      simp only [List.setIfInBounds_toArray, List.set_cons_zero, List.set_cons_succ]
      refine takeH (i := 16) 103 (pt b) rfl rfl (by kernel_rfl) (by kernel_rfl) (by kernel_rfl) (fun _ _ _ h => h) (by rfl) ?_ (by assumption) ?_
      · intro w hSw; (try dsimp only at hSw); go_simp
      simp only [List.setIfInBounds_toArray, List.set_cons_zero, List.set_cons_succ]
      refine takeH (i := 17) 104 (.int .i64 f) rfl rfl (by kernel_rfl) (by kernel_rfl) (by kernel_rfl) (fun _ _ _ h => h) (by rfl) ?_ (by assumption) ?_
      · intro w hSw; (try dsimp only at hSw); go_simp
      simp only [List.setIfInBounds_toArray, List.set_cons_zero, List.set_cons_succ]
      refine takeH (i := 18) 105 (.int .i64 (113 + f)) rfl rfl (by kernel_rfl) (by kernel_rfl) (by kernel_rfl) (fun _ _ _ h => h) (by rfl) ?_ (by assumption) ?_
      · intro w hSw; (try dsimp only at hSw); go_simp
      simp only [List.setIfInBounds_toArray, List.set_cons_zero, List.set_cons_succ]
      refine takeH (i := 21) 108 (.agg #[.int .i64 u.k, .int .i64 u.n]) rfl rfl (by kernel_rfl) (by kernel_rfl) (by kernel_rfl) (fun _ _ _ h => h) (by rfl) ?_ (by assumption) ?_
      · intro w hSw; (try dsimp only at hSw); go_simp
      simp only [List.setIfInBounds_toArray, List.set_cons_zero, List.set_cons_succ]
      refine wpAnyH_ready (rs := [19]) (by kernel_rfl) (by simp) ?_
      refine AllReadyH.cons rfl (fun K hK => ?_) AllReadyH.nil
      go_simp
      refine (tLoad TT3 (by omega) (113 + (f : Int))).mono ?_
      rintro e w34 ⟨rfl, TT4, o34⟩
      rw [hgc]
      have NN4 := NN3.oth o34 (by simp)
      have RR4 := RR3.oth o34 (by simp)
      have UU4 := UU3.oth o34 (by simp)
      have MM4 := MM3.oth0 o34
      clear o34
      refine hK.out _ _ ⟨NN4.cell 0, NN4.cell 1, RR4.cell 0, RR4.cell 3, RR4.cell 4, UU4.cell 0, UU4.cell 1⟩ (fun hHeld => ?_)
      clear hK K
      try simp only [Act.put, List.setIfInBounds_toArray, List.set_cons_zero, List.set_cons_succ]
      refine wpAnyH_ready (rs := [20]) (by kernel_rfl) (by simp) ?_
      refine AllReadyH.cons rfl (fun K hK => ?_) AllReadyH.nil
      go_simp
      refine (F.rOf uw hUw.1 hUw.2 _).mono ?_
      rintro e w35 ⟨rfl, hw35⟩
      rw [hkw, hnw] at hw35 ⊢
      have hb35 : Below w34.heap.size w34 w35 := (by rw [hw35]; go_grown)
      have TT5 := TT4.below hb35
      have NN5 := NN4.below hb35
      have RR5 := RR4.below hb35
      have UU5 := UU4.below hb35
      have MM5 := MM4.below hb35
      clear hw35 hb35
      refine hK.out _ _ ⟨NN5.cell 0, NN5.cell 1, RR5.cell 0, RR5.cell 3, RR5.cell 4, UU5.cell 0, UU5.cell 1⟩ (fun hHeld => ?_)
      clear hK K
      try simp only [Act.put, List.setIfInBounds_toArray, List.set_cons_zero, List.set_cons_succ]
      refine takeH (i := 22) 109 (.bool true) rfl rfl (by kernel_rfl) (by kernel_rfl) (by kernel_rfl) (fun _ _ _ h => h) (by rfl) ?_ (by assumption) ?_
      · intro w hSw; (try dsimp only at hSw); go_simp
      simp only [List.setIfInBounds_toArray, List.set_cons_zero, List.set_cons_succ]
      refine takeH (i := 23) 110 (.bool true) rfl rfl (by kernel_rfl) (by kernel_rfl) (by kernel_rfl) (fun _ _ _ h => h) (by rfl) ?_ (by assumption) ?_
      · intro w hSw; (try dsimp only at hSw); go_simp
      simp only [List.setIfInBounds_toArray, List.set_cons_zero, List.set_cons_succ]
      refine takeH (i := 24) 111 (.bool true) rfl rfl (by kernel_rfl) (by kernel_rfl) (by kernel_rfl) (fun _ _ _ h => h) (by rfl) ?_ (by assumption) ?_
      · intro w hSw; (try dsimp only at hSw); go_simp
      simp only [List.setIfInBounds_toArray, List.set_cons_zero, List.set_cons_succ]
      refine takeH (i := 25) 112 (pt p) rfl rfl (by kernel_rfl) (by kernel_rfl) (by kernel_rfl) (fun _ _ _ h => h) (by rfl) ?_ (by assumption) ?_
      · intro w hSw; (try dsimp only at hSw); go_simp
      simp only [List.setIfInBounds_toArray, List.set_cons_zero, List.set_cons_succ]
      refine takeH (i := 28) 115 (pt rb) rfl rfl (by kernel_rfl) (by kernel_rfl) (by kernel_rfl) (fun _ _ _ h => h) (by rfl) ?_ (by assumption) ?_
      · intro w hSw; (try dsimp only at hSw); go_simp
      simp only [List.setIfInBounds_toArray, List.set_cons_zero, List.set_cons_succ]
      refine takeH (i := 29) 116 (.int .i64 1) rfl rfl (by kernel_rfl) (by kernel_rfl) (by kernel_rfl) (fun _ _ _ h => h) (by rfl) ?_ (by assumption) ?_
      · intro w hSw; (try dsimp only at hSw); go_simp
      simp only [List.setIfInBounds_toArray, List.set_cons_zero, List.set_cons_succ]
      refine takeH (i := 30) 117 (.bool false) rfl rfl (by kernel_rfl) (by kernel_rfl) (by kernel_rfl) (fun _ _ _ h => h) (by rfl) ?_ (by assumption) ?_
      · intro w hSw; (try dsimp only at hSw); go_simp
      simp only [List.setIfInBounds_toArray, List.set_cons_zero, List.set_cons_succ]
      refine wpAnyH_ready (rs := [26]) (by kernel_rfl) (by simp) ?_
      refine AllReadyH.cons rfl (fun K hK => ?_) AllReadyH.nil
      go_simp
      refine (cCResult MM5).mono ?_
      rintro e w36 ⟨rfl, hb36⟩
      rw [show (Cw.fin hit' o').o.val = .agg #[.int .i64 0, .int .i64 ov.k, .int .i64 ov.n, .bool false] by rw [← hov]; exact outv hC hyes]
      have TT6 := TT5.below hb36
      have NN6 := NN5.below hb36
      have RR6 := RR5.below hb36
      have UU6 := UU5.below hb36
      have MM6 := MM5.below hb36
      clear hb36
      refine hK.out _ _ ⟨NN6.cell 0, NN6.cell 1, RR6.cell 0, RR6.cell 3, RR6.cell 4, UU6.cell 0, UU6.cell 1⟩ (fun hHeld => ?_)
      clear hK K
      try simp only [Act.put, List.setIfInBounds_toArray, List.set_cons_zero, List.set_cons_succ]
      refine takeH (i := 27) 114 (.bool false) rfl rfl (by kernel_rfl) (by kernel_rfl) (by kernel_rfl) (fun _ _ _ h => h) (by rfl) ?_ (by assumption) ?_
      · intro w hSw; (try dsimp only at hSw); go_simp
      simp only [List.setIfInBounds_toArray, List.set_cons_zero, List.set_cons_succ]
      refine takeH (i := 31) 118 (.bool false) rfl rfl (by kernel_rfl) (by kernel_rfl) (by kernel_rfl) (fun _ _ _ h => h) (by rfl) ?_ (by assumption) ?_
      · intro w hSw; (try dsimp only at hSw); go_simp
      simp only [List.setIfInBounds_toArray, List.set_cons_zero, List.set_cons_succ]
      refine skipH (i := 32) 119 rfl rfl (by kernel_rfl) (by kernel_rfl) (by kernel_rfl) (fun _ _ _ h => h) (by rfl) (by assumption) ?_
      simp only [List.setIfInBounds_toArray, List.set_cons_zero, List.set_cons_succ]
      refine skipH (i := 33) 120 rfl rfl (by kernel_rfl) (by kernel_rfl) (by kernel_rfl) (fun _ _ _ h => h) (by rfl) (by assumption) ?_
      simp only [List.setIfInBounds_toArray, List.set_cons_zero, List.set_cons_succ]
      refine skipH (i := 34) 121 rfl rfl (by kernel_rfl) (by kernel_rfl) (by kernel_rfl) (fun _ _ _ h => h) (by rfl) (by assumption) ?_
      simp only [List.setIfInBounds_toArray, List.set_cons_zero, List.set_cons_succ]
      refine skipH (i := 35) 122 rfl rfl (by kernel_rfl) (by kernel_rfl) (by kernel_rfl) (fun _ _ _ h => h) (by rfl) (by assumption) ?_
      simp only [List.setIfInBounds_toArray, List.set_cons_zero, List.set_cons_succ]
      refine takeH (i := 36) 123 (.bool false) rfl rfl (by kernel_rfl) (by kernel_rfl) (by kernel_rfl) (fun _ _ _ h => h) (by rfl) ?_ (by assumption) ?_
      · intro w hSw; (try dsimp only at hSw); go_simp
      simp only [List.setIfInBounds_toArray, List.set_cons_zero, List.set_cons_succ]
      refine takeH (i := 37) 124 (.bool true) rfl rfl (by kernel_rfl) (by kernel_rfl) (by kernel_rfl) (fun _ _ _ h => h) (by rfl) ?_ (by assumption) ?_
      · intro w hSw; (try dsimp only at hSw); go_simp
      simp only [List.setIfInBounds_toArray, List.set_cons_zero, List.set_cons_succ]
      refine takeH (i := 38) 125 (.bool true) rfl rfl (by kernel_rfl) (by kernel_rfl) (by kernel_rfl) (fun _ _ _ h => h) (by rfl) ?_ (by assumption) ?_
      · intro w hSw; (try dsimp only at hSw); go_simp
      simp only [List.setIfInBounds_toArray, List.set_cons_zero, List.set_cons_succ]
      refine takeH (i := 39) 4 (.bool true) rfl rfl (by kernel_rfl) (by kernel_rfl) (by kernel_rfl) (fun _ _ _ h => h) (by rfl) ?_ (by assumption) ?_
      · intro w hSw; (try dsimp only at hSw); go_simp
      simp only [List.setIfInBounds_toArray, List.set_cons_zero, List.set_cons_succ]
      refine wpAnyH_done (by kernel_rfl) ?_ _
      refine NoPanic.normal ?_
      go_wp2
      go_ret
      exact ⟨rfl, TT6.bel⟩
set_option maxHeartbeats 8000000 in
theorem wElse2 (c1 : Vl) (q : Op15) (w : World) (W : H.Wid w) (fc : c1.Fit) (fit : q.Fit) (hop : (reqP q).op = 2) :
    Calls Tryd.prog 4 #[.agg #[.int .i64 c1.k, .int .i64 c1.n], .agg q.cells] w fun e w' => e = .returned (.bool true) ∧ Below w.heap.size w w' := by
  obtain ⟨S, hS⟩ : ∃ S, laidS 4 2 (fldP 3 (fun _ => ⟨0, 9⟩)) = S := ⟨_, rfl⟩
  have hSl : S.ws.length = 160 := by rw [← hS]; exact laid_len _ _ _
  have M0 := laid_m6 4 2 (fldP 3 (fun _ => ⟨0, 9⟩))
  rw [hS] at M0
  obtain ⟨old, hold'⟩ : ∃ old : Nat → Int, (fun k => (fldP 3 (fun _ => ⟨0, 9⟩) k).w) = old := ⟨_, rfl⟩
  rw [hold'] at M0
  have h72 : ∀ k, k < 3 → old k = 72 := fun k hk => by rw [← hold']; simp only [fldP, if_pos hk]; decide
  have kf := kd_lt q.fd 3 (by decide)
  obtain ⟨f, hf⟩ : ∃ f : Nat, kd q.fd 3 = (f : Int) := ⟨(kd q.fd 3).toNat, by omega⟩
  rw [hf] at kf
  have hf3 : f < 3 := by omega
  have km := kd_lt q.md 3 (by decide)
  obtain ⟨mk, hmk⟩ : ∃ m, kd q.md 3 = m := ⟨_, rfl⟩
  rw [hmk] at km
  obtain ⟨md, hmd⟩ : ∃ m, 6 + mk = m := ⟨_, rfl⟩
  have imd : IntKind.i64.wrap md = md := by rw [IntKind.wrap_i64]; omega
  have gx := good_valP q.x
  have gy := good_valP q.y
  have gu := good_valP c1
  obtain ⟨vx, hvx⟩ : ∃ v, valP q.x = v := ⟨_, rfl⟩
  obtain ⟨vy, hvy⟩ : ∃ v, valP q.y = v := ⟨_, rfl⟩
  obtain ⟨u, hu⟩ : ∃ v, valP c1 = v := ⟨_, rfl⟩
  rw [hvx] at gx
  rw [hvy] at gy
  rw [hu] at gu
  obtain ⟨at0, hat0⟩ : ∃ a, (reqP q).at_ = a := ⟨_, rfl⟩
  obtain ⟨f0, hf0⟩ : ∃ a, (reqP q).fd = a := ⟨_, rfl⟩
  have hrq : (reqP q).cells = #[.int .i64 2, .int .i64 at0, .int .i64 f0, .int .i64 vx.k, .int .i64 vx.n, .int .i64 vy.k, .int .i64 vy.n] := by
    unfold Rq.cells
    rw [hop, hat0, hf0, show (reqP q).x = vx from hvx, show (reqP q).y = vy from hvy]
  obtain ⟨fx, hfx⟩ : ∃ b, (md == 8) = b := ⟨_, rfl⟩
  obtain ⟨sh, hsh⟩ : ∃ b, decide (7 ≤ md) = b := ⟨_, rfl⟩
  have hnew : Cw.new (Rq.mk 2 96 f vx vy) ⟨md, 0, 9⟩ = (Cw.hd (Rq.mk 2 96 f vx vy) sh fx) := by
    unfold Cw.new
    rw [if_neg (by simp), if_neg (by simp only; omega), hfx, hsh]
  have opo : (2 : Int) = 1 ∨ (2 : Int) = 2 ∨ (2 : Int) = 3 := by decide
  have okR : (Rq.mk 2 96 f vx vy).Ok := ⟨opo, by simp, by simp, by simp, by simp only; omega, .inr (by simp)⟩
  have ok0 : (Cw.hd (Rq.mk 2 96 f vx vy) sh fx).Ok := ⟨opo, by simp, by simp, by simp, by simp only; omega⟩
  have M1 := M0.storeC hf3 u.w
  obtain ⟨S1, hS1⟩ : ∃ s, S.store (113 + (f : Int)) u.w = s := ⟨_, rfl⟩
  rw [hS1] at M1
  obtain ⟨d, x', s', c', hd6, E, M', hwant, hC, hY⟩ := else_ends (r := (Rq.mk 2 96 f vx vy)) (u := u) M1 hf3 rfl rfl opo (h72 f hf3) gu gx (by simp [updN]) sh fx
  have hwant' : c' f = vy.w := hwant.trans (if_pos (.inl rfl))
  have hyes : x'.o.y = false := hY.trans (decide_eq_false (by simp))
  clear hwant hY
  obtain ⟨hit', o', rfl⟩ := done_fin E.done
  have a0 : Below w.heap.size w ((w.alloc (.cells #[.int .i64 c1.k, .int .i64 c1.n] 24)).alloc (.cells q.cells 28)) := by go_grown
  have V0 : Blk w (w.alloc (.cells #[.int .i64 c1.k, .int .i64 c1.n] 24)) w.heap.size 24 #[.int .i64 c1.k, .int .i64 c1.n] := Blk.new (Nat.le_refl _) _ (by decide)
  have V1 := V0.below ((Below.refl _ _).alloc (Nat.le_refl _) (.cells q.cells 28))
  have C0 : Blk w ((w.alloc (.cells #[.int .i64 c1.k, .int .i64 c1.n] 24)).alloc (.cells q.cells 28)) (w.heap.size + 1) 28 q.cells := ⟨newAt (by simp), by omega, by decide⟩
  go_enter Tryd.func4, Tryd.ntmps4
  unfold Op15.cells
  go_upto_region 1 with (fail)
  obtain ⟨cb, hcb⟩ : ∃ cb, w.heap.size = cb := ⟨_, rfl⟩
  obtain ⟨ob, hob⟩ : ∃ ob, cb + 1 = ob := ⟨_, rfl⟩
  change Blk w ((w.alloc (.cells #[.int .i64 c1.k, .int .i64 c1.n] 24)).alloc (.cells q.cells 28)) (w.heap.size + 1) 28 q.cells at C0
  rw [hcb] at C0 V1
  rw [hob] at C0
  rw [hcb, hob]
  unfold Op15.cells at C0 a0 V1
  generalize hw0 : (w.alloc _).alloc _ = wa at C0 a0 V1 ⊢
  clear hw0 hob hcb V0
  go_upto_region 2 with (go_at_call 5; refine (cShown _ (W.on a0)).mono ?_; rintro e w1 ⟨rfl, hb1'⟩; have hb1 := bel_trans a0 hb1'; have C1 := C0.below hb1'; have V2 := V1.below hb1'; clear hb1')
  have cvA : CameV (w1.alloc (.cells #[.int .i64 0, .int .i64 9, .int .i64 0, .int .i64 9, .int .i64 0, .int .i64 9] 24)) (some ⟨w1.heap.size, 0, none⟩) 3 (fun _ => ⟨0, 9⟩) := .inr ⟨w1.heap.size, 0, rfl, by simp, fun j hj => by rcases (show j = 0 ∨ j = 1 ∨ j = 2 by omega) with rfl | rfl | rfl <;> exact ⟨by go_cell, by go_cell, ⟨by decide, by decide, by decide, by decide⟩⟩⟩
  have belA : Below w1.heap.size w1 (w1.alloc (.cells #[.int .i64 0, .int .i64 9, .int .i64 0, .int .i64 9, .int .i64 0, .int .i64 9] 24)) := by go_grown
  have bbA := bel_trans hb1 belA
  have C1a := C1.below belA
  have V2a := V2.below belA
  go_upto_region 3 with (go_at_call 7; refine (cLaid (cv' := 3) _ (W.on bbA) cvA (by decide) (by decide) (by decide) (by decide)).mono ?_; rintro e w2 ⟨b, y, rfl, h2⟩; rw [show kd 4 6 = 4 by decide, show kd 2 3 = 2 by decide, hS] at h2; have C2 := C1a.below h2.bel; have V3 := V2a.below h2.bel; have h3 := h2.lift bbA W; clear h2)
  clear cvA belA bbA C1a V2a C1 V2 C0 V1
  have d0 : w2.cell? ⟨ob, 0, none⟩ = some (.int .i64 q.ob) := C2.cell 0
  have d1 : w2.cell? ⟨ob, 1, none⟩ = some (.int .i64 q.fd) := C2.cell 1
  have d2 : w2.cell? ⟨ob, 2, none⟩ = some (.int .i64 q.ac) := C2.cell 2
  have d3 : w2.cell? ⟨ob, 3, none⟩ = some (.int .i64 q.md) := C2.cell 3
  have d4 : w2.cell? ⟨ob, 4, none⟩ = some (.int .i64 q.x.k) := C2.cell 4
  have d5 : w2.cell? ⟨ob, 5, none⟩ = some (.int .i64 q.x.n) := C2.cell 5
  have d6 : w2.cell? ⟨ob, 6, none⟩ = some (.int .i64 q.y.k) := C2.cell 6
  have d7 : w2.cell? ⟨ob, 7, none⟩ = some (.int .i64 q.y.n) := C2.cell 7
  have d8 : w2.cell? ⟨ob, 8, none⟩ = some (.int .i64 q.hS) := C2.cell 8
  have d9 : w2.cell? ⟨ob, 9, none⟩ = some (.int .i64 q.hC) := C2.cell 9
  have d10 : w2.cell? ⟨ob, 10, none⟩ = some (.int .i64 q.hN) := C2.cell 10
  have d11 : w2.cell? ⟨ob, 11, none⟩ = some (.int .i64 q.hM) := C2.cell 11
  have d12 : w2.cell? ⟨ob, 12, none⟩ = some (.int .i64 q.hG) := C2.cell 12
  have d13 : w2.cell? ⟨ob, 13, none⟩ = some (.int .i64 q.hT) := C2.cell 13
  have d14 : w2.cell? ⟨ob, 14, none⟩ = some (.int .i64 q.hL) := C2.cell 14
  have dl := C2.lt
  go_upto_region 5 with (first
    | (go_at_call 8; refine (cKind _ q.fd 3 fit.fd.1 fit.fd.2 (by decide)).mono ?_; rintro e wk ⟨rfl, hwk⟩; rw [hwk, hf]; clear hwk wk)
    | (go_at_call 17; refine (cReq q fit _).mono ?_; rintro e w3 ⟨rfl, hb3⟩; rw [hrq]; have h4 := h3.below hb3; have C3 := C2.below hb3; have V4 := V3.below hb3; clear hb3))
  clear d0 d1 d2 d3 d4 d5 d6 d7 d8 d9 d10 d11 d12 d13 d14 dl
  have Q4b : Below w3.heap.size w3 (w3.alloc (.cells #[.int .i64 2, .int .i64 at0, .int .i64 f0, .int .i64 vx.k, .int .i64 vx.n, .int .i64 vy.k, .int .i64 vy.n] 48)) := (Below.refl _ _).alloc (Nat.le_refl _) _
  have Q4 : Blk w (w3.alloc (.cells #[.int .i64 2, .int .i64 at0, .int .i64 f0, .int .i64 vx.k, .int .i64 vx.n, .int .i64 vy.k, .int .i64 vy.n] 48)) w3.heap.size 48 #[.int .i64 2, .int .i64 at0, .int .i64 f0, .int .i64 vx.k, .int .i64 vx.n, .int .i64 vy.k, .int .i64 vy.n] := Blk.new h4.bel.size _ (by decide)
  have h5 := h4.below Q4b
  have C4 := C3.below Q4b
  have V5 := V4.below Q4b
  generalize w3.alloc (.cells #[.int .i64 2, .int .i64 at0, .int .i64 f0, .int .i64 vx.k, .int .i64 vx.n, .int .i64 vy.k, .int .i64 vy.n] 48) = w4 at Q4 h5 C4 V5 ⊢
  generalize w3.heap.size = rb at Q4 ⊢
  clear Q4b
  have e1 : w4.cell? ⟨rb, 1, none⟩ = some (.int .i64 at0) := Q4.cell 1
  have e2 : w4.cell? ⟨rb, 2, none⟩ = some (.int .i64 f0) := Q4.cell 2
  have ef1 := Q4.free 1
  have ef2 := Q4.free 2
  go_upto_region 7 with (fail)
  have KQ : Kept [rb] w4 ((w4.setCell ⟨rb, 1, none⟩ (.int .i64 96)).setCell ⟨rb, 2, none⟩ (.int .i64 f)) := (Kept.setCell [rb] _ _ _ (by simp)).trans (Kept.setCell [rb] _ _ _ (by simp)) (fun _ h => .inl h)
  have Q5 : Blk w ((w4.setCell ⟨rb, 1, none⟩ (.int .i64 96)).setCell ⟨rb, 2, none⟩ (.int .i64 f)) rb 48 #[.int .i64 2, .int .i64 96, .int .i64 f, .int .i64 vx.k, .int .i64 vx.n, .int .i64 vy.k, .int .i64 vy.n] := (Q4.set 1 _).set 2 _
  have h6 := to_twoB h5 KQ Q4
  have C5 := C4.oth (Oth.kept KQ) (by simpa using C4.ne Q4 (by decide))
  have V6 := V5.oth (Oth.kept KQ) (by simpa using V5.ne Q4 (by decide))
  clear e1 e2 ef1 ef2
  generalize (w4.setCell ⟨rb, 1, none⟩ (.int .i64 96)).setCell ⟨rb, 2, none⟩ (.int .i64 f) = w5 at Q5 h6 C5 V6 ⊢
  clear KQ
  have hbd : Below w5.heap.size w5 w5.drew := (Below.refl _ _).drew
  refine wp_region_noPanic ?_
  refine wp_region_held_drew (S := fun w' => w'.cell? ⟨rb, 0, none⟩ = some (.int .i64 2) ∧ w'.cell? ⟨rb, 1, none⟩ = some (.int .i64 96) ∧ w'.cell? ⟨rb, 2, none⟩ = some (.int .i64 f) ∧ w'.cell? ⟨rb, 3, none⟩ = some (.int .i64 vx.k) ∧ w'.cell? ⟨rb, 4, none⟩ = some (.int .i64 vx.n) ∧ w'.cell? ⟨rb, 5, none⟩ = some (.int .i64 vy.k) ∧ w'.cell? ⟨rb, 6, none⟩ = some (.int .i64 vy.n) ∧ w'.cell? ⟨ob, 3, none⟩ = some (.int .i64 q.md)) (by kernel_rfl) ⟨(Q5.below hbd).cell 0, (Q5.below hbd).cell 1, (Q5.below hbd).cell 2, (Q5.below hbd).cell 3, (Q5.below hbd).cell 4, (Q5.below hbd).cell 5, (Q5.below hbd).cell 6, (C5.below hbd).cell 3⟩ (fun hHeld => ?_)
  refine takeH (i := 1) 34 (.agg #[.int .i64 2, .int .i64 96, .int .i64 f, .int .i64 vx.k, .int .i64 vx.n, .int .i64 vy.k, .int .i64 vy.n]) rfl rfl (by kernel_rfl) (by kernel_rfl) (by kernel_rfl) (fun _ _ _ h => h) (by rfl) ?_ (by assumption) ?_
  · intro w hSw; (try dsimp only at hSw); go_simp
  simp only [List.setIfInBounds_toArray, List.set_cons_zero, List.set_cons_succ]
  refine takeH (i := 2) 35 (.pointer (some ⟨ob, 3, none⟩)) rfl rfl (by kernel_rfl) (by kernel_rfl) (by kernel_rfl) (fun _ _ _ h => h) (by rfl) ?_ (by assumption) ?_
  · intro w hSw; (try dsimp only at hSw); go_simp
  simp only [List.setIfInBounds_toArray, List.set_cons_zero, List.set_cons_succ]
  refine takeH (i := 3) 36 (.int .i64 q.md) rfl rfl (by kernel_rfl) (by kernel_rfl) (by kernel_rfl) (fun _ _ _ h => h) (by rfl) ?_ (by assumption) ?_
  · intro w hSw; (try dsimp only at hSw); go_simp
  simp only [List.setIfInBounds_toArray, List.set_cons_zero, List.set_cons_succ]
  refine wpAnyH_ready (rs := [0]) (by kernel_rfl) (by simp) ?_
  refine AllReadyH.cons rfl (fun K hK => ?_) AllReadyH.nil
  go_simp
  refine (cAt _).mono ?_
  rintro e w5t ⟨rfl, hbt⟩
  have ht := (h6.below hbd).below hbt
  have Qt := (Q5.below hbd).below hbt
  have Ct := (C5.below hbd).below hbt
  have Vt := (V6.below hbd).below hbt
  refine hK.out _ _ ⟨Qt.cell 0, Qt.cell 1, Qt.cell 2, Qt.cell 3, Qt.cell 4, Qt.cell 5, Qt.cell 6, Ct.cell 3⟩ (fun hHeld => ?_)
  clear hK K
  try simp only [Act.put, List.setIfInBounds_toArray, List.set_cons_zero, List.set_cons_succ]
  refine wpAnyH_ready (rs := [4]) (by kernel_rfl) (by simp) ?_
  refine AllReadyH.cons rfl (fun K hK => ?_) AllReadyH.nil
  go_simp
  refine (cKind _ q.md 3 fit.md.1 fit.md.2 (by decide)).mono ?_
  rintro e wk ⟨rfl, hwk⟩
  rw [hwk, hmk]
  clear hwk wk
  refine hK.out _ _ ⟨Qt.cell 0, Qt.cell 1, Qt.cell 2, Qt.cell 3, Qt.cell 4, Qt.cell 5, Qt.cell 6, Ct.cell 3⟩ (fun hHeld => ?_)
  clear hK K
  try simp only [Act.put, List.setIfInBounds_toArray, List.set_cons_zero, List.set_cons_succ]
  refine takeH (i := 5) 38 (.int .i64 md) rfl rfl (by kernel_rfl) (by kernel_rfl) (by kernel_rfl) (fun _ _ _ h => h) (by rfl) ?_ (by assumption) ?_
  · intro w hSw; (try dsimp only at hSw); go_simp
  simp only [List.setIfInBounds_toArray, List.set_cons_zero, List.set_cons_succ]
  refine takeH (i := 6) 39 (.agg #[.int .i64 md, .int .i64 0, .int .i64 9]) rfl rfl (by kernel_rfl) (by kernel_rfl) (by kernel_rfl) (fun _ _ _ h => h) (by rfl) ?_ (by assumption) ?_
  · intro w hSw; (try dsimp only at hSw); go_simp
  simp only [List.setIfInBounds_toArray, List.set_cons_zero, List.set_cons_succ]
  refine wpAnyH_ready (rs := [7]) (by kernel_rfl) (by simp) ?_
  refine AllReadyH.cons rfl (fun K hK => ?_) AllReadyH.nil
  go_simp
  refine (cNewC (Rq.mk 2 96 f vx vy) ⟨md, 0, 9⟩ _ okR rfl).mono ?_
  rintro e w6 ⟨p, rfl, Mp⟩
  rw [hnew] at Mp
  have h7 := ht.below Mp.bel
  have m7 : Cm w w6 p (Cw.hd (Rq.mk 2 96 f vx vy) sh fx) := Mp.cm ht.bel.size ok0
  have Q6 := Qt.below Mp.bel
  have C6 := Ct.below Mp.bel
  have V7 := Vt.below Mp.bel
  clear Mp
  refine hK.out _ _ ⟨Q6.cell 0, Q6.cell 1, Q6.cell 2, Q6.cell 3, Q6.cell 4, Q6.cell 5, Q6.cell 6, C6.cell 3⟩ (fun hHeld => ?_)
  clear hK K
  try simp only [Act.put, List.setIfInBounds_toArray, List.set_cons_zero, List.set_cons_succ]
  refine takeH (i := 8) 10 (pt p) rfl rfl (by kernel_rfl) (by kernel_rfl) (by kernel_rfl) (fun _ _ _ h => h) (by rfl) ?_ (by assumption) ?_
  · intro w hSw; (try dsimp only at hSw); go_simp
  simp only [List.setIfInBounds_toArray, List.set_cons_zero, List.set_cons_succ]
  refine wpAnyH_done (by kernel_rfl) ?_ _
  refine NoPanic.normal ?_
  clear h3 h4 h5 h6 ht C2 C3 C4 C5 Ct Q4 Q5 Qt V3 V4 V5 V6 Vt hbd hbt
  go_upto_region 10 with (fail)
  have x0 : w6.cell? ⟨cb, 0, none⟩ = some (.int .i64 c1.k) := V7.cell 0
  have x1 : w6.cell? ⟨cb, 1, none⟩ = some (.int .i64 c1.n) := V7.cell 1
  have xl := V7.lt
  go_upto_region 11 with (go_at_call 10; refine (cVal c1 fc _).mono ?_; rintro e w7 ⟨rfl, hb7⟩; rw [hu]; have h8 := h7.below hb7; have m8 := m7.below hb7; have Q7 := Q6.below hb7; clear hb7)
  clear x0 x1 xl V7 C6 Q6 h7 m7
  have U8b : Below w7.heap.size w7 (w7.alloc (.cells #[.int .i64 u.k, .int .i64 u.n] 24)) := (Below.refl _ _).alloc (Nat.le_refl _) _
  have U8 : Blk w (w7.alloc (.cells #[.int .i64 u.k, .int .i64 u.n] 24)) w7.heap.size 24 #[.int .i64 u.k, .int .i64 u.n] := Blk.new h8.bel.size _ (by decide)
  have h9 := h8.below U8b
  have m9 := m8.below U8b
  have Q8 := Q7.below U8b
  generalize w7.alloc (.cells #[.int .i64 u.k, .int .i64 u.n] 24) = w8 at U8 h9 m9 Q8 ⊢
  generalize w7.heap.size = ub at U8 ⊢
  clear U8b
  have x0 : w8.cell? ⟨ub, 0, none⟩ = some (.int .i64 u.k) := U8.cell 0
  have x1 : w8.cell? ⟨ub, 1, none⟩ = some (.int .i64 u.n) := U8.cell 1
  have xl := U8.lt
  have i113 : IntKind.i64.wrap (113 + (f : Int)) = 113 + (f : Int) := by rw [IntKind.wrap_i64]; omega
  have i97 : IntKind.i64.wrap (97 + (f : Int)) = 97 + (f : Int) := by rw [IntKind.wrap_i64]; omega
  have hU2 := u64_word u.k u.n
  obtain ⟨wd2, hwd2⟩ : ∃ wd2, F.Plain.word u.k u.n = wd2 := ⟨_, rfl⟩
  rw [hwd2] at hU2
  go_wp2_with (first
    | (go_at_call 19; refine (F.rWord u.k u.n _).mono ?_; rintro e w10 ⟨rfl, m10, hw10⟩; rw [hwd2]; have hb10 : Below w8.heap.size w8 w10 := (by rw [hw10]; exact F.bdr ((Below.refl _ _).alloc (Nat.le_refl _) _) _); have h10 := h9.below hb10; have m11 := m9.below hb10; have Q10 := Q8.below hb10; have U10 := U8.below hb10; clear hw10 hb10)
    | (go_at_call 18; refine (tStore h10 (by omega) (113 + (f : Int)) hU2).mono ?_; rintro e w11 ⟨rfl, h11, o11⟩; rw [← hwd2, show F.Plain.word u.k u.n = u.w from rfl, hS1] at h11; have m12 := m11.oth0 o11; have Q11 := Q10.oth o11 (by simp); have U11 := U10.oth o11 (by simp); clear o11))
  clear x0 x1 xl h8 h9 h10 m8 m9 m11 Q7 Q8 Q10 U8 U10
  go_loopw [12, 13] (fun dn i wr => ∃ j : Nat, j ≤ d ∧ i = .int .i64 j ∧ dn = .bool (runC (Cw.hd (Rq.mk 2 96 f vx vy) sh fx) S1 j).1.done ∧ Two w wr b y (runC (Cw.hd (Rq.mk 2 96 f vx vy) sh fx) S1 j).2 S (21 + j) ∧ Cm w wr p (runC (Cw.hd (Rq.mk 2 96 f vx vy) sh fx) S1 j).1 ∧ Blk w wr rb 48 #[.int .i64 2, .int .i64 96, .int .i64 f, .int .i64 vx.k, .int .i64 vx.n, .int .i64 vy.k, .int .i64 vy.n] ∧ Blk w wr ub 24 #[.int .i64 u.k, .int .i64 u.n]) (fun _ i _ => 12 - (intOf i).toNat)
  case atStart => exact ⟨0, Nat.zero_le _, rfl, rfl, h11, m12, Q11, U11⟩
  case round =>
    clear h11 m12 Q11 U11
    obtain ⟨j, hj, rfl, rfl, k1, k2, k3, k9⟩ := hrel
    rcases Nat.lt_or_ge j d with hjd | hjd
    · have hdn : (runC (Cw.hd (Rq.mk 2 96 f vx vy) sh fx) S1 j).1.done = false := E.not j hjd
      have hji : (j : Int) < 12 := by omega
      obtain ⟨XX, hX⟩ : ∃ X, (runC (Cw.hd (Rq.mk 2 96 f vx vy) sh fx) S1 j).1 = X := ⟨_, rfl⟩
      obtain ⟨SX, hSX⟩ : ∃ X, (runC (Cw.hd (Rq.mk 2 96 f vx vy) sh fx) S1 j).2 = X := ⟨_, rfl⟩
      rw [hX] at k2 hdn
      rw [hSX] at k1
      rw [hX, hdn]
      obtain ⟨cx, Bx'⟩ := k2.blk
      go_wp2_with (go_at_call 13; refine (tC k1 k2 (by omega)).mono ?_; rintro e w20 ⟨rfl, k4, k5, o6⟩; have k6 := k3.oth o6 (by simpa using k3.ne Bx' (by decide)); have k10 := k9.oth o6 (by simpa using k9.ne Bx' (by decide)))
      go_roundw
      case rel => exact ⟨j + 1, by omega, by go_num, by simp only [runC, hX, hSX], by simp only [runC, hX, hSX]; exact k4, by simp only [runC, hX, hSX]; exact k5, k6, k10⟩
      case measure => simp [intOf]; omega
    · obtain rfl : j = d := by omega
      have hdn : (runC (Cw.hd (Rq.mk 2 96 f vx vy) sh fx) S1 j).1.done = true := by rw [E.at_]; rfl
      rw [hdn]
      rw [E.at_] at k1 k2
      simp only at k1 k2
      have hji : (j : Int) < 12 := by omega
      have g0 : wr.cell? ⟨ub, 0, none⟩ = some (.int .i64 u.k) := k9.cell 0
      have g1 : wr.cell? ⟨ub, 1, none⟩ = some (.int .i64 u.n) := k9.cell 1
      have gl := k9.lt
      have f0 := fOut0
      have f2 := fOut2
      obtain ⟨ov, hov⟩ : ∃ v, (Cw.fin hit' o').o.v = v := ⟨_, rfl⟩
      go_upto_region 18 with (fail)
      clear g0 g1 gl
      have hun' : ub ≠ wr.heap.size := by have := k9.lt; omega
      have N1b : Below wr.heap.size wr (wr.alloc (.cells #[.int .i64 u.k, .int .i64 u.n] 24)) := (Below.refl _ _).alloc (Nat.le_refl _) _
      have N1 : Blk w (wr.alloc (.cells #[.int .i64 u.k, .int .i64 u.n] 24)) wr.heap.size 24 #[.int .i64 u.k, .int .i64 u.n] := Blk.new k1.bel.size _ (by decide)
      have t1 := k1.below N1b
      have m1 := k2.below N1b
      have R1 := k3.below N1b
      have U1 := k9.below N1b
      generalize wr.alloc (.cells #[.int .i64 u.k, .int .i64 u.n] 24) = w21 at N1 t1 m1 R1 U1 ⊢
      generalize wr.heap.size = nb at N1 hun' ⊢
      have hun : ub ≠ nb := hun'
      clear hun'
      clear N1b
      have r0 : w21.cell? ⟨rb, 0, none⟩ = some (.int .i64 2) := R1.cell 0
      have r1 : w21.cell? ⟨rb, 1, none⟩ = some (.int .i64 96) := R1.cell 1
      have r2 : w21.cell? ⟨rb, 2, none⟩ = some (.int .i64 f) := R1.cell 2
      have r3 : w21.cell? ⟨rb, 3, none⟩ = some (.int .i64 vx.k) := R1.cell 3
      have r4 : w21.cell? ⟨rb, 4, none⟩ = some (.int .i64 vx.n) := R1.cell 4
      have r5 : w21.cell? ⟨rb, 5, none⟩ = some (.int .i64 vy.k) := R1.cell 5
      have r6 : w21.cell? ⟨rb, 6, none⟩ = some (.int .i64 vy.n) := R1.cell 6
      have us0 : w21.cell? ⟨ub, 0, none⟩ = some (.int .i64 u.k) := U1.cell 0
      have usf0 := U1.free 0
      have us1 : w21.cell? ⟨ub, 1, none⟩ = some (.int .i64 u.n) := U1.cell 1
      have usf1 := U1.free 1
      have ns0 : w21.cell? ⟨nb, 0, none⟩ = some (.int .i64 u.k) := N1.cell 0
      have nsf0 := N1.free 0
      have ns1 : w21.cell? ⟨nb, 1, none⟩ = some (.int .i64 u.n) := N1.cell 1
      have nsf1 := N1.free 1
      have rl := R1.lt
      have ul := U1.lt
      have nl := N1.lt
      go_upto_region 20 with (fail)
      clear r0 r1 r2 r3 r4 r5 r6 us0 usf0 us1 usf1 ns0 nsf0 ns1 nsf1 rl ul nl
      have KN : Kept [nb] w21 ((w21.setCell ⟨nb, 0, none⟩ (.int .i64 vy.k)).setCell ⟨nb, 1, none⟩ (.int .i64 vy.n)) := (Kept.setCell [nb] _ _ _ (by simp)).trans (Kept.setCell [nb] _ _ _ (by simp)) (fun _ h => .inl h)
      have t2 := to_twoB t1 KN N1
      have N2 : Blk w ((w21.setCell ⟨nb, 0, none⟩ (.int .i64 vy.k)).setCell ⟨nb, 1, none⟩ (.int .i64 vy.n)) nb 24 #[.int .i64 vy.k, .int .i64 vy.n] := (N1.set 0 _).set 1 _
      have R2 := R1.oth (Oth.kept KN) (by simpa using R1.ne N1 (by decide))
      have U2 := U1.oth (Oth.kept KN) (by simpa using hun)
      obtain ⟨cx7, Bx7⟩ := m1.blk
      have m2 := m1.fin (Oth.kept KN) (by simpa using Bx7.ne N1 (by decide))
      generalize (w21.setCell ⟨nb, 0, none⟩ (.int .i64 vy.k)).setCell ⟨nb, 1, none⟩ (.int .i64 vy.n) = w22 at t2 N2 R2 U2 m2 ⊢
      clear KN Bx7
      obtain ⟨vyw, hvyw⟩ : ∃ v, vy.w = v := ⟨_, rfl⟩
      have hUw : U64 vyw := hvyw ▸ vy.u64
      have hkw : F.Plain.kind vyw = vy.k := by rw [← hvyw]; exact congrArg Vl.k gy.of
      have hnw : F.Plain.num vyw = vy.n := by rw [← hvyw]; exact congrArg Vl.n gy.of
      have hgf : s'.got (97 + (f : Int)) = 72 := by rw [M'.gota hf3]; exact h72 f hf3
      have hgc : (s'.load (97 + (f : Int))).got (113 + (f : Int)) = vyw := by rw [(M'.load (in_a hf3)).gotc hf3, hwant', hvyw]
      have ev := eqVal_t (a := vy) (b := vy) rfl
      have bq := beqFF
      have hbd : Below w22.heap.size w22 w22.drew := (Below.refl _ _).drew
      have TT0 := t2.below hbd
      have MM0 := m2.below hbd
      have NN0 := N2.below hbd
      have RR0 := R2.below hbd
      have UU0 := U2.below hbd
      refine wp_region_noPanic ?_
      refine wp_region_held_drew (S := fun w' => w'.cell? ⟨nb, 0, none⟩ = some (.int .i64 vy.k) ∧ w'.cell? ⟨nb, 1, none⟩ = some (.int .i64 vy.n) ∧ w'.cell? ⟨rb, 0, none⟩ = some (.int .i64 2) ∧ w'.cell? ⟨rb, 3, none⟩ = some (.int .i64 vx.k) ∧ w'.cell? ⟨rb, 4, none⟩ = some (.int .i64 vx.n) ∧ w'.cell? ⟨ub, 0, none⟩ = some (.int .i64 u.k) ∧ w'.cell? ⟨ub, 1, none⟩ = some (.int .i64 u.n)) (by kernel_rfl) ⟨NN0.cell 0, NN0.cell 1, RR0.cell 0, RR0.cell 3, RR0.cell 4, UU0.cell 0, UU0.cell 1⟩ (fun hHeld => ?_)
      refine takeH (i := 0) 87 (.bool true) rfl rfl (by kernel_rfl) (by kernel_rfl) (by kernel_rfl) (fun _ _ _ h => h) (by rfl) ?_ (by assumption) ?_
      · intro w hSw; (try dsimp only at hSw); go_simp
      simp only [List.setIfInBounds_toArray, List.set_cons_zero, List.set_cons_succ]
      refine takeH (i := 1) 88 (.bool true) rfl rfl (by kernel_rfl) (by kernel_rfl) (by kernel_rfl) (fun _ _ _ h => h) (by rfl) ?_ (by assumption) ?_
      · intro w hSw; (try dsimp only at hSw); go_simp
      simp only [List.setIfInBounds_toArray, List.set_cons_zero, List.set_cons_succ]
      refine takeH (i := 2) 89 (pt p) rfl rfl (by kernel_rfl) (by kernel_rfl) (by kernel_rfl) (fun _ _ _ h => h) (by rfl) ?_ (by assumption) ?_
      · intro w hSw; (try dsimp only at hSw); go_simp
      simp only [List.setIfInBounds_toArray, List.set_cons_zero, List.set_cons_succ]
      refine wpAnyH_ready (rs := [3]) (by kernel_rfl) (by simp) ?_
      refine AllReadyH.cons rfl (fun K hK => ?_) AllReadyH.nil
      go_simp
      refine (cCResult MM0).mono ?_
      rintro e w31 ⟨rfl, hb31⟩
      rw [show (Cw.fin hit' o').o.val = .agg #[.int .i64 0, .int .i64 ov.k, .int .i64 ov.n, .bool false] by rw [← hov]; exact outv hC hyes]
      have TT1 := TT0.below hb31
      have NN1 := NN0.below hb31
      have RR1 := RR0.below hb31
      have UU1 := UU0.below hb31
      have MM1 := MM0.below hb31
      clear hb31
      refine hK.out _ _ ⟨NN1.cell 0, NN1.cell 1, RR1.cell 0, RR1.cell 3, RR1.cell 4, UU1.cell 0, UU1.cell 1⟩ (fun hHeld => ?_)
      clear hK K
      try simp only [Act.put, List.setIfInBounds_toArray, List.set_cons_zero, List.set_cons_succ]
      refine takeH (i := 4) 91 (.int .i64 0) rfl rfl (by kernel_rfl) (by kernel_rfl) (by kernel_rfl) (fun _ _ _ h => h) (by rfl) ?_ (by assumption) ?_
      · intro w hSw; (try dsimp only at hSw); go_simp
      simp only [List.setIfInBounds_toArray, List.set_cons_zero, List.set_cons_succ]
      refine takeH (i := 5) 92 (.bool true) rfl rfl (by kernel_rfl) (by kernel_rfl) (by kernel_rfl) (fun _ _ _ h => h) (by rfl) ?_ (by assumption) ?_
      · intro w hSw; (try dsimp only at hSw); go_simp
      simp only [List.setIfInBounds_toArray, List.set_cons_zero, List.set_cons_succ]
      refine takeH (i := 6) 93 (.bool true) rfl rfl (by kernel_rfl) (by kernel_rfl) (by kernel_rfl) (fun _ _ _ h => h) (by rfl) ?_ (by assumption) ?_
      · intro w hSw; (try dsimp only at hSw); go_simp
      simp only [List.setIfInBounds_toArray, List.set_cons_zero, List.set_cons_succ]
      refine takeH (i := 7) 94 (.bool true) rfl rfl (by kernel_rfl) (by kernel_rfl) (by kernel_rfl) (fun _ _ _ h => h) (by rfl) ?_ (by assumption) ?_
      · intro w hSw; (try dsimp only at hSw); go_simp
      simp only [List.setIfInBounds_toArray, List.set_cons_zero, List.set_cons_succ]
      refine takeH (i := 8) 95 (pt b) rfl rfl (by kernel_rfl) (by kernel_rfl) (by kernel_rfl) (fun _ _ _ h => h) (by rfl) ?_ (by assumption) ?_
      · intro w hSw; (try dsimp only at hSw); go_simp
      simp only [List.setIfInBounds_toArray, List.set_cons_zero, List.set_cons_succ]
      refine takeH (i := 9) 96 (.int .i64 f) rfl rfl (by kernel_rfl) (by kernel_rfl) (by kernel_rfl) (fun _ _ _ h => h) (by rfl) ?_ (by assumption) ?_
      · intro w hSw; (try dsimp only at hSw); go_simp
      simp only [List.setIfInBounds_toArray, List.set_cons_zero, List.set_cons_succ]
      refine takeH (i := 10) 97 (.int .i64 (97 + f)) rfl rfl (by kernel_rfl) (by kernel_rfl) (by kernel_rfl) (fun _ _ _ h => h) (by rfl) ?_ (by assumption) ?_
      · intro w hSw; (try dsimp only at hSw); go_simp
      simp only [List.setIfInBounds_toArray, List.set_cons_zero, List.set_cons_succ]
      refine wpAnyH_ready (rs := [11]) (by kernel_rfl) (by simp) ?_
      refine AllReadyH.cons rfl (fun K hK => ?_) AllReadyH.nil
      go_simp
      refine (tLoad TT1 (by omega) (97 + (f : Int))).mono ?_
      rintro e w32 ⟨rfl, TT2, o32⟩
      rw [hgf]
      have NN2 := NN1.oth o32 (by simp)
      have RR2 := RR1.oth o32 (by simp)
      have UU2 := UU1.oth o32 (by simp)
      have MM2 := MM1.oth0 o32
      clear o32
      refine hK.out _ _ ⟨NN2.cell 0, NN2.cell 1, RR2.cell 0, RR2.cell 3, RR2.cell 4, UU2.cell 0, UU2.cell 1⟩ (fun hHeld => ?_)
      clear hK K
      try simp only [Act.put, List.setIfInBounds_toArray, List.set_cons_zero, List.set_cons_succ]
      refine wpAnyH_ready (rs := [12]) (by kernel_rfl) (by simp) ?_
      refine AllReadyH.cons rfl (fun K hK => ?_) AllReadyH.nil
      go_simp
      refine (cSent _).mono ?_
      rintro e w33 ⟨rfl, hb33⟩
      have TT3 := TT2.below hb33
      have NN3 := NN2.below hb33
      have RR3 := RR2.below hb33
      have UU3 := UU2.below hb33
      have MM3 := MM2.below hb33
      clear hb33
      refine hK.out _ _ ⟨NN3.cell 0, NN3.cell 1, RR3.cell 0, RR3.cell 3, RR3.cell 4, UU3.cell 0, UU3.cell 1⟩ (fun hHeld => ?_)
      clear hK K
      try simp only [Act.put, List.setIfInBounds_toArray, List.set_cons_zero, List.set_cons_succ]
      refine takeH (i := 13) 100 (.bool true) rfl rfl (by kernel_rfl) (by kernel_rfl) (by kernel_rfl) (fun _ _ _ h => h) (by rfl) ?_ (by assumption) ?_
      · intro w hSw; (try dsimp only at hSw); go_simp
      simp only [List.setIfInBounds_toArray, List.set_cons_zero, List.set_cons_succ]
      refine takeH (i := 14) 101 (.bool true) rfl rfl (by kernel_rfl) (by kernel_rfl) (by kernel_rfl) (fun _ _ _ h => h) (by rfl) ?_ (by assumption) ?_
      · intro w hSw; (try dsimp only at hSw); go_simp
      simp only [List.setIfInBounds_toArray, List.set_cons_zero, List.set_cons_succ]
      refine takeH (i := 15) 102 (.bool true) rfl rfl (by kernel_rfl) (by kernel_rfl) (by kernel_rfl) (fun _ _ _ h => h) (by rfl) ?_ (by assumption) ?_
      · intro w hSw; (try dsimp only at hSw); go_simp
      simp only [List.setIfInBounds_toArray, List.set_cons_zero, List.set_cons_succ]
      refine takeH (i := 16) 103 (pt b) rfl rfl (by kernel_rfl) (by kernel_rfl) (by kernel_rfl) (fun _ _ _ h => h) (by rfl) ?_ (by assumption) ?_
      · intro w hSw; (try dsimp only at hSw); go_simp
      simp only [List.setIfInBounds_toArray, List.set_cons_zero, List.set_cons_succ]
      refine takeH (i := 17) 104 (.int .i64 f) rfl rfl (by kernel_rfl) (by kernel_rfl) (by kernel_rfl) (fun _ _ _ h => h) (by rfl) ?_ (by assumption) ?_
      · intro w hSw; (try dsimp only at hSw); go_simp
      simp only [List.setIfInBounds_toArray, List.set_cons_zero, List.set_cons_succ]
      refine takeH (i := 18) 105 (.int .i64 (113 + f)) rfl rfl (by kernel_rfl) (by kernel_rfl) (by kernel_rfl) (fun _ _ _ h => h) (by rfl) ?_ (by assumption) ?_
      · intro w hSw; (try dsimp only at hSw); go_simp
      simp only [List.setIfInBounds_toArray, List.set_cons_zero, List.set_cons_succ]
      refine takeH (i := 21) 108 (.agg #[.int .i64 vy.k, .int .i64 vy.n]) rfl rfl (by kernel_rfl) (by kernel_rfl) (by kernel_rfl) (fun _ _ _ h => h) (by rfl) ?_ (by assumption) ?_
      · intro w hSw; (try dsimp only at hSw); go_simp
      simp only [List.setIfInBounds_toArray, List.set_cons_zero, List.set_cons_succ]
      refine wpAnyH_ready (rs := [19]) (by kernel_rfl) (by simp) ?_
      refine AllReadyH.cons rfl (fun K hK => ?_) AllReadyH.nil
      go_simp
      refine (tLoad TT3 (by omega) (113 + (f : Int))).mono ?_
      rintro e w34 ⟨rfl, TT4, o34⟩
      rw [hgc]
      have NN4 := NN3.oth o34 (by simp)
      have RR4 := RR3.oth o34 (by simp)
      have UU4 := UU3.oth o34 (by simp)
      have MM4 := MM3.oth0 o34
      clear o34
      refine hK.out _ _ ⟨NN4.cell 0, NN4.cell 1, RR4.cell 0, RR4.cell 3, RR4.cell 4, UU4.cell 0, UU4.cell 1⟩ (fun hHeld => ?_)
      clear hK K
      try simp only [Act.put, List.setIfInBounds_toArray, List.set_cons_zero, List.set_cons_succ]
      refine wpAnyH_ready (rs := [20]) (by kernel_rfl) (by simp) ?_
      refine AllReadyH.cons rfl (fun K hK => ?_) AllReadyH.nil
      go_simp
      refine (F.rOf vyw hUw.1 hUw.2 _).mono ?_
      rintro e w35 ⟨rfl, hw35⟩
      rw [hkw, hnw] at hw35 ⊢
      have hb35 : Below w34.heap.size w34 w35 := (by rw [hw35]; go_grown)
      have TT5 := TT4.below hb35
      have NN5 := NN4.below hb35
      have RR5 := RR4.below hb35
      have UU5 := UU4.below hb35
      have MM5 := MM4.below hb35
      clear hw35 hb35
      refine hK.out _ _ ⟨NN5.cell 0, NN5.cell 1, RR5.cell 0, RR5.cell 3, RR5.cell 4, UU5.cell 0, UU5.cell 1⟩ (fun hHeld => ?_)
      clear hK K
      try simp only [Act.put, List.setIfInBounds_toArray, List.set_cons_zero, List.set_cons_succ]
      refine takeH (i := 22) 109 (.bool true) rfl rfl (by kernel_rfl) (by kernel_rfl) (by kernel_rfl) (fun _ _ _ h => h) (by rfl) ?_ (by assumption) ?_
      · intro w hSw; (try dsimp only at hSw); go_simp
      simp only [List.setIfInBounds_toArray, List.set_cons_zero, List.set_cons_succ]
      refine takeH (i := 23) 110 (.bool true) rfl rfl (by kernel_rfl) (by kernel_rfl) (by kernel_rfl) (fun _ _ _ h => h) (by rfl) ?_ (by assumption) ?_
      · intro w hSw; (try dsimp only at hSw); go_simp
      simp only [List.setIfInBounds_toArray, List.set_cons_zero, List.set_cons_succ]
      refine takeH (i := 24) 111 (.bool true) rfl rfl (by kernel_rfl) (by kernel_rfl) (by kernel_rfl) (fun _ _ _ h => h) (by rfl) ?_ (by assumption) ?_
      · intro w hSw; (try dsimp only at hSw); go_simp
      simp only [List.setIfInBounds_toArray, List.set_cons_zero, List.set_cons_succ]
      refine takeH (i := 25) 112 (pt p) rfl rfl (by kernel_rfl) (by kernel_rfl) (by kernel_rfl) (fun _ _ _ h => h) (by rfl) ?_ (by assumption) ?_
      · intro w hSw; (try dsimp only at hSw); go_simp
      simp only [List.setIfInBounds_toArray, List.set_cons_zero, List.set_cons_succ]
      refine takeH (i := 28) 115 (pt rb) rfl rfl (by kernel_rfl) (by kernel_rfl) (by kernel_rfl) (fun _ _ _ h => h) (by rfl) ?_ (by assumption) ?_
      · intro w hSw; (try dsimp only at hSw); go_simp
      simp only [List.setIfInBounds_toArray, List.set_cons_zero, List.set_cons_succ]
      refine takeH (i := 29) 116 (.int .i64 2) rfl rfl (by kernel_rfl) (by kernel_rfl) (by kernel_rfl) (fun _ _ _ h => h) (by rfl) ?_ (by assumption) ?_
      · intro w hSw; (try dsimp only at hSw); go_simp
      simp only [List.setIfInBounds_toArray, List.set_cons_zero, List.set_cons_succ]
      refine takeH (i := 30) 117 (.bool false) rfl rfl (by kernel_rfl) (by kernel_rfl) (by kernel_rfl) (fun _ _ _ h => h) (by rfl) ?_ (by assumption) ?_
      · intro w hSw; (try dsimp only at hSw); go_simp
      simp only [List.setIfInBounds_toArray, List.set_cons_zero, List.set_cons_succ]
      refine wpAnyH_ready (rs := [26]) (by kernel_rfl) (by simp) ?_
      refine AllReadyH.cons rfl (fun K hK => ?_) AllReadyH.nil
      go_simp
      refine (cCResult MM5).mono ?_
      rintro e w36 ⟨rfl, hb36⟩
      rw [show (Cw.fin hit' o').o.val = .agg #[.int .i64 0, .int .i64 ov.k, .int .i64 ov.n, .bool false] by rw [← hov]; exact outv hC hyes]
      have TT6 := TT5.below hb36
      have NN6 := NN5.below hb36
      have RR6 := RR5.below hb36
      have UU6 := UU5.below hb36
      have MM6 := MM5.below hb36
      clear hb36
      refine hK.out _ _ ⟨NN6.cell 0, NN6.cell 1, RR6.cell 0, RR6.cell 3, RR6.cell 4, UU6.cell 0, UU6.cell 1⟩ (fun hHeld => ?_)
      clear hK K
      try simp only [Act.put, List.setIfInBounds_toArray, List.set_cons_zero, List.set_cons_succ]
      refine takeH (i := 27) 114 (.bool false) rfl rfl (by kernel_rfl) (by kernel_rfl) (by kernel_rfl) (fun _ _ _ h => h) (by rfl) ?_ (by assumption) ?_
      · intro w hSw; (try dsimp only at hSw); go_simp
      simp only [List.setIfInBounds_toArray, List.set_cons_zero, List.set_cons_succ]
      refine takeH (i := 31) 118 (.bool false) rfl rfl (by kernel_rfl) (by kernel_rfl) (by kernel_rfl) (fun _ _ _ h => h) (by rfl) ?_ (by assumption) ?_
      · intro w hSw; (try dsimp only at hSw); go_simp
      simp only [List.setIfInBounds_toArray, List.set_cons_zero, List.set_cons_succ]
      refine skipH (i := 32) 119 rfl rfl (by kernel_rfl) (by kernel_rfl) (by kernel_rfl) (fun _ _ _ h => h) (by rfl) (by assumption) ?_
      simp only [List.setIfInBounds_toArray, List.set_cons_zero, List.set_cons_succ]
      refine skipH (i := 33) 120 rfl rfl (by kernel_rfl) (by kernel_rfl) (by kernel_rfl) (fun _ _ _ h => h) (by rfl) (by assumption) ?_
      simp only [List.setIfInBounds_toArray, List.set_cons_zero, List.set_cons_succ]
      refine skipH (i := 34) 121 rfl rfl (by kernel_rfl) (by kernel_rfl) (by kernel_rfl) (fun _ _ _ h => h) (by rfl) (by assumption) ?_
      simp only [List.setIfInBounds_toArray, List.set_cons_zero, List.set_cons_succ]
      refine skipH (i := 35) 122 rfl rfl (by kernel_rfl) (by kernel_rfl) (by kernel_rfl) (fun _ _ _ h => h) (by rfl) (by assumption) ?_
      simp only [List.setIfInBounds_toArray, List.set_cons_zero, List.set_cons_succ]
      refine takeH (i := 36) 123 (.bool false) rfl rfl (by kernel_rfl) (by kernel_rfl) (by kernel_rfl) (fun _ _ _ h => h) (by rfl) ?_ (by assumption) ?_
      · intro w hSw; (try dsimp only at hSw); go_simp
      simp only [List.setIfInBounds_toArray, List.set_cons_zero, List.set_cons_succ]
      refine takeH (i := 37) 124 (.bool true) rfl rfl (by kernel_rfl) (by kernel_rfl) (by kernel_rfl) (fun _ _ _ h => h) (by rfl) ?_ (by assumption) ?_
      · intro w hSw; (try dsimp only at hSw); go_simp
      simp only [List.setIfInBounds_toArray, List.set_cons_zero, List.set_cons_succ]
      refine takeH (i := 38) 125 (.bool true) rfl rfl (by kernel_rfl) (by kernel_rfl) (by kernel_rfl) (fun _ _ _ h => h) (by rfl) ?_ (by assumption) ?_
      · intro w hSw; (try dsimp only at hSw); go_simp
      simp only [List.setIfInBounds_toArray, List.set_cons_zero, List.set_cons_succ]
      refine takeH (i := 39) 4 (.bool true) rfl rfl (by kernel_rfl) (by kernel_rfl) (by kernel_rfl) (fun _ _ _ h => h) (by rfl) ?_ (by assumption) ?_
      · intro w hSw; (try dsimp only at hSw); go_simp
      simp only [List.setIfInBounds_toArray, List.set_cons_zero, List.set_cons_succ]
      refine wpAnyH_done (by kernel_rfl) ?_ _
      refine NoPanic.normal ?_
      go_wp2
      go_ret
      exact ⟨rfl, TT6.bel⟩
set_option maxHeartbeats 8000000 in
theorem wElse3 (c1 : Vl) (q : Op15) (w : World) (W : H.Wid w) (fc : c1.Fit) (fit : q.Fit) (hop : (reqP q).op = 3) :
    Calls Tryd.prog 4 #[.agg #[.int .i64 c1.k, .int .i64 c1.n], .agg q.cells] w fun e w' => e = .returned (.bool true) ∧ Below w.heap.size w w' := by
  obtain ⟨S, hS⟩ : ∃ S, laidS 4 2 (fldP 3 (fun _ => ⟨0, 9⟩)) = S := ⟨_, rfl⟩
  have hSl : S.ws.length = 160 := by rw [← hS]; exact laid_len _ _ _
  have M0 := laid_m6 4 2 (fldP 3 (fun _ => ⟨0, 9⟩))
  rw [hS] at M0
  obtain ⟨old, hold'⟩ : ∃ old : Nat → Int, (fun k => (fldP 3 (fun _ => ⟨0, 9⟩) k).w) = old := ⟨_, rfl⟩
  rw [hold'] at M0
  have h72 : ∀ k, k < 3 → old k = 72 := fun k hk => by rw [← hold']; simp only [fldP, if_pos hk]; decide
  have kf := kd_lt q.fd 3 (by decide)
  obtain ⟨f, hf⟩ : ∃ f : Nat, kd q.fd 3 = (f : Int) := ⟨(kd q.fd 3).toNat, by omega⟩
  rw [hf] at kf
  have hf3 : f < 3 := by omega
  have km := kd_lt q.md 3 (by decide)
  obtain ⟨mk, hmk⟩ : ∃ m, kd q.md 3 = m := ⟨_, rfl⟩
  rw [hmk] at km
  obtain ⟨md, hmd⟩ : ∃ m, 6 + mk = m := ⟨_, rfl⟩
  have imd : IntKind.i64.wrap md = md := by rw [IntKind.wrap_i64]; omega
  have gx := good_valP q.x
  have gy := good_valP q.y
  have gu := good_valP c1
  obtain ⟨vx, hvx⟩ : ∃ v, valP q.x = v := ⟨_, rfl⟩
  obtain ⟨vy, hvy⟩ : ∃ v, valP q.y = v := ⟨_, rfl⟩
  obtain ⟨u, hu⟩ : ∃ v, valP c1 = v := ⟨_, rfl⟩
  rw [hvx] at gx
  rw [hvy] at gy
  rw [hu] at gu
  obtain ⟨at0, hat0⟩ : ∃ a, (reqP q).at_ = a := ⟨_, rfl⟩
  obtain ⟨f0, hf0⟩ : ∃ a, (reqP q).fd = a := ⟨_, rfl⟩
  have hrq : (reqP q).cells = #[.int .i64 3, .int .i64 at0, .int .i64 f0, .int .i64 vx.k, .int .i64 vx.n, .int .i64 vy.k, .int .i64 vy.n] := by
    unfold Rq.cells
    rw [hop, hat0, hf0, show (reqP q).x = vx from hvx, show (reqP q).y = vy from hvy]
  obtain ⟨fx, hfx⟩ : ∃ b, (md == 8) = b := ⟨_, rfl⟩
  obtain ⟨sh, hsh⟩ : ∃ b, decide (7 ≤ md) = b := ⟨_, rfl⟩
  have hnew : Cw.new (Rq.mk 3 96 f vx vy) ⟨md, 0, 9⟩ = (Cw.hd (Rq.mk 3 96 f vx vy) sh fx) := by
    unfold Cw.new
    rw [if_neg (by simp), if_neg (by simp only; omega), hfx, hsh]
  have opo : (3 : Int) = 1 ∨ (3 : Int) = 2 ∨ (3 : Int) = 3 := by decide
  have okR : (Rq.mk 3 96 f vx vy).Ok := ⟨opo, by simp, by simp, by simp, by simp only; omega, .inr (by simp)⟩
  have ok0 : (Cw.hd (Rq.mk 3 96 f vx vy) sh fx).Ok := ⟨opo, by simp, by simp, by simp, by simp only; omega⟩
  have M1 := M0.storeC hf3 u.w
  obtain ⟨S1, hS1⟩ : ∃ s, S.store (113 + (f : Int)) u.w = s := ⟨_, rfl⟩
  rw [hS1] at M1
  obtain ⟨d, x', s', c', hd6, E, M', hwant, hC, hY⟩ := else_ends (r := (Rq.mk 3 96 f vx vy)) (u := u) M1 hf3 rfl rfl opo (h72 f hf3) gu gx (by simp [updN]) sh fx
  have hw1 : Hid (u = vx → c' f = vy.w ∧ x'.o.y = true) := fun h => ⟨hwant.trans (if_pos (.inr ⟨rfl, h⟩)), hY.trans (decide_eq_true ⟨rfl, h⟩)⟩
  have hw2 : Hid (u ≠ vx → c' f = u.w ∧ x'.o.y = false) := fun h => ⟨hwant.trans (if_neg (fun h' => h'.elim (fun h' => by simp at h') fun h' => h h'.2)), hY.trans (decide_eq_false fun h' => h h'.2)⟩
  clear hwant hY
  obtain ⟨hit', o', rfl⟩ := done_fin E.done
  have a0 : Below w.heap.size w ((w.alloc (.cells #[.int .i64 c1.k, .int .i64 c1.n] 24)).alloc (.cells q.cells 28)) := by go_grown
  have V0 : Blk w (w.alloc (.cells #[.int .i64 c1.k, .int .i64 c1.n] 24)) w.heap.size 24 #[.int .i64 c1.k, .int .i64 c1.n] := Blk.new (Nat.le_refl _) _ (by decide)
  have V1 := V0.below ((Below.refl _ _).alloc (Nat.le_refl _) (.cells q.cells 28))
  have C0 : Blk w ((w.alloc (.cells #[.int .i64 c1.k, .int .i64 c1.n] 24)).alloc (.cells q.cells 28)) (w.heap.size + 1) 28 q.cells := ⟨newAt (by simp), by omega, by decide⟩
  go_enter Tryd.func4, Tryd.ntmps4
  unfold Op15.cells
  go_upto_region 1 with (fail)
  obtain ⟨cb, hcb⟩ : ∃ cb, w.heap.size = cb := ⟨_, rfl⟩
  obtain ⟨ob, hob⟩ : ∃ ob, cb + 1 = ob := ⟨_, rfl⟩
  change Blk w ((w.alloc (.cells #[.int .i64 c1.k, .int .i64 c1.n] 24)).alloc (.cells q.cells 28)) (w.heap.size + 1) 28 q.cells at C0
  rw [hcb] at C0 V1
  rw [hob] at C0
  rw [hcb, hob]
  unfold Op15.cells at C0 a0 V1
  generalize hw0 : (w.alloc _).alloc _ = wa at C0 a0 V1 ⊢
  clear hw0 hob hcb V0
  go_upto_region 2 with (go_at_call 5; refine (cShown _ (W.on a0)).mono ?_; rintro e w1 ⟨rfl, hb1'⟩; have hb1 := bel_trans a0 hb1'; have C1 := C0.below hb1'; have V2 := V1.below hb1'; clear hb1')
  have cvA : CameV (w1.alloc (.cells #[.int .i64 0, .int .i64 9, .int .i64 0, .int .i64 9, .int .i64 0, .int .i64 9] 24)) (some ⟨w1.heap.size, 0, none⟩) 3 (fun _ => ⟨0, 9⟩) := .inr ⟨w1.heap.size, 0, rfl, by simp, fun j hj => by rcases (show j = 0 ∨ j = 1 ∨ j = 2 by omega) with rfl | rfl | rfl <;> exact ⟨by go_cell, by go_cell, ⟨by decide, by decide, by decide, by decide⟩⟩⟩
  have belA : Below w1.heap.size w1 (w1.alloc (.cells #[.int .i64 0, .int .i64 9, .int .i64 0, .int .i64 9, .int .i64 0, .int .i64 9] 24)) := by go_grown
  have bbA := bel_trans hb1 belA
  have C1a := C1.below belA
  have V2a := V2.below belA
  go_upto_region 3 with (go_at_call 7; refine (cLaid (cv' := 3) _ (W.on bbA) cvA (by decide) (by decide) (by decide) (by decide)).mono ?_; rintro e w2 ⟨b, y, rfl, h2⟩; rw [show kd 4 6 = 4 by decide, show kd 2 3 = 2 by decide, hS] at h2; have C2 := C1a.below h2.bel; have V3 := V2a.below h2.bel; have h3 := h2.lift bbA W; clear h2)
  clear cvA belA bbA C1a V2a C1 V2 C0 V1
  have d0 : w2.cell? ⟨ob, 0, none⟩ = some (.int .i64 q.ob) := C2.cell 0
  have d1 : w2.cell? ⟨ob, 1, none⟩ = some (.int .i64 q.fd) := C2.cell 1
  have d2 : w2.cell? ⟨ob, 2, none⟩ = some (.int .i64 q.ac) := C2.cell 2
  have d3 : w2.cell? ⟨ob, 3, none⟩ = some (.int .i64 q.md) := C2.cell 3
  have d4 : w2.cell? ⟨ob, 4, none⟩ = some (.int .i64 q.x.k) := C2.cell 4
  have d5 : w2.cell? ⟨ob, 5, none⟩ = some (.int .i64 q.x.n) := C2.cell 5
  have d6 : w2.cell? ⟨ob, 6, none⟩ = some (.int .i64 q.y.k) := C2.cell 6
  have d7 : w2.cell? ⟨ob, 7, none⟩ = some (.int .i64 q.y.n) := C2.cell 7
  have d8 : w2.cell? ⟨ob, 8, none⟩ = some (.int .i64 q.hS) := C2.cell 8
  have d9 : w2.cell? ⟨ob, 9, none⟩ = some (.int .i64 q.hC) := C2.cell 9
  have d10 : w2.cell? ⟨ob, 10, none⟩ = some (.int .i64 q.hN) := C2.cell 10
  have d11 : w2.cell? ⟨ob, 11, none⟩ = some (.int .i64 q.hM) := C2.cell 11
  have d12 : w2.cell? ⟨ob, 12, none⟩ = some (.int .i64 q.hG) := C2.cell 12
  have d13 : w2.cell? ⟨ob, 13, none⟩ = some (.int .i64 q.hT) := C2.cell 13
  have d14 : w2.cell? ⟨ob, 14, none⟩ = some (.int .i64 q.hL) := C2.cell 14
  have dl := C2.lt
  go_upto_region 5 with (first
    | (go_at_call 8; refine (cKind _ q.fd 3 fit.fd.1 fit.fd.2 (by decide)).mono ?_; rintro e wk ⟨rfl, hwk⟩; rw [hwk, hf]; clear hwk wk)
    | (go_at_call 17; refine (cReq q fit _).mono ?_; rintro e w3 ⟨rfl, hb3⟩; rw [hrq]; have h4 := h3.below hb3; have C3 := C2.below hb3; have V4 := V3.below hb3; clear hb3))
  clear d0 d1 d2 d3 d4 d5 d6 d7 d8 d9 d10 d11 d12 d13 d14 dl
  have Q4b : Below w3.heap.size w3 (w3.alloc (.cells #[.int .i64 3, .int .i64 at0, .int .i64 f0, .int .i64 vx.k, .int .i64 vx.n, .int .i64 vy.k, .int .i64 vy.n] 48)) := (Below.refl _ _).alloc (Nat.le_refl _) _
  have Q4 : Blk w (w3.alloc (.cells #[.int .i64 3, .int .i64 at0, .int .i64 f0, .int .i64 vx.k, .int .i64 vx.n, .int .i64 vy.k, .int .i64 vy.n] 48)) w3.heap.size 48 #[.int .i64 3, .int .i64 at0, .int .i64 f0, .int .i64 vx.k, .int .i64 vx.n, .int .i64 vy.k, .int .i64 vy.n] := Blk.new h4.bel.size _ (by decide)
  have h5 := h4.below Q4b
  have C4 := C3.below Q4b
  have V5 := V4.below Q4b
  generalize w3.alloc (.cells #[.int .i64 3, .int .i64 at0, .int .i64 f0, .int .i64 vx.k, .int .i64 vx.n, .int .i64 vy.k, .int .i64 vy.n] 48) = w4 at Q4 h5 C4 V5 ⊢
  generalize w3.heap.size = rb at Q4 ⊢
  clear Q4b
  have e1 : w4.cell? ⟨rb, 1, none⟩ = some (.int .i64 at0) := Q4.cell 1
  have e2 : w4.cell? ⟨rb, 2, none⟩ = some (.int .i64 f0) := Q4.cell 2
  have ef1 := Q4.free 1
  have ef2 := Q4.free 2
  go_upto_region 7 with (fail)
  have KQ : Kept [rb] w4 ((w4.setCell ⟨rb, 1, none⟩ (.int .i64 96)).setCell ⟨rb, 2, none⟩ (.int .i64 f)) := (Kept.setCell [rb] _ _ _ (by simp)).trans (Kept.setCell [rb] _ _ _ (by simp)) (fun _ h => .inl h)
  have Q5 : Blk w ((w4.setCell ⟨rb, 1, none⟩ (.int .i64 96)).setCell ⟨rb, 2, none⟩ (.int .i64 f)) rb 48 #[.int .i64 3, .int .i64 96, .int .i64 f, .int .i64 vx.k, .int .i64 vx.n, .int .i64 vy.k, .int .i64 vy.n] := (Q4.set 1 _).set 2 _
  have h6 := to_twoB h5 KQ Q4
  have C5 := C4.oth (Oth.kept KQ) (by simpa using C4.ne Q4 (by decide))
  have V6 := V5.oth (Oth.kept KQ) (by simpa using V5.ne Q4 (by decide))
  clear e1 e2 ef1 ef2
  generalize (w4.setCell ⟨rb, 1, none⟩ (.int .i64 96)).setCell ⟨rb, 2, none⟩ (.int .i64 f) = w5 at Q5 h6 C5 V6 ⊢
  clear KQ
  have hbd : Below w5.heap.size w5 w5.drew := (Below.refl _ _).drew
  refine wp_region_noPanic ?_
  refine wp_region_held_drew (S := fun w' => w'.cell? ⟨rb, 0, none⟩ = some (.int .i64 3) ∧ w'.cell? ⟨rb, 1, none⟩ = some (.int .i64 96) ∧ w'.cell? ⟨rb, 2, none⟩ = some (.int .i64 f) ∧ w'.cell? ⟨rb, 3, none⟩ = some (.int .i64 vx.k) ∧ w'.cell? ⟨rb, 4, none⟩ = some (.int .i64 vx.n) ∧ w'.cell? ⟨rb, 5, none⟩ = some (.int .i64 vy.k) ∧ w'.cell? ⟨rb, 6, none⟩ = some (.int .i64 vy.n) ∧ w'.cell? ⟨ob, 3, none⟩ = some (.int .i64 q.md)) (by kernel_rfl) ⟨(Q5.below hbd).cell 0, (Q5.below hbd).cell 1, (Q5.below hbd).cell 2, (Q5.below hbd).cell 3, (Q5.below hbd).cell 4, (Q5.below hbd).cell 5, (Q5.below hbd).cell 6, (C5.below hbd).cell 3⟩ (fun hHeld => ?_)
  refine takeH (i := 1) 34 (.agg #[.int .i64 3, .int .i64 96, .int .i64 f, .int .i64 vx.k, .int .i64 vx.n, .int .i64 vy.k, .int .i64 vy.n]) rfl rfl (by kernel_rfl) (by kernel_rfl) (by kernel_rfl) (fun _ _ _ h => h) (by rfl) ?_ (by assumption) ?_
  · intro w hSw; (try dsimp only at hSw); go_simp
  simp only [List.setIfInBounds_toArray, List.set_cons_zero, List.set_cons_succ]
  refine takeH (i := 2) 35 (.pointer (some ⟨ob, 3, none⟩)) rfl rfl (by kernel_rfl) (by kernel_rfl) (by kernel_rfl) (fun _ _ _ h => h) (by rfl) ?_ (by assumption) ?_
  · intro w hSw; (try dsimp only at hSw); go_simp
  simp only [List.setIfInBounds_toArray, List.set_cons_zero, List.set_cons_succ]
  refine takeH (i := 3) 36 (.int .i64 q.md) rfl rfl (by kernel_rfl) (by kernel_rfl) (by kernel_rfl) (fun _ _ _ h => h) (by rfl) ?_ (by assumption) ?_
  · intro w hSw; (try dsimp only at hSw); go_simp
  simp only [List.setIfInBounds_toArray, List.set_cons_zero, List.set_cons_succ]
  refine wpAnyH_ready (rs := [0]) (by kernel_rfl) (by simp) ?_
  refine AllReadyH.cons rfl (fun K hK => ?_) AllReadyH.nil
  go_simp
  refine (cAt _).mono ?_
  rintro e w5t ⟨rfl, hbt⟩
  have ht := (h6.below hbd).below hbt
  have Qt := (Q5.below hbd).below hbt
  have Ct := (C5.below hbd).below hbt
  have Vt := (V6.below hbd).below hbt
  refine hK.out _ _ ⟨Qt.cell 0, Qt.cell 1, Qt.cell 2, Qt.cell 3, Qt.cell 4, Qt.cell 5, Qt.cell 6, Ct.cell 3⟩ (fun hHeld => ?_)
  clear hK K
  try simp only [Act.put, List.setIfInBounds_toArray, List.set_cons_zero, List.set_cons_succ]
  refine wpAnyH_ready (rs := [4]) (by kernel_rfl) (by simp) ?_
  refine AllReadyH.cons rfl (fun K hK => ?_) AllReadyH.nil
  go_simp
  refine (cKind _ q.md 3 fit.md.1 fit.md.2 (by decide)).mono ?_
  rintro e wk ⟨rfl, hwk⟩
  rw [hwk, hmk]
  clear hwk wk
  refine hK.out _ _ ⟨Qt.cell 0, Qt.cell 1, Qt.cell 2, Qt.cell 3, Qt.cell 4, Qt.cell 5, Qt.cell 6, Ct.cell 3⟩ (fun hHeld => ?_)
  clear hK K
  try simp only [Act.put, List.setIfInBounds_toArray, List.set_cons_zero, List.set_cons_succ]
  refine takeH (i := 5) 38 (.int .i64 md) rfl rfl (by kernel_rfl) (by kernel_rfl) (by kernel_rfl) (fun _ _ _ h => h) (by rfl) ?_ (by assumption) ?_
  · intro w hSw; (try dsimp only at hSw); go_simp
  simp only [List.setIfInBounds_toArray, List.set_cons_zero, List.set_cons_succ]
  refine takeH (i := 6) 39 (.agg #[.int .i64 md, .int .i64 0, .int .i64 9]) rfl rfl (by kernel_rfl) (by kernel_rfl) (by kernel_rfl) (fun _ _ _ h => h) (by rfl) ?_ (by assumption) ?_
  · intro w hSw; (try dsimp only at hSw); go_simp
  simp only [List.setIfInBounds_toArray, List.set_cons_zero, List.set_cons_succ]
  refine wpAnyH_ready (rs := [7]) (by kernel_rfl) (by simp) ?_
  refine AllReadyH.cons rfl (fun K hK => ?_) AllReadyH.nil
  go_simp
  refine (cNewC (Rq.mk 3 96 f vx vy) ⟨md, 0, 9⟩ _ okR rfl).mono ?_
  rintro e w6 ⟨p, rfl, Mp⟩
  rw [hnew] at Mp
  have h7 := ht.below Mp.bel
  have m7 : Cm w w6 p (Cw.hd (Rq.mk 3 96 f vx vy) sh fx) := Mp.cm ht.bel.size ok0
  have Q6 := Qt.below Mp.bel
  have C6 := Ct.below Mp.bel
  have V7 := Vt.below Mp.bel
  clear Mp
  refine hK.out _ _ ⟨Q6.cell 0, Q6.cell 1, Q6.cell 2, Q6.cell 3, Q6.cell 4, Q6.cell 5, Q6.cell 6, C6.cell 3⟩ (fun hHeld => ?_)
  clear hK K
  try simp only [Act.put, List.setIfInBounds_toArray, List.set_cons_zero, List.set_cons_succ]
  refine takeH (i := 8) 10 (pt p) rfl rfl (by kernel_rfl) (by kernel_rfl) (by kernel_rfl) (fun _ _ _ h => h) (by rfl) ?_ (by assumption) ?_
  · intro w hSw; (try dsimp only at hSw); go_simp
  simp only [List.setIfInBounds_toArray, List.set_cons_zero, List.set_cons_succ]
  refine wpAnyH_done (by kernel_rfl) ?_ _
  refine NoPanic.normal ?_
  clear h3 h4 h5 h6 ht C2 C3 C4 C5 Ct Q4 Q5 Qt V3 V4 V5 V6 Vt hbd hbt
  go_upto_region 10 with (fail)
  have x0 : w6.cell? ⟨cb, 0, none⟩ = some (.int .i64 c1.k) := V7.cell 0
  have x1 : w6.cell? ⟨cb, 1, none⟩ = some (.int .i64 c1.n) := V7.cell 1
  have xl := V7.lt
  go_upto_region 11 with (go_at_call 10; refine (cVal c1 fc _).mono ?_; rintro e w7 ⟨rfl, hb7⟩; rw [hu]; have h8 := h7.below hb7; have m8 := m7.below hb7; have Q7 := Q6.below hb7; clear hb7)
  clear x0 x1 xl V7 C6 Q6 h7 m7
  have U8b : Below w7.heap.size w7 (w7.alloc (.cells #[.int .i64 u.k, .int .i64 u.n] 24)) := (Below.refl _ _).alloc (Nat.le_refl _) _
  have U8 : Blk w (w7.alloc (.cells #[.int .i64 u.k, .int .i64 u.n] 24)) w7.heap.size 24 #[.int .i64 u.k, .int .i64 u.n] := Blk.new h8.bel.size _ (by decide)
  have h9 := h8.below U8b
  have m9 := m8.below U8b
  have Q8 := Q7.below U8b
  generalize w7.alloc (.cells #[.int .i64 u.k, .int .i64 u.n] 24) = w8 at U8 h9 m9 Q8 ⊢
  generalize w7.heap.size = ub at U8 ⊢
  clear U8b
  have x0 : w8.cell? ⟨ub, 0, none⟩ = some (.int .i64 u.k) := U8.cell 0
  have x1 : w8.cell? ⟨ub, 1, none⟩ = some (.int .i64 u.n) := U8.cell 1
  have xl := U8.lt
  have i113 : IntKind.i64.wrap (113 + (f : Int)) = 113 + (f : Int) := by rw [IntKind.wrap_i64]; omega
  have i97 : IntKind.i64.wrap (97 + (f : Int)) = 97 + (f : Int) := by rw [IntKind.wrap_i64]; omega
  have hU2 := u64_word u.k u.n
  obtain ⟨wd2, hwd2⟩ : ∃ wd2, F.Plain.word u.k u.n = wd2 := ⟨_, rfl⟩
  rw [hwd2] at hU2
  go_wp2_with (first
    | (go_at_call 19; refine (F.rWord u.k u.n _).mono ?_; rintro e w10 ⟨rfl, m10, hw10⟩; rw [hwd2]; have hb10 : Below w8.heap.size w8 w10 := (by rw [hw10]; exact F.bdr ((Below.refl _ _).alloc (Nat.le_refl _) _) _); have h10 := h9.below hb10; have m11 := m9.below hb10; have Q10 := Q8.below hb10; have U10 := U8.below hb10; clear hw10 hb10)
    | (go_at_call 18; refine (tStore h10 (by omega) (113 + (f : Int)) hU2).mono ?_; rintro e w11 ⟨rfl, h11, o11⟩; rw [← hwd2, show F.Plain.word u.k u.n = u.w from rfl, hS1] at h11; have m12 := m11.oth0 o11; have Q11 := Q10.oth o11 (by simp); have U11 := U10.oth o11 (by simp); clear o11))
  clear x0 x1 xl h8 h9 h10 m8 m9 m11 Q7 Q8 Q10 U8 U10
  go_loopw [12, 13] (fun dn i wr => ∃ j : Nat, j ≤ d ∧ i = .int .i64 j ∧ dn = .bool (runC (Cw.hd (Rq.mk 3 96 f vx vy) sh fx) S1 j).1.done ∧ Two w wr b y (runC (Cw.hd (Rq.mk 3 96 f vx vy) sh fx) S1 j).2 S (21 + j) ∧ Cm w wr p (runC (Cw.hd (Rq.mk 3 96 f vx vy) sh fx) S1 j).1 ∧ Blk w wr rb 48 #[.int .i64 3, .int .i64 96, .int .i64 f, .int .i64 vx.k, .int .i64 vx.n, .int .i64 vy.k, .int .i64 vy.n] ∧ Blk w wr ub 24 #[.int .i64 u.k, .int .i64 u.n]) (fun _ i _ => 12 - (intOf i).toNat)
  case atStart => exact ⟨0, Nat.zero_le _, rfl, rfl, h11, m12, Q11, U11⟩
  case round =>
    clear h11 m12 Q11 U11
    obtain ⟨j, hj, rfl, rfl, k1, k2, k3, k9⟩ := hrel
    rcases Nat.lt_or_ge j d with hjd | hjd
    · have hdn : (runC (Cw.hd (Rq.mk 3 96 f vx vy) sh fx) S1 j).1.done = false := E.not j hjd
      have hji : (j : Int) < 12 := by omega
      obtain ⟨XX, hX⟩ : ∃ X, (runC (Cw.hd (Rq.mk 3 96 f vx vy) sh fx) S1 j).1 = X := ⟨_, rfl⟩
      obtain ⟨SX, hSX⟩ : ∃ X, (runC (Cw.hd (Rq.mk 3 96 f vx vy) sh fx) S1 j).2 = X := ⟨_, rfl⟩
      rw [hX] at k2 hdn
      rw [hSX] at k1
      rw [hX, hdn]
      obtain ⟨cx, Bx'⟩ := k2.blk
      go_wp2_with (go_at_call 13; refine (tC k1 k2 (by omega)).mono ?_; rintro e w20 ⟨rfl, k4, k5, o6⟩; have k6 := k3.oth o6 (by simpa using k3.ne Bx' (by decide)); have k10 := k9.oth o6 (by simpa using k9.ne Bx' (by decide)))
      go_roundw
      case rel => exact ⟨j + 1, by omega, by go_num, by simp only [runC, hX, hSX], by simp only [runC, hX, hSX]; exact k4, by simp only [runC, hX, hSX]; exact k5, k6, k10⟩
      case measure => simp [intOf]; omega
    · obtain rfl : j = d := by omega
      have hdn : (runC (Cw.hd (Rq.mk 3 96 f vx vy) sh fx) S1 j).1.done = true := by rw [E.at_]; rfl
      rw [hdn]
      rw [E.at_] at k1 k2
      simp only at k1 k2
      have hji : (j : Int) < 12 := by omega
      have g0 : wr.cell? ⟨ub, 0, none⟩ = some (.int .i64 u.k) := k9.cell 0
      have g1 : wr.cell? ⟨ub, 1, none⟩ = some (.int .i64 u.n) := k9.cell 1
      have gl := k9.lt
      have f0 := fOut0
      have f2 := fOut2
      obtain ⟨ov, hov⟩ : ∃ v, (Cw.fin hit' o').o.v = v := ⟨_, rfl⟩
      go_upto_region 18 with (fail)
      clear g0 g1 gl
      have hun' : ub ≠ wr.heap.size := by have := k9.lt; omega
      have N1b : Below wr.heap.size wr (wr.alloc (.cells #[.int .i64 u.k, .int .i64 u.n] 24)) := (Below.refl _ _).alloc (Nat.le_refl _) _
      have N1 : Blk w (wr.alloc (.cells #[.int .i64 u.k, .int .i64 u.n] 24)) wr.heap.size 24 #[.int .i64 u.k, .int .i64 u.n] := Blk.new k1.bel.size _ (by decide)
      have t1 := k1.below N1b
      have m1 := k2.below N1b
      have R1 := k3.below N1b
      have U1 := k9.below N1b
      generalize wr.alloc (.cells #[.int .i64 u.k, .int .i64 u.n] 24) = w21 at N1 t1 m1 R1 U1 ⊢
      generalize wr.heap.size = nb at N1 hun' ⊢
      have hun : ub ≠ nb := hun'
      clear hun'
      clear N1b
      by_cases hux : u = vx
      · have eq := eqVal_t hux
        obtain ⟨hwant', hyes⟩ := hw1.out hux
        clear hux
        have r0 : w21.cell? ⟨rb, 0, none⟩ = some (.int .i64 3) := R1.cell 0
        have r1 : w21.cell? ⟨rb, 1, none⟩ = some (.int .i64 96) := R1.cell 1
        have r2 : w21.cell? ⟨rb, 2, none⟩ = some (.int .i64 f) := R1.cell 2
        have r3 : w21.cell? ⟨rb, 3, none⟩ = some (.int .i64 vx.k) := R1.cell 3
        have r4 : w21.cell? ⟨rb, 4, none⟩ = some (.int .i64 vx.n) := R1.cell 4
        have r5 : w21.cell? ⟨rb, 5, none⟩ = some (.int .i64 vy.k) := R1.cell 5
        have r6 : w21.cell? ⟨rb, 6, none⟩ = some (.int .i64 vy.n) := R1.cell 6
        have us0 : w21.cell? ⟨ub, 0, none⟩ = some (.int .i64 u.k) := U1.cell 0
        have usf0 := U1.free 0
        have us1 : w21.cell? ⟨ub, 1, none⟩ = some (.int .i64 u.n) := U1.cell 1
        have usf1 := U1.free 1
        have ns0 : w21.cell? ⟨nb, 0, none⟩ = some (.int .i64 u.k) := N1.cell 0
        have nsf0 := N1.free 0
        have ns1 : w21.cell? ⟨nb, 1, none⟩ = some (.int .i64 u.n) := N1.cell 1
        have nsf1 := N1.free 1
        have rl := R1.lt
        have ul := U1.lt
        have nl := N1.lt
        go_upto_region 20 with (fail)
        clear r0 r1 r2 r3 r4 r5 r6 us0 usf0 us1 usf1 ns0 nsf0 ns1 nsf1 rl ul nl
        have KN : Kept [nb] w21 ((w21.setCell ⟨nb, 0, none⟩ (.int .i64 vy.k)).setCell ⟨nb, 1, none⟩ (.int .i64 vy.n)) := (Kept.setCell [nb] _ _ _ (by simp)).trans (Kept.setCell [nb] _ _ _ (by simp)) (fun _ h => .inl h)
        have t2 := to_twoB t1 KN N1
        have N2 : Blk w ((w21.setCell ⟨nb, 0, none⟩ (.int .i64 vy.k)).setCell ⟨nb, 1, none⟩ (.int .i64 vy.n)) nb 24 #[.int .i64 vy.k, .int .i64 vy.n] := (N1.set 0 _).set 1 _
        have R2 := R1.oth (Oth.kept KN) (by simpa using R1.ne N1 (by decide))
        have U2 := U1.oth (Oth.kept KN) (by simpa using hun)
        obtain ⟨cx7, Bx7⟩ := m1.blk
        have m2 := m1.fin (Oth.kept KN) (by simpa using Bx7.ne N1 (by decide))
        generalize (w21.setCell ⟨nb, 0, none⟩ (.int .i64 vy.k)).setCell ⟨nb, 1, none⟩ (.int .i64 vy.n) = w22 at t2 N2 R2 U2 m2 ⊢
        clear KN Bx7
        obtain ⟨vyw, hvyw⟩ : ∃ v, vy.w = v := ⟨_, rfl⟩
        have hUw : U64 vyw := hvyw ▸ vy.u64
        have hkw : F.Plain.kind vyw = vy.k := by rw [← hvyw]; exact congrArg Vl.k gy.of
        have hnw : F.Plain.num vyw = vy.n := by rw [← hvyw]; exact congrArg Vl.n gy.of
        have hgf : s'.got (97 + (f : Int)) = 72 := by rw [M'.gota hf3]; exact h72 f hf3
        have hgc : (s'.load (97 + (f : Int))).got (113 + (f : Int)) = vyw := by rw [(M'.load (in_a hf3)).gotc hf3, hwant', hvyw]
        have ev := eqVal_t (a := vy) (b := vy) rfl
        have bq := beqTT
        have hbd : Below w22.heap.size w22 w22.drew := (Below.refl _ _).drew
        have TT0 := t2.below hbd
        have MM0 := m2.below hbd
        have NN0 := N2.below hbd
        have RR0 := R2.below hbd
        have UU0 := U2.below hbd
        refine wp_region_noPanic ?_
        refine wp_region_held_drew (S := fun w' => w'.cell? ⟨nb, 0, none⟩ = some (.int .i64 vy.k) ∧ w'.cell? ⟨nb, 1, none⟩ = some (.int .i64 vy.n) ∧ w'.cell? ⟨rb, 0, none⟩ = some (.int .i64 3) ∧ w'.cell? ⟨rb, 3, none⟩ = some (.int .i64 vx.k) ∧ w'.cell? ⟨rb, 4, none⟩ = some (.int .i64 vx.n) ∧ w'.cell? ⟨ub, 0, none⟩ = some (.int .i64 u.k) ∧ w'.cell? ⟨ub, 1, none⟩ = some (.int .i64 u.n)) (by kernel_rfl) ⟨NN0.cell 0, NN0.cell 1, RR0.cell 0, RR0.cell 3, RR0.cell 4, UU0.cell 0, UU0.cell 1⟩ (fun hHeld => ?_)
        refine takeH (i := 0) 87 (.bool true) rfl rfl (by kernel_rfl) (by kernel_rfl) (by kernel_rfl) (fun _ _ _ h => h) (by rfl) ?_ (by assumption) ?_
        · intro w hSw; (try dsimp only at hSw); go_simp
        simp only [List.setIfInBounds_toArray, List.set_cons_zero, List.set_cons_succ]
        refine takeH (i := 1) 88 (.bool true) rfl rfl (by kernel_rfl) (by kernel_rfl) (by kernel_rfl) (fun _ _ _ h => h) (by rfl) ?_ (by assumption) ?_
        · intro w hSw; (try dsimp only at hSw); go_simp
        simp only [List.setIfInBounds_toArray, List.set_cons_zero, List.set_cons_succ]
        refine takeH (i := 2) 89 (pt p) rfl rfl (by kernel_rfl) (by kernel_rfl) (by kernel_rfl) (fun _ _ _ h => h) (by rfl) ?_ (by assumption) ?_
        · intro w hSw; (try dsimp only at hSw); go_simp
        simp only [List.setIfInBounds_toArray, List.set_cons_zero, List.set_cons_succ]
        refine wpAnyH_ready (rs := [3]) (by kernel_rfl) (by simp) ?_
        refine AllReadyH.cons rfl (fun K hK => ?_) AllReadyH.nil
        go_simp
        refine (cCResult MM0).mono ?_
        rintro e w31 ⟨rfl, hb31⟩
        rw [show (Cw.fin hit' o').o.val = .agg #[.int .i64 0, .int .i64 ov.k, .int .i64 ov.n, .bool true] by rw [← hov]; exact outv hC hyes]
        have TT1 := TT0.below hb31
        have NN1 := NN0.below hb31
        have RR1 := RR0.below hb31
        have UU1 := UU0.below hb31
        have MM1 := MM0.below hb31
        clear hb31
        refine hK.out _ _ ⟨NN1.cell 0, NN1.cell 1, RR1.cell 0, RR1.cell 3, RR1.cell 4, UU1.cell 0, UU1.cell 1⟩ (fun hHeld => ?_)
        clear hK K
        try simp only [Act.put, List.setIfInBounds_toArray, List.set_cons_zero, List.set_cons_succ]
        refine takeH (i := 4) 91 (.int .i64 0) rfl rfl (by kernel_rfl) (by kernel_rfl) (by kernel_rfl) (fun _ _ _ h => h) (by rfl) ?_ (by assumption) ?_
        · intro w hSw; (try dsimp only at hSw); go_simp
        simp only [List.setIfInBounds_toArray, List.set_cons_zero, List.set_cons_succ]
        refine takeH (i := 5) 92 (.bool true) rfl rfl (by kernel_rfl) (by kernel_rfl) (by kernel_rfl) (fun _ _ _ h => h) (by rfl) ?_ (by assumption) ?_
        · intro w hSw; (try dsimp only at hSw); go_simp
        simp only [List.setIfInBounds_toArray, List.set_cons_zero, List.set_cons_succ]
        refine takeH (i := 6) 93 (.bool true) rfl rfl (by kernel_rfl) (by kernel_rfl) (by kernel_rfl) (fun _ _ _ h => h) (by rfl) ?_ (by assumption) ?_
        · intro w hSw; (try dsimp only at hSw); go_simp
        simp only [List.setIfInBounds_toArray, List.set_cons_zero, List.set_cons_succ]
        refine takeH (i := 7) 94 (.bool true) rfl rfl (by kernel_rfl) (by kernel_rfl) (by kernel_rfl) (fun _ _ _ h => h) (by rfl) ?_ (by assumption) ?_
        · intro w hSw; (try dsimp only at hSw); go_simp
        simp only [List.setIfInBounds_toArray, List.set_cons_zero, List.set_cons_succ]
        refine takeH (i := 8) 95 (pt b) rfl rfl (by kernel_rfl) (by kernel_rfl) (by kernel_rfl) (fun _ _ _ h => h) (by rfl) ?_ (by assumption) ?_
        · intro w hSw; (try dsimp only at hSw); go_simp
        simp only [List.setIfInBounds_toArray, List.set_cons_zero, List.set_cons_succ]
        refine takeH (i := 9) 96 (.int .i64 f) rfl rfl (by kernel_rfl) (by kernel_rfl) (by kernel_rfl) (fun _ _ _ h => h) (by rfl) ?_ (by assumption) ?_
        · intro w hSw; (try dsimp only at hSw); go_simp
        simp only [List.setIfInBounds_toArray, List.set_cons_zero, List.set_cons_succ]
        refine takeH (i := 10) 97 (.int .i64 (97 + f)) rfl rfl (by kernel_rfl) (by kernel_rfl) (by kernel_rfl) (fun _ _ _ h => h) (by rfl) ?_ (by assumption) ?_
        · intro w hSw; (try dsimp only at hSw); go_simp
        simp only [List.setIfInBounds_toArray, List.set_cons_zero, List.set_cons_succ]
        refine wpAnyH_ready (rs := [11]) (by kernel_rfl) (by simp) ?_
        refine AllReadyH.cons rfl (fun K hK => ?_) AllReadyH.nil
        go_simp
        refine (tLoad TT1 (by omega) (97 + (f : Int))).mono ?_
        rintro e w32 ⟨rfl, TT2, o32⟩
        rw [hgf]
        have NN2 := NN1.oth o32 (by simp)
        have RR2 := RR1.oth o32 (by simp)
        have UU2 := UU1.oth o32 (by simp)
        have MM2 := MM1.oth0 o32
        clear o32
        refine hK.out _ _ ⟨NN2.cell 0, NN2.cell 1, RR2.cell 0, RR2.cell 3, RR2.cell 4, UU2.cell 0, UU2.cell 1⟩ (fun hHeld => ?_)
        clear hK K
        try simp only [Act.put, List.setIfInBounds_toArray, List.set_cons_zero, List.set_cons_succ]
        refine wpAnyH_ready (rs := [12]) (by kernel_rfl) (by simp) ?_
        refine AllReadyH.cons rfl (fun K hK => ?_) AllReadyH.nil
        go_simp
        refine (cSent _).mono ?_
        rintro e w33 ⟨rfl, hb33⟩
        have TT3 := TT2.below hb33
        have NN3 := NN2.below hb33
        have RR3 := RR2.below hb33
        have UU3 := UU2.below hb33
        have MM3 := MM2.below hb33
        clear hb33
        refine hK.out _ _ ⟨NN3.cell 0, NN3.cell 1, RR3.cell 0, RR3.cell 3, RR3.cell 4, UU3.cell 0, UU3.cell 1⟩ (fun hHeld => ?_)
        clear hK K
        try simp only [Act.put, List.setIfInBounds_toArray, List.set_cons_zero, List.set_cons_succ]
        refine takeH (i := 13) 100 (.bool true) rfl rfl (by kernel_rfl) (by kernel_rfl) (by kernel_rfl) (fun _ _ _ h => h) (by rfl) ?_ (by assumption) ?_
        · intro w hSw; (try dsimp only at hSw); go_simp
        simp only [List.setIfInBounds_toArray, List.set_cons_zero, List.set_cons_succ]
        refine takeH (i := 14) 101 (.bool true) rfl rfl (by kernel_rfl) (by kernel_rfl) (by kernel_rfl) (fun _ _ _ h => h) (by rfl) ?_ (by assumption) ?_
        · intro w hSw; (try dsimp only at hSw); go_simp
        simp only [List.setIfInBounds_toArray, List.set_cons_zero, List.set_cons_succ]
        refine takeH (i := 15) 102 (.bool true) rfl rfl (by kernel_rfl) (by kernel_rfl) (by kernel_rfl) (fun _ _ _ h => h) (by rfl) ?_ (by assumption) ?_
        · intro w hSw; (try dsimp only at hSw); go_simp
        simp only [List.setIfInBounds_toArray, List.set_cons_zero, List.set_cons_succ]
        refine takeH (i := 16) 103 (pt b) rfl rfl (by kernel_rfl) (by kernel_rfl) (by kernel_rfl) (fun _ _ _ h => h) (by rfl) ?_ (by assumption) ?_
        · intro w hSw; (try dsimp only at hSw); go_simp
        simp only [List.setIfInBounds_toArray, List.set_cons_zero, List.set_cons_succ]
        refine takeH (i := 17) 104 (.int .i64 f) rfl rfl (by kernel_rfl) (by kernel_rfl) (by kernel_rfl) (fun _ _ _ h => h) (by rfl) ?_ (by assumption) ?_
        · intro w hSw; (try dsimp only at hSw); go_simp
        simp only [List.setIfInBounds_toArray, List.set_cons_zero, List.set_cons_succ]
        refine takeH (i := 18) 105 (.int .i64 (113 + f)) rfl rfl (by kernel_rfl) (by kernel_rfl) (by kernel_rfl) (fun _ _ _ h => h) (by rfl) ?_ (by assumption) ?_
        · intro w hSw; (try dsimp only at hSw); go_simp
        simp only [List.setIfInBounds_toArray, List.set_cons_zero, List.set_cons_succ]
        refine takeH (i := 21) 108 (.agg #[.int .i64 vy.k, .int .i64 vy.n]) rfl rfl (by kernel_rfl) (by kernel_rfl) (by kernel_rfl) (fun _ _ _ h => h) (by rfl) ?_ (by assumption) ?_
        · intro w hSw; (try dsimp only at hSw); go_simp
        simp only [List.setIfInBounds_toArray, List.set_cons_zero, List.set_cons_succ]
        refine wpAnyH_ready (rs := [19]) (by kernel_rfl) (by simp) ?_
        refine AllReadyH.cons rfl (fun K hK => ?_) AllReadyH.nil
        go_simp
        refine (tLoad TT3 (by omega) (113 + (f : Int))).mono ?_
        rintro e w34 ⟨rfl, TT4, o34⟩
        rw [hgc]
        have NN4 := NN3.oth o34 (by simp)
        have RR4 := RR3.oth o34 (by simp)
        have UU4 := UU3.oth o34 (by simp)
        have MM4 := MM3.oth0 o34
        clear o34
        refine hK.out _ _ ⟨NN4.cell 0, NN4.cell 1, RR4.cell 0, RR4.cell 3, RR4.cell 4, UU4.cell 0, UU4.cell 1⟩ (fun hHeld => ?_)
        clear hK K
        try simp only [Act.put, List.setIfInBounds_toArray, List.set_cons_zero, List.set_cons_succ]
        refine wpAnyH_ready (rs := [20]) (by kernel_rfl) (by simp) ?_
        refine AllReadyH.cons rfl (fun K hK => ?_) AllReadyH.nil
        go_simp
        refine (F.rOf vyw hUw.1 hUw.2 _).mono ?_
        rintro e w35 ⟨rfl, hw35⟩
        rw [hkw, hnw] at hw35 ⊢
        have hb35 : Below w34.heap.size w34 w35 := (by rw [hw35]; go_grown)
        have TT5 := TT4.below hb35
        have NN5 := NN4.below hb35
        have RR5 := RR4.below hb35
        have UU5 := UU4.below hb35
        have MM5 := MM4.below hb35
        clear hw35 hb35
        refine hK.out _ _ ⟨NN5.cell 0, NN5.cell 1, RR5.cell 0, RR5.cell 3, RR5.cell 4, UU5.cell 0, UU5.cell 1⟩ (fun hHeld => ?_)
        clear hK K
        try simp only [Act.put, List.setIfInBounds_toArray, List.set_cons_zero, List.set_cons_succ]
        refine takeH (i := 22) 109 (.bool true) rfl rfl (by kernel_rfl) (by kernel_rfl) (by kernel_rfl) (fun _ _ _ h => h) (by rfl) ?_ (by assumption) ?_
        · intro w hSw; (try dsimp only at hSw); go_simp
        simp only [List.setIfInBounds_toArray, List.set_cons_zero, List.set_cons_succ]
        refine takeH (i := 23) 110 (.bool true) rfl rfl (by kernel_rfl) (by kernel_rfl) (by kernel_rfl) (fun _ _ _ h => h) (by rfl) ?_ (by assumption) ?_
        · intro w hSw; (try dsimp only at hSw); go_simp
        simp only [List.setIfInBounds_toArray, List.set_cons_zero, List.set_cons_succ]
        refine takeH (i := 24) 111 (.bool true) rfl rfl (by kernel_rfl) (by kernel_rfl) (by kernel_rfl) (fun _ _ _ h => h) (by rfl) ?_ (by assumption) ?_
        · intro w hSw; (try dsimp only at hSw); go_simp
        simp only [List.setIfInBounds_toArray, List.set_cons_zero, List.set_cons_succ]
        refine takeH (i := 25) 112 (pt p) rfl rfl (by kernel_rfl) (by kernel_rfl) (by kernel_rfl) (fun _ _ _ h => h) (by rfl) ?_ (by assumption) ?_
        · intro w hSw; (try dsimp only at hSw); go_simp
        simp only [List.setIfInBounds_toArray, List.set_cons_zero, List.set_cons_succ]
        refine takeH (i := 28) 115 (pt rb) rfl rfl (by kernel_rfl) (by kernel_rfl) (by kernel_rfl) (fun _ _ _ h => h) (by rfl) ?_ (by assumption) ?_
        · intro w hSw; (try dsimp only at hSw); go_simp
        simp only [List.setIfInBounds_toArray, List.set_cons_zero, List.set_cons_succ]
        refine takeH (i := 29) 116 (.int .i64 3) rfl rfl (by kernel_rfl) (by kernel_rfl) (by kernel_rfl) (fun _ _ _ h => h) (by rfl) ?_ (by assumption) ?_
        · intro w hSw; (try dsimp only at hSw); go_simp
        simp only [List.setIfInBounds_toArray, List.set_cons_zero, List.set_cons_succ]
        refine takeH (i := 30) 117 (.bool true) rfl rfl (by kernel_rfl) (by kernel_rfl) (by kernel_rfl) (fun _ _ _ h => h) (by rfl) ?_ (by assumption) ?_
        · intro w hSw; (try dsimp only at hSw); go_simp
        simp only [List.setIfInBounds_toArray, List.set_cons_zero, List.set_cons_succ]
        refine wpAnyH_ready (rs := [26]) (by kernel_rfl) (by simp) ?_
        refine AllReadyH.cons rfl (fun K hK => ?_) AllReadyH.nil
        go_simp
        refine (cCResult MM5).mono ?_
        rintro e w36 ⟨rfl, hb36⟩
        rw [show (Cw.fin hit' o').o.val = .agg #[.int .i64 0, .int .i64 ov.k, .int .i64 ov.n, .bool true] by rw [← hov]; exact outv hC hyes]
        have TT6 := TT5.below hb36
        have NN6 := NN5.below hb36
        have RR6 := RR5.below hb36
        have UU6 := UU5.below hb36
        have MM6 := MM5.below hb36
        clear hb36
        refine hK.out _ _ ⟨NN6.cell 0, NN6.cell 1, RR6.cell 0, RR6.cell 3, RR6.cell 4, UU6.cell 0, UU6.cell 1⟩ (fun hHeld => ?_)
        clear hK K
        try simp only [Act.put, List.setIfInBounds_toArray, List.set_cons_zero, List.set_cons_succ]
        refine takeH (i := 27) 114 (.bool true) rfl rfl (by kernel_rfl) (by kernel_rfl) (by kernel_rfl) (fun _ _ _ h => h) (by rfl) ?_ (by assumption) ?_
        · intro w hSw; (try dsimp only at hSw); go_simp
        simp only [List.setIfInBounds_toArray, List.set_cons_zero, List.set_cons_succ]
        refine takeH (i := 31) 118 (.bool true) rfl rfl (by kernel_rfl) (by kernel_rfl) (by kernel_rfl) (fun _ _ _ h => h) (by rfl) ?_ (by assumption) ?_
        · intro w hSw; (try dsimp only at hSw); go_simp
        simp only [List.setIfInBounds_toArray, List.set_cons_zero, List.set_cons_succ]
        refine takeH (i := 32) 119 (.agg #[.int .i64 u.k, .int .i64 u.n]) rfl rfl (by kernel_rfl) (by kernel_rfl) (by kernel_rfl) (fun _ _ _ h => h) (by rfl) ?_ (by assumption) ?_
        · intro w hSw; (try dsimp only at hSw); go_simp
        simp only [List.setIfInBounds_toArray, List.set_cons_zero, List.set_cons_succ]
        refine takeH (i := 33) 120 (.pointer (some ⟨rb, 3, none⟩)) rfl rfl (by kernel_rfl) (by kernel_rfl) (by kernel_rfl) (fun _ _ _ h => h) (by rfl) ?_ (by assumption) ?_
        · intro w hSw; (try dsimp only at hSw); go_simp
        simp only [List.setIfInBounds_toArray, List.set_cons_zero, List.set_cons_succ]
        refine takeH (i := 34) 121 (.agg #[.int .i64 vx.k, .int .i64 vx.n]) rfl rfl (by kernel_rfl) (by kernel_rfl) (by kernel_rfl) (fun _ _ _ h => h) (by rfl) ?_ (by assumption) ?_
        · intro w hSw; (try dsimp only at hSw); go_simp
        simp only [List.setIfInBounds_toArray, List.set_cons_zero, List.set_cons_succ]
        refine takeH (i := 35) 122 (.bool true) rfl rfl (by kernel_rfl) (by kernel_rfl) (by kernel_rfl) (fun _ _ _ h => h) (by rfl) ?_ (by assumption) ?_
        · intro w hSw; (try dsimp only at hSw); go_simp
        simp only [List.setIfInBounds_toArray, List.set_cons_zero, List.set_cons_succ]
        refine takeH (i := 36) 123 (.bool true) rfl rfl (by kernel_rfl) (by kernel_rfl) (by kernel_rfl) (fun _ _ _ h => h) (by rfl) ?_ (by assumption) ?_
        · intro w hSw; (try dsimp only at hSw); go_simp
        simp only [List.setIfInBounds_toArray, List.set_cons_zero, List.set_cons_succ]
        refine takeH (i := 37) 124 (.bool true) rfl rfl (by kernel_rfl) (by kernel_rfl) (by kernel_rfl) (fun _ _ _ h => h) (by rfl) ?_ (by assumption) ?_
        · intro w hSw; (try dsimp only at hSw); go_simp
        simp only [List.setIfInBounds_toArray, List.set_cons_zero, List.set_cons_succ]
        refine takeH (i := 38) 125 (.bool true) rfl rfl (by kernel_rfl) (by kernel_rfl) (by kernel_rfl) (fun _ _ _ h => h) (by rfl) ?_ (by assumption) ?_
        · intro w hSw; (try dsimp only at hSw); go_simp
        simp only [List.setIfInBounds_toArray, List.set_cons_zero, List.set_cons_succ]
        refine takeH (i := 39) 4 (.bool true) rfl rfl (by kernel_rfl) (by kernel_rfl) (by kernel_rfl) (fun _ _ _ h => h) (by rfl) ?_ (by assumption) ?_
        · intro w hSw; (try dsimp only at hSw); go_simp
        simp only [List.setIfInBounds_toArray, List.set_cons_zero, List.set_cons_succ]
        refine wpAnyH_done (by kernel_rfl) ?_ _
        refine NoPanic.normal ?_
        go_wp2
        go_ret
        exact ⟨rfl, TT6.bel⟩
      · have eq := eqVal_f hux
        obtain ⟨hwant', hyes⟩ := hw2.out hux
        clear hux
        have r0 : w21.cell? ⟨rb, 0, none⟩ = some (.int .i64 3) := R1.cell 0
        have r1 : w21.cell? ⟨rb, 1, none⟩ = some (.int .i64 96) := R1.cell 1
        have r2 : w21.cell? ⟨rb, 2, none⟩ = some (.int .i64 f) := R1.cell 2
        have r3 : w21.cell? ⟨rb, 3, none⟩ = some (.int .i64 vx.k) := R1.cell 3
        have r4 : w21.cell? ⟨rb, 4, none⟩ = some (.int .i64 vx.n) := R1.cell 4
        have r5 : w21.cell? ⟨rb, 5, none⟩ = some (.int .i64 vy.k) := R1.cell 5
        have r6 : w21.cell? ⟨rb, 6, none⟩ = some (.int .i64 vy.n) := R1.cell 6
        have us0 : w21.cell? ⟨ub, 0, none⟩ = some (.int .i64 u.k) := U1.cell 0
        have usf0 := U1.free 0
        have us1 : w21.cell? ⟨ub, 1, none⟩ = some (.int .i64 u.n) := U1.cell 1
        have usf1 := U1.free 1
        have ns0 : w21.cell? ⟨nb, 0, none⟩ = some (.int .i64 u.k) := N1.cell 0
        have nsf0 := N1.free 0
        have ns1 : w21.cell? ⟨nb, 1, none⟩ = some (.int .i64 u.n) := N1.cell 1
        have nsf1 := N1.free 1
        have rl := R1.lt
        have ul := U1.lt
        have nl := N1.lt
        go_upto_region 20 with (fail)
        clear r0 r1 r2 r3 r4 r5 r6 us0 usf0 us1 usf1 ns0 nsf0 ns1 nsf1 rl ul nl
        obtain ⟨uw, huw⟩ : ∃ v, u.w = v := ⟨_, rfl⟩
        have hUw : U64 uw := huw ▸ u.u64
        have hkw : F.Plain.kind uw = u.k := by rw [← huw]; exact congrArg Vl.k gu.of
        have hnw : F.Plain.num uw = u.n := by rw [← huw]; exact congrArg Vl.n gu.of
        have hgf : s'.got (97 + (f : Int)) = 72 := by rw [M'.gota hf3]; exact h72 f hf3
        have hgc : (s'.load (97 + (f : Int))).got (113 + (f : Int)) = uw := by rw [(M'.load (in_a hf3)).gotc hf3, hwant', huw]
        have ev := eqVal_t (a := u) (b := u) rfl
        have bq := beqFF
        have hbd : Below w21.heap.size w21 w21.drew := (Below.refl _ _).drew
        have TT0 := t1.below hbd
        have MM0 := m1.below hbd
        have NN0 := N1.below hbd
        have RR0 := R1.below hbd
        have UU0 := U1.below hbd
        refine wp_region_noPanic ?_
        refine wp_region_held_drew (S := fun w' => w'.cell? ⟨nb, 0, none⟩ = some (.int .i64 u.k) ∧ w'.cell? ⟨nb, 1, none⟩ = some (.int .i64 u.n) ∧ w'.cell? ⟨rb, 0, none⟩ = some (.int .i64 3) ∧ w'.cell? ⟨rb, 3, none⟩ = some (.int .i64 vx.k) ∧ w'.cell? ⟨rb, 4, none⟩ = some (.int .i64 vx.n) ∧ w'.cell? ⟨ub, 0, none⟩ = some (.int .i64 u.k) ∧ w'.cell? ⟨ub, 1, none⟩ = some (.int .i64 u.n)) (by kernel_rfl) ⟨NN0.cell 0, NN0.cell 1, RR0.cell 0, RR0.cell 3, RR0.cell 4, UU0.cell 0, UU0.cell 1⟩ (fun hHeld => ?_)
        refine takeH (i := 0) 87 (.bool true) rfl rfl (by kernel_rfl) (by kernel_rfl) (by kernel_rfl) (fun _ _ _ h => h) (by rfl) ?_ (by assumption) ?_
        · intro w hSw; (try dsimp only at hSw); go_simp
        simp only [List.setIfInBounds_toArray, List.set_cons_zero, List.set_cons_succ]
        refine takeH (i := 1) 88 (.bool true) rfl rfl (by kernel_rfl) (by kernel_rfl) (by kernel_rfl) (fun _ _ _ h => h) (by rfl) ?_ (by assumption) ?_
        · intro w hSw; (try dsimp only at hSw); go_simp
        simp only [List.setIfInBounds_toArray, List.set_cons_zero, List.set_cons_succ]
        refine takeH (i := 2) 89 (pt p) rfl rfl (by kernel_rfl) (by kernel_rfl) (by kernel_rfl) (fun _ _ _ h => h) (by rfl) ?_ (by assumption) ?_
        · intro w hSw; (try dsimp only at hSw); go_simp
        simp only [List.setIfInBounds_toArray, List.set_cons_zero, List.set_cons_succ]
        refine wpAnyH_ready (rs := [3]) (by kernel_rfl) (by simp) ?_
        refine AllReadyH.cons rfl (fun K hK => ?_) AllReadyH.nil
        go_simp
        refine (cCResult MM0).mono ?_
        rintro e w31 ⟨rfl, hb31⟩
        rw [show (Cw.fin hit' o').o.val = .agg #[.int .i64 0, .int .i64 ov.k, .int .i64 ov.n, .bool false] by rw [← hov]; exact outv hC hyes]
        have TT1 := TT0.below hb31
        have NN1 := NN0.below hb31
        have RR1 := RR0.below hb31
        have UU1 := UU0.below hb31
        have MM1 := MM0.below hb31
        clear hb31
        refine hK.out _ _ ⟨NN1.cell 0, NN1.cell 1, RR1.cell 0, RR1.cell 3, RR1.cell 4, UU1.cell 0, UU1.cell 1⟩ (fun hHeld => ?_)
        clear hK K
        try simp only [Act.put, List.setIfInBounds_toArray, List.set_cons_zero, List.set_cons_succ]
        refine takeH (i := 4) 91 (.int .i64 0) rfl rfl (by kernel_rfl) (by kernel_rfl) (by kernel_rfl) (fun _ _ _ h => h) (by rfl) ?_ (by assumption) ?_
        · intro w hSw; (try dsimp only at hSw); go_simp
        simp only [List.setIfInBounds_toArray, List.set_cons_zero, List.set_cons_succ]
        refine takeH (i := 5) 92 (.bool true) rfl rfl (by kernel_rfl) (by kernel_rfl) (by kernel_rfl) (fun _ _ _ h => h) (by rfl) ?_ (by assumption) ?_
        · intro w hSw; (try dsimp only at hSw); go_simp
        simp only [List.setIfInBounds_toArray, List.set_cons_zero, List.set_cons_succ]
        refine takeH (i := 6) 93 (.bool true) rfl rfl (by kernel_rfl) (by kernel_rfl) (by kernel_rfl) (fun _ _ _ h => h) (by rfl) ?_ (by assumption) ?_
        · intro w hSw; (try dsimp only at hSw); go_simp
        simp only [List.setIfInBounds_toArray, List.set_cons_zero, List.set_cons_succ]
        refine takeH (i := 7) 94 (.bool true) rfl rfl (by kernel_rfl) (by kernel_rfl) (by kernel_rfl) (fun _ _ _ h => h) (by rfl) ?_ (by assumption) ?_
        · intro w hSw; (try dsimp only at hSw); go_simp
        simp only [List.setIfInBounds_toArray, List.set_cons_zero, List.set_cons_succ]
        refine takeH (i := 8) 95 (pt b) rfl rfl (by kernel_rfl) (by kernel_rfl) (by kernel_rfl) (fun _ _ _ h => h) (by rfl) ?_ (by assumption) ?_
        · intro w hSw; (try dsimp only at hSw); go_simp
        simp only [List.setIfInBounds_toArray, List.set_cons_zero, List.set_cons_succ]
        refine takeH (i := 9) 96 (.int .i64 f) rfl rfl (by kernel_rfl) (by kernel_rfl) (by kernel_rfl) (fun _ _ _ h => h) (by rfl) ?_ (by assumption) ?_
        · intro w hSw; (try dsimp only at hSw); go_simp
        simp only [List.setIfInBounds_toArray, List.set_cons_zero, List.set_cons_succ]
        refine takeH (i := 10) 97 (.int .i64 (97 + f)) rfl rfl (by kernel_rfl) (by kernel_rfl) (by kernel_rfl) (fun _ _ _ h => h) (by rfl) ?_ (by assumption) ?_
        · intro w hSw; (try dsimp only at hSw); go_simp
        simp only [List.setIfInBounds_toArray, List.set_cons_zero, List.set_cons_succ]
        refine wpAnyH_ready (rs := [11]) (by kernel_rfl) (by simp) ?_
        refine AllReadyH.cons rfl (fun K hK => ?_) AllReadyH.nil
        go_simp
        refine (tLoad TT1 (by omega) (97 + (f : Int))).mono ?_
        rintro e w32 ⟨rfl, TT2, o32⟩
        rw [hgf]
        have NN2 := NN1.oth o32 (by simp)
        have RR2 := RR1.oth o32 (by simp)
        have UU2 := UU1.oth o32 (by simp)
        have MM2 := MM1.oth0 o32
        clear o32
        refine hK.out _ _ ⟨NN2.cell 0, NN2.cell 1, RR2.cell 0, RR2.cell 3, RR2.cell 4, UU2.cell 0, UU2.cell 1⟩ (fun hHeld => ?_)
        clear hK K
        try simp only [Act.put, List.setIfInBounds_toArray, List.set_cons_zero, List.set_cons_succ]
        refine wpAnyH_ready (rs := [12]) (by kernel_rfl) (by simp) ?_
        refine AllReadyH.cons rfl (fun K hK => ?_) AllReadyH.nil
        go_simp
        refine (cSent _).mono ?_
        rintro e w33 ⟨rfl, hb33⟩
        have TT3 := TT2.below hb33
        have NN3 := NN2.below hb33
        have RR3 := RR2.below hb33
        have UU3 := UU2.below hb33
        have MM3 := MM2.below hb33
        clear hb33
        refine hK.out _ _ ⟨NN3.cell 0, NN3.cell 1, RR3.cell 0, RR3.cell 3, RR3.cell 4, UU3.cell 0, UU3.cell 1⟩ (fun hHeld => ?_)
        clear hK K
        try simp only [Act.put, List.setIfInBounds_toArray, List.set_cons_zero, List.set_cons_succ]
        refine takeH (i := 13) 100 (.bool true) rfl rfl (by kernel_rfl) (by kernel_rfl) (by kernel_rfl) (fun _ _ _ h => h) (by rfl) ?_ (by assumption) ?_
        · intro w hSw; (try dsimp only at hSw); go_simp
        simp only [List.setIfInBounds_toArray, List.set_cons_zero, List.set_cons_succ]
        refine takeH (i := 14) 101 (.bool true) rfl rfl (by kernel_rfl) (by kernel_rfl) (by kernel_rfl) (fun _ _ _ h => h) (by rfl) ?_ (by assumption) ?_
        · intro w hSw; (try dsimp only at hSw); go_simp
        simp only [List.setIfInBounds_toArray, List.set_cons_zero, List.set_cons_succ]
        refine takeH (i := 15) 102 (.bool true) rfl rfl (by kernel_rfl) (by kernel_rfl) (by kernel_rfl) (fun _ _ _ h => h) (by rfl) ?_ (by assumption) ?_
        · intro w hSw; (try dsimp only at hSw); go_simp
        simp only [List.setIfInBounds_toArray, List.set_cons_zero, List.set_cons_succ]
        refine takeH (i := 16) 103 (pt b) rfl rfl (by kernel_rfl) (by kernel_rfl) (by kernel_rfl) (fun _ _ _ h => h) (by rfl) ?_ (by assumption) ?_
        · intro w hSw; (try dsimp only at hSw); go_simp
        simp only [List.setIfInBounds_toArray, List.set_cons_zero, List.set_cons_succ]
        refine takeH (i := 17) 104 (.int .i64 f) rfl rfl (by kernel_rfl) (by kernel_rfl) (by kernel_rfl) (fun _ _ _ h => h) (by rfl) ?_ (by assumption) ?_
        · intro w hSw; (try dsimp only at hSw); go_simp
        simp only [List.setIfInBounds_toArray, List.set_cons_zero, List.set_cons_succ]
        refine takeH (i := 18) 105 (.int .i64 (113 + f)) rfl rfl (by kernel_rfl) (by kernel_rfl) (by kernel_rfl) (fun _ _ _ h => h) (by rfl) ?_ (by assumption) ?_
        · intro w hSw; (try dsimp only at hSw); go_simp
        simp only [List.setIfInBounds_toArray, List.set_cons_zero, List.set_cons_succ]
        refine takeH (i := 21) 108 (.agg #[.int .i64 u.k, .int .i64 u.n]) rfl rfl (by kernel_rfl) (by kernel_rfl) (by kernel_rfl) (fun _ _ _ h => h) (by rfl) ?_ (by assumption) ?_
        · intro w hSw; (try dsimp only at hSw); go_simp
        simp only [List.setIfInBounds_toArray, List.set_cons_zero, List.set_cons_succ]
        refine wpAnyH_ready (rs := [19]) (by kernel_rfl) (by simp) ?_
        refine AllReadyH.cons rfl (fun K hK => ?_) AllReadyH.nil
        go_simp
        refine (tLoad TT3 (by omega) (113 + (f : Int))).mono ?_
        rintro e w34 ⟨rfl, TT4, o34⟩
        rw [hgc]
        have NN4 := NN3.oth o34 (by simp)
        have RR4 := RR3.oth o34 (by simp)
        have UU4 := UU3.oth o34 (by simp)
        have MM4 := MM3.oth0 o34
        clear o34
        refine hK.out _ _ ⟨NN4.cell 0, NN4.cell 1, RR4.cell 0, RR4.cell 3, RR4.cell 4, UU4.cell 0, UU4.cell 1⟩ (fun hHeld => ?_)
        clear hK K
        try simp only [Act.put, List.setIfInBounds_toArray, List.set_cons_zero, List.set_cons_succ]
        refine wpAnyH_ready (rs := [20]) (by kernel_rfl) (by simp) ?_
        refine AllReadyH.cons rfl (fun K hK => ?_) AllReadyH.nil
        go_simp
        refine (F.rOf uw hUw.1 hUw.2 _).mono ?_
        rintro e w35 ⟨rfl, hw35⟩
        rw [hkw, hnw] at hw35 ⊢
        have hb35 : Below w34.heap.size w34 w35 := (by rw [hw35]; go_grown)
        have TT5 := TT4.below hb35
        have NN5 := NN4.below hb35
        have RR5 := RR4.below hb35
        have UU5 := UU4.below hb35
        have MM5 := MM4.below hb35
        clear hw35 hb35
        refine hK.out _ _ ⟨NN5.cell 0, NN5.cell 1, RR5.cell 0, RR5.cell 3, RR5.cell 4, UU5.cell 0, UU5.cell 1⟩ (fun hHeld => ?_)
        clear hK K
        try simp only [Act.put, List.setIfInBounds_toArray, List.set_cons_zero, List.set_cons_succ]
        refine takeH (i := 22) 109 (.bool true) rfl rfl (by kernel_rfl) (by kernel_rfl) (by kernel_rfl) (fun _ _ _ h => h) (by rfl) ?_ (by assumption) ?_
        · intro w hSw; (try dsimp only at hSw); go_simp
        simp only [List.setIfInBounds_toArray, List.set_cons_zero, List.set_cons_succ]
        refine takeH (i := 23) 110 (.bool true) rfl rfl (by kernel_rfl) (by kernel_rfl) (by kernel_rfl) (fun _ _ _ h => h) (by rfl) ?_ (by assumption) ?_
        · intro w hSw; (try dsimp only at hSw); go_simp
        simp only [List.setIfInBounds_toArray, List.set_cons_zero, List.set_cons_succ]
        refine takeH (i := 24) 111 (.bool true) rfl rfl (by kernel_rfl) (by kernel_rfl) (by kernel_rfl) (fun _ _ _ h => h) (by rfl) ?_ (by assumption) ?_
        · intro w hSw; (try dsimp only at hSw); go_simp
        simp only [List.setIfInBounds_toArray, List.set_cons_zero, List.set_cons_succ]
        refine takeH (i := 25) 112 (pt p) rfl rfl (by kernel_rfl) (by kernel_rfl) (by kernel_rfl) (fun _ _ _ h => h) (by rfl) ?_ (by assumption) ?_
        · intro w hSw; (try dsimp only at hSw); go_simp
        simp only [List.setIfInBounds_toArray, List.set_cons_zero, List.set_cons_succ]
        refine takeH (i := 28) 115 (pt rb) rfl rfl (by kernel_rfl) (by kernel_rfl) (by kernel_rfl) (fun _ _ _ h => h) (by rfl) ?_ (by assumption) ?_
        · intro w hSw; (try dsimp only at hSw); go_simp
        simp only [List.setIfInBounds_toArray, List.set_cons_zero, List.set_cons_succ]
        refine takeH (i := 29) 116 (.int .i64 3) rfl rfl (by kernel_rfl) (by kernel_rfl) (by kernel_rfl) (fun _ _ _ h => h) (by rfl) ?_ (by assumption) ?_
        · intro w hSw; (try dsimp only at hSw); go_simp
        simp only [List.setIfInBounds_toArray, List.set_cons_zero, List.set_cons_succ]
        refine takeH (i := 30) 117 (.bool true) rfl rfl (by kernel_rfl) (by kernel_rfl) (by kernel_rfl) (fun _ _ _ h => h) (by rfl) ?_ (by assumption) ?_
        · intro w hSw; (try dsimp only at hSw); go_simp
        simp only [List.setIfInBounds_toArray, List.set_cons_zero, List.set_cons_succ]
        refine wpAnyH_ready (rs := [26]) (by kernel_rfl) (by simp) ?_
        refine AllReadyH.cons rfl (fun K hK => ?_) AllReadyH.nil
        go_simp
        refine (cCResult MM5).mono ?_
        rintro e w36 ⟨rfl, hb36⟩
        rw [show (Cw.fin hit' o').o.val = .agg #[.int .i64 0, .int .i64 ov.k, .int .i64 ov.n, .bool false] by rw [← hov]; exact outv hC hyes]
        have TT6 := TT5.below hb36
        have NN6 := NN5.below hb36
        have RR6 := RR5.below hb36
        have UU6 := UU5.below hb36
        have MM6 := MM5.below hb36
        clear hb36
        refine hK.out _ _ ⟨NN6.cell 0, NN6.cell 1, RR6.cell 0, RR6.cell 3, RR6.cell 4, UU6.cell 0, UU6.cell 1⟩ (fun hHeld => ?_)
        clear hK K
        try simp only [Act.put, List.setIfInBounds_toArray, List.set_cons_zero, List.set_cons_succ]
        refine takeH (i := 27) 114 (.bool false) rfl rfl (by kernel_rfl) (by kernel_rfl) (by kernel_rfl) (fun _ _ _ h => h) (by rfl) ?_ (by assumption) ?_
        · intro w hSw; (try dsimp only at hSw); go_simp
        simp only [List.setIfInBounds_toArray, List.set_cons_zero, List.set_cons_succ]
        refine takeH (i := 31) 118 (.bool true) rfl rfl (by kernel_rfl) (by kernel_rfl) (by kernel_rfl) (fun _ _ _ h => h) (by rfl) ?_ (by assumption) ?_
        · intro w hSw; (try dsimp only at hSw); go_simp
        simp only [List.setIfInBounds_toArray, List.set_cons_zero, List.set_cons_succ]
        refine takeH (i := 32) 119 (.agg #[.int .i64 u.k, .int .i64 u.n]) rfl rfl (by kernel_rfl) (by kernel_rfl) (by kernel_rfl) (fun _ _ _ h => h) (by rfl) ?_ (by assumption) ?_
        · intro w hSw; (try dsimp only at hSw); go_simp
        simp only [List.setIfInBounds_toArray, List.set_cons_zero, List.set_cons_succ]
        refine takeH (i := 33) 120 (.pointer (some ⟨rb, 3, none⟩)) rfl rfl (by kernel_rfl) (by kernel_rfl) (by kernel_rfl) (fun _ _ _ h => h) (by rfl) ?_ (by assumption) ?_
        · intro w hSw; (try dsimp only at hSw); go_simp
        simp only [List.setIfInBounds_toArray, List.set_cons_zero, List.set_cons_succ]
        refine takeH (i := 34) 121 (.agg #[.int .i64 vx.k, .int .i64 vx.n]) rfl rfl (by kernel_rfl) (by kernel_rfl) (by kernel_rfl) (fun _ _ _ h => h) (by rfl) ?_ (by assumption) ?_
        · intro w hSw; (try dsimp only at hSw); go_simp
        simp only [List.setIfInBounds_toArray, List.set_cons_zero, List.set_cons_succ]
        refine takeH (i := 35) 122 (.bool false) rfl rfl (by kernel_rfl) (by kernel_rfl) (by kernel_rfl) (fun _ _ _ h => h) (by rfl) ?_ (by assumption) ?_
        · intro w hSw; (try dsimp only at hSw); go_simp
        simp only [List.setIfInBounds_toArray, List.set_cons_zero, List.set_cons_succ]
        refine takeH (i := 36) 123 (.bool false) rfl rfl (by kernel_rfl) (by kernel_rfl) (by kernel_rfl) (fun _ _ _ h => h) (by rfl) ?_ (by assumption) ?_
        · intro w hSw; (try dsimp only at hSw); go_simp
        simp only [List.setIfInBounds_toArray, List.set_cons_zero, List.set_cons_succ]
        refine takeH (i := 37) 124 (.bool true) rfl rfl (by kernel_rfl) (by kernel_rfl) (by kernel_rfl) (fun _ _ _ h => h) (by rfl) ?_ (by assumption) ?_
        · intro w hSw; (try dsimp only at hSw); go_simp
        simp only [List.setIfInBounds_toArray, List.set_cons_zero, List.set_cons_succ]
        refine takeH (i := 38) 125 (.bool true) rfl rfl (by kernel_rfl) (by kernel_rfl) (by kernel_rfl) (fun _ _ _ h => h) (by rfl) ?_ (by assumption) ?_
        · intro w hSw; (try dsimp only at hSw); go_simp
        simp only [List.setIfInBounds_toArray, List.set_cons_zero, List.set_cons_succ]
        refine takeH (i := 39) 4 (.bool true) rfl rfl (by kernel_rfl) (by kernel_rfl) (by kernel_rfl) (fun _ _ _ h => h) (by rfl) ?_ (by assumption) ?_
        · intro w hSw; (try dsimp only at hSw); go_simp
        simp only [List.setIfInBounds_toArray, List.set_cons_zero, List.set_cons_succ]
        refine wpAnyH_done (by kernel_rfl) ?_ _
        refine NoPanic.normal ?_
        go_wp2
        go_ret
        exact ⟨rfl, TT6.bel⟩
theorem wCloverElsewhere (c1 : Vl) (q : Op15) (w : World) (W : H.Wid w) (fc : c1.Fit) (fit : q.Fit) :
    Calls Tryd.prog 4 #[.agg #[.int .i64 c1.k, .int .i64 c1.n], .agg q.cells] w fun e w' => e = .returned (.bool true) ∧ Below w.heap.size w w' := by
  have h4 := kd_lt q.ac 4 (by decide)
  have h : (reqP q).op = 1 ∨ (reqP q).op = 2 ∨ (reqP q).op = 3 := by simp only [reqP]; omega
  rcases h with h | h | h
  · exact wElse1 c1 q w W fc fit h
  · exact wElse2 c1 q w W fc fit h
  · exact wElse3 c1 q w W fc fit h
end Go.Proofs.YtmlgohknbjfciaaDoor
