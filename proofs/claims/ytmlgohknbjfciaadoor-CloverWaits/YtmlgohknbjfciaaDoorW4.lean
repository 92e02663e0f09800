/-
  The walk of the law on who has to wait.
-/
import Derived.Test.YtmlgohknbjfciaaDoorCk
import Derived.Test.YtmlgohknbjfciaaDoorCg
import Derived.Test.YtmlgohknbjfciaaDoorCu
import Derived.Test.YtmlgohknbjfciaaDoorXe
namespace Go.Proofs.YtmlgohknbjfciaaDoor
set_option linter.unusedVariables false
set_option linter.unusedSimpArgs false
set_option maxRecDepth 100000
open Go.ChangeShapes Go.WideShapes Go.RowKit
open H.Plain (hw pS pC pN pM pG pT pL mv)

set_option maxHeartbeats 8000000 in
theorem wWaitsW (av : Option Addr) (ll cv' : Nat) (zl : Nat → Vl) (q : Op15) (w : World) (W : H.Wid w) (cv : CameV w av ll zl) (fit : q.Fit) (hway : (7 ≤ 6 + kd q.md 3 ∨ valP q.y = nine)) :
    Calls Tryd.prog 3 #[.slice av ll cv', .agg q.cells] w fun e w' => e = .returned (.bool true) ∧ Below w.heap.size w w' := by
  obtain ⟨S, hS⟩ : ∃ S, laidS 4 2 (clP ll zl) = S := ⟨_, rfl⟩
  have hSl : S.ws.length = 160 := by rw [← hS]; exact laid_len _ _ _
  have M0 := laid_m6 4 2 (clP ll zl)
  obtain ⟨O0, hc0⟩ := claimed_ob ll zl
  rw [hS] at M0 O0
  have kf := kd_lt q.fd 3 (by decide)
  obtain ⟨f, hf⟩ : ∃ f : Nat, kd q.fd 3 = (f : Int) := ⟨(kd q.fd 3).toNat, by omega⟩
  rw [hf] at kf
  have hf3 : f < 3 := by omega
  obtain ⟨gu, gu9⟩ := good_clP ll zl f
  obtain ⟨old, hold'⟩ : ∃ old : Nat → Int, (fun k => (clP ll zl k).w) = old := ⟨_, rfl⟩
  rw [hold'] at M0 O0 hc0
  obtain ⟨u, hu⟩ : ∃ u, clP ll zl f = u := ⟨_, rfl⟩
  rw [hu] at gu gu9
  have holdf : old f = u.w := by rw [← hold', ← hu]
  have h72 : old f ≠ 72 := fun e => gu9 ((good_w72 gu).1 (holdf ▸ e))
  have gv := good_valP q.y
  obtain ⟨v, hv⟩ : ∃ v, valP q.y = v := ⟨_, rfl⟩
  rw [hv] at gv hway
  have km := kd_lt q.md 3 (by decide)
  obtain ⟨mk, hmk⟩ : ∃ m, kd q.md 3 = m := ⟨_, rfl⟩
  rw [hmk] at km hway
  obtain ⟨md, hmd⟩ : ∃ m, 6 + mk = m := ⟨_, rfl⟩
  rw [hmd] at hway
  have imd : IntKind.i64.wrap md = md := by rw [IntKind.wrap_i64]; omega
  obtain ⟨m9, hm9⟩ : ∃ m, (envP q).md = m := ⟨_, rfl⟩
  obtain ⟨m2, hm2⟩ : ∃ m, (envP q).mr = m := ⟨_, rfl⟩
  obtain ⟨fx, hfx⟩ : ∃ b, (md == 8) = b := ⟨_, rfl⟩
  obtain ⟨sh, hsh⟩ : ∃ b, decide (7 ≤ md) = b := ⟨_, rfl⟩
  have hnew : Cw.new (rqW f v) ⟨md, m2, 9⟩ = (Cw.hd (rqW f v) sh fx) := by
    unfold Cw.new
    rw [if_neg (by simp [rqW]), if_neg (by simp only; omega), hfx, hsh]
  have ok1 : (rqW f v).Ok := ⟨.inr (.inl rfl), by simp [rqW], by simp [rqW], by simp [rqW], by simp only [rqW]; omega, .inr (by simp [rqW])⟩
  have ok0 : (Cw.hd (rqW f v) sh fx).Ok := ⟨.inr (.inl rfl), by simp [rqW], by simp [rqW], by simp [rqW], by simp only [rqW]; omega⟩
  have hway' : (sh = true ∨ v = nine) := by rw [← hsh]; simpa using hway
  obtain ⟨s', E, O'⟩ := waits_ends (fx := fx) O0 (by simp) hf3 h72 hway'
  have wy : Hid ((sh = true ∨ v = nine)) := hway'
  clear hway hway'
  have a0 : Below w.heap.size w (w.alloc (.cells q.cells 28)) := (Below.refl _ _).alloc (Nat.le_refl _) _
  have C0 : Blk w (w.alloc (.cells q.cells 28)) w.heap.size 28 q.cells := Blk.new (Nat.le_refl _) _ (by decide)
  go_enter Tryd.func3, Tryd.ntmps3
  unfold Op15.cells
  go_upto_region 1 with (fail)
  obtain ⟨ob, hob⟩ : ∃ ob, w.heap.size = ob := ⟨_, rfl⟩
  change Blk w (w.alloc (.cells q.cells 28)) w.heap.size 28 q.cells at C0
  rw [hob] at C0
  unfold Op15.cells at C0 a0
  rw [hob]
  have cv0 := cv.on a0
  generalize hw0 : w.alloc _ = wa at C0 a0 cv0 ⊢
  clear hw0
  go_upto_region 3 with (first
    | (go_at_call 5; refine (cShown _ (W.on a0)).mono ?_; rintro e w1 ⟨rfl, hb1'⟩; have hb1 := bel_trans a0 hb1'; have C1 := C0.below hb1'; have cv1 := cv0.on hb1'; clear hb1')
    | (go_at_call 6; refine (cClaimed w1 cv1).mono ?_; rintro e wc ⟨ao, cap, rfl, cvc, hbc⟩; have bc := bel_trans hb1 hbc; have Cc := C1.below hbc))
  have acb : Below wc.heap.size wc (wc.alloc (.cells #[.int .i64 4, .int .i64 2, .slice ao (min ll 3) cap] 31)) := (Below.refl _ _).alloc (Nat.le_refl _) _
  have cvb := cvc.on acb
  have bb := bel_trans bc acb
  have Cb := Cc.below acb
  go_upto_region 4 with (go_at_call 7; refine (cLaid _ (W.on bb) cvb (by decide) (by decide) (by decide) (by decide)).mono ?_; rintro e w2 ⟨b, y, rfl, h2⟩; rw [cl_fld, show kd 4 6 = 4 by decide, show kd 2 3 = 2 by decide, hS] at h2; have C2 := Cb.below h2.bel; have h3 := h2.lift bb W; clear h2)
  have d0 : w2.cell? ⟨ob, 0, none⟩ = some (.int .i64 q.ob) := C2.cell 0
  have d1 : w2.cell? ⟨ob, 1, none⟩ = some (.int .i64 q.fd) := C2.cell 1
  have d2 : w2.cell? ⟨ob, 2, none⟩ = some (.int .i64 q.ac) := C2.cell 2
  have d3 : w2.cell? ⟨ob, 3, none⟩ = some (.int .i64 q.md) := C2.cell 3
  have d4 : w2.cell? ⟨ob, 4, none⟩ = some (.int .i64 q.x.k) := C2.cell 4
  have d5 : w2.cell? ⟨ob, 5, none⟩ = some (.int .i64 q.x.n) := C2.cell 5
  have d6 : w2.cell? ⟨ob, 6, none⟩ = some (.int .i64 q.y.k) := C2.cell 6
  have d7 : w2.cell? ⟨ob, 7, none⟩ = some (.int .i64 q.y.n) := C2.cell 7
  have d8 : w2.cell? ⟨ob, 8, none⟩ = some (.int .i64 q.hS) := C2.cell 8
  have d9 : w2.cell? ⟨ob, 9, none⟩ = some (.int .i64 q.hC) := C2.cell 9
  have d10 : w2.cell? ⟨ob, 10, none⟩ = some (.int .i64 q.hN) := C2.cell 10
  have d11 : w2.cell? ⟨ob, 11, none⟩ = some (.int .i64 q.hM) := C2.cell 11
  have d12 : w2.cell? ⟨ob, 12, none⟩ = some (.int .i64 q.hG) := C2.cell 12
  have d13 : w2.cell? ⟨ob, 13, none⟩ = some (.int .i64 q.hT) := C2.cell 13
  have d14 : w2.cell? ⟨ob, 14, none⟩ = some (.int .i64 q.hL) := C2.cell 14
  have dl := C2.lt
  go_upto_region 6 with (first
    | (go_at_call 8; refine (cKind _ q.fd 3 fit.fd.1 fit.fd.2 (by decide)).mono ?_; rintro e wk ⟨rfl, hwk⟩; rw [hwk, hf]; clear hwk wk)
    | (go_at_call 9; refine (cEnv q fit _).mono ?_; rintro e w3 ⟨rfl, hb3⟩; rw [hm9, hm2, show (envP q).al = 9 from rfl]; have h4 := h3.below hb3; have C3 := C2.below hb3; clear hb3))
  clear d0 d1 d2 d3 d4 d5 d6 d7 d8 d9 d10 d11 d12 d13 d14 dl acb cvb bb bc cvc hbc Cb Cc C1 C0 cv0 cv1
  have E4b : Below w3.heap.size w3 (w3.alloc (.cells #[.int .i64 m9, .int .i64 m2, .int .i64 9] 39)) := (Below.refl _ _).alloc (Nat.le_refl _) _
  have E4 : Blk w (w3.alloc (.cells #[.int .i64 m9, .int .i64 m2, .int .i64 9] 39)) w3.heap.size 39 #[.int .i64 m9, .int .i64 m2, .int .i64 9] := Blk.new h4.bel.size _ (by decide)
  have h5 := h4.below E4b
  have C4 := C3.below E4b
  generalize w3.alloc (.cells #[.int .i64 m9, .int .i64 m2, .int .i64 9] 39) = w4 at E4 h5 C4 ⊢
  generalize w3.heap.size = eb at E4 ⊢
  clear E4b
  have d3 : w4.cell? ⟨ob, 3, none⟩ = some (.int .i64 q.md) := C4.cell 3
  have e0 : w4.cell? ⟨eb, 0, none⟩ = some (.int .i64 m9) := E4.cell 0
  have ef0 := E4.free 0
  have dl := C4.lt
  go_upto_region 7 with (go_at_call 8; refine (cKind _ q.md 3 fit.md.1 fit.md.2 (by decide)).mono ?_; rintro e wk ⟨rfl, hwk⟩; rw [hwk, hmk]; clear hwk wk)
  have KE : Kept [eb] w4 (w4.setCell ⟨eb, 0, none⟩ (.int .i64 md)) := Kept.setCell [eb] _ _ _ (by simp)
  have E5 : Blk w (w4.setCell ⟨eb, 0, none⟩ (.int .i64 md)) eb 39 #[.int .i64 md, .int .i64 m2, .int .i64 9] := E4.set 0 _
  have h6 := to_twoB h5 KE E4
  have C5 := C4.oth (Oth.kept KE) (by simpa using C4.ne E4 (by decide))
  clear d3 e0 ef0 dl
  generalize w4.setCell ⟨eb, 0, none⟩ (.int .i64 md) = w5 at E5 h6 C5 ⊢
  clear KE
  have d6 : w5.cell? ⟨ob, 6, none⟩ = some (.int .i64 q.y.k) := C5.cell 6
  have d7 : w5.cell? ⟨ob, 7, none⟩ = some (.int .i64 q.y.n) := C5.cell 7
  have dl := C5.lt
  go_upto_region 8 with (go_at_call 10; refine (cVal q.y fit.y _).mono ?_; rintro e w6 ⟨rfl, hb6⟩; rw [hv]; have h7 := h6.below hb6; have E6 := E5.below hb6; clear hb6)
  clear d6 d7 dl
  have V7b : Below w6.heap.size w6 (w6.alloc (.cells #[.int .i64 v.k, .int .i64 v.n] 24)) := (Below.refl _ _).alloc (Nat.le_refl _) _
  have V7 : Blk w (w6.alloc (.cells #[.int .i64 v.k, .int .i64 v.n] 24)) w6.heap.size 24 #[.int .i64 v.k, .int .i64 v.n] := Blk.new h7.bel.size _ (by decide)
  have h8 := h7.below V7b
  have E7 := E6.below V7b
  generalize w6.alloc (.cells #[.int .i64 v.k, .int .i64 v.n] 24) = w7 at V7 h8 E7 ⊢
  generalize w6.heap.size = vb at V7 ⊢
  clear V7b
  have hbd : Below w7.heap.size w7 w7.drew := (Below.refl _ _).drew
  refine wp_region_noPanic ?_
  refine wp_region_held_drew (S := fun w' => w'.cell? ⟨vb, 0, none⟩ = some (.int .i64 v.k) ∧ w'.cell? ⟨vb, 1, none⟩ = some (.int .i64 v.n) ∧ w'.cell? ⟨eb, 0, none⟩ = some (.int .i64 md) ∧ w'.cell? ⟨eb, 1, none⟩ = some (.int .i64 m2) ∧ w'.cell? ⟨eb, 2, none⟩ = some (.int .i64 9)) (by kernel_rfl) ⟨(V7.below hbd).cell 0, (V7.below hbd).cell 1, (E7.below hbd).cell 0, (E7.below hbd).cell 1, (E7.below hbd).cell 2⟩ (fun hHeld => ?_)
  refine takeH (i := 1) 39 (.int .i64 f) rfl rfl (by kernel_rfl) (by kernel_rfl) (by kernel_rfl) (fun _ _ _ h => h) (by rfl) ?_ (by assumption) ?_
  · intro w hSw; (try dsimp only at hSw); go_simp
  simp only [List.setIfInBounds_toArray, List.set_cons_zero, List.set_cons_succ]
  refine takeH (i := 2) 40 (.agg #[.int .i64 v.k, .int .i64 v.n]) rfl rfl (by kernel_rfl) (by kernel_rfl) (by kernel_rfl) (fun _ _ _ h => h) (by rfl) ?_ (by assumption) ?_
  · intro w hSw; (try dsimp only at hSw); go_simp
  simp only [List.setIfInBounds_toArray, List.set_cons_zero, List.set_cons_succ]
  refine takeH (i := 3) 41 (.agg #[.int .i64 2, .int .i64 96, .int .i64 f, .int .i64 0, .int .i64 0, .int .i64 v.k, .int .i64 v.n]) rfl rfl (by kernel_rfl) (by kernel_rfl) (by kernel_rfl) (fun _ _ _ h => h) (by rfl) ?_ (by assumption) ?_
  · intro w hSw; (try dsimp only at hSw); go_simp
  simp only [List.setIfInBounds_toArray, List.set_cons_zero, List.set_cons_succ]
  refine takeH (i := 4) 42 (.agg #[.int .i64 md, .int .i64 m2, .int .i64 9]) rfl rfl (by kernel_rfl) (by kernel_rfl) (by kernel_rfl) (fun _ _ _ h => h) (by rfl) ?_ (by assumption) ?_
  · intro w hSw; (try dsimp only at hSw); go_simp
  simp only [List.setIfInBounds_toArray, List.set_cons_zero, List.set_cons_succ]
  refine wpAnyH_ready (rs := [0]) (by kernel_rfl) (by simp) ?_
  refine AllReadyH.cons rfl (fun K hK => ?_) AllReadyH.nil
  go_simp
  refine (cAt _).mono ?_
  rintro e w8 ⟨rfl, hb8⟩
  have h9 := (h8.below hbd).below hb8
  have V8 := (V7.below hbd).below hb8
  have E8 := (E7.below hbd).below hb8
  refine hK.out _ _ ⟨V8.cell 0, V8.cell 1, E8.cell 0, E8.cell 1, E8.cell 2⟩ (fun hHeld => ?_)
  clear hK K
  try simp only [Act.put, List.setIfInBounds_toArray, List.set_cons_zero, List.set_cons_succ]
  refine wpAnyH_ready (rs := [5]) (by kernel_rfl) (by simp) ?_
  refine AllReadyH.cons rfl (fun K hK => ?_) AllReadyH.nil
  go_simp
  refine (cNewC (rqW f v) ⟨md, m2, 9⟩ _ ok1 rfl).mono ?_
  rintro e w9 ⟨p, rfl, Mp⟩
  rw [hnew] at Mp
  have h10 := h9.below Mp.bel
  have m10 : Cm w w9 p (Cw.hd (rqW f v) sh fx) := Mp.cm h9.bel.size ok0
  have V9 := V8.below Mp.bel
  have E9 := E8.below Mp.bel
  clear Mp
  refine hK.out _ _ ⟨V9.cell 0, V9.cell 1, E9.cell 0, E9.cell 1, E9.cell 2⟩ (fun hHeld => ?_)
  clear hK K
  try simp only [Act.put, List.setIfInBounds_toArray, List.set_cons_zero, List.set_cons_succ]
  refine takeH (i := 6) 12 (pt p) rfl rfl (by kernel_rfl) (by kernel_rfl) (by kernel_rfl) (fun _ _ _ h => h) (by rfl) ?_ (by assumption) ?_
  · intro w hSw; (try dsimp only at hSw); go_simp
  simp only [List.setIfInBounds_toArray, List.set_cons_zero, List.set_cons_succ]
  refine wpAnyH_done (by kernel_rfl) ?_ _
  refine NoPanic.normal ?_
  go_wp2_with (fail)
  clear h3 h4 h5 h6 h7 h8 h9 C2 C3 C4 C5 E4 E5 E6 E7 E8 V7 V8 hbd
  go_loopw [13, 14] (fun dn i wr => ∃ j : Nat, j ≤ 2 ∧ i = .int .i64 j ∧ dn = .bool (runC (Cw.hd (rqW f v) sh fx) S j).1.done ∧ Two w wr b y (runC (Cw.hd (rqW f v) sh fx) S j).2 S (20 + j) ∧ Cm w wr p (runC (Cw.hd (rqW f v) sh fx) S j).1 ∧ Blk w wr vb 24 #[.int .i64 v.k, .int .i64 v.n] ∧ Blk w wr eb 39 #[.int .i64 md, .int .i64 m2, .int .i64 9]) (fun _ i _ => 6 - (intOf i).toNat)
  case atStart => exact ⟨0, Nat.zero_le _, rfl, rfl, h10, m10, V9, E9⟩
  case round =>
    clear h10 m10 V9 E9
    obtain ⟨j, hj, rfl, rfl, k1, k2, k3, k4⟩ := hrel
    rcases Nat.lt_or_ge j 2 with hjd | hjd
    · have hdn : (runC (Cw.hd (rqW f v) sh fx) S j).1.done = false := E.not j hjd
      have hji : (j : Int) < 6 := by omega
      obtain ⟨XX, hX⟩ : ∃ X, (runC (Cw.hd (rqW f v) sh fx) S j).1 = X := ⟨_, rfl⟩
      obtain ⟨SX, hSX⟩ : ∃ X, (runC (Cw.hd (rqW f v) sh fx) S j).2 = X := ⟨_, rfl⟩
      rw [hX] at k2 hdn
      rw [hSX] at k1
      rw [hX, hdn]
      obtain ⟨cx, Bx'⟩ := k2.blk
      go_wp2_with (go_at_call 13; refine (tC k1 k2 (by omega)).mono ?_; rintro e w20 ⟨rfl, k5, k6, o6⟩; have k7 := k3.oth o6 (by simpa using k3.ne Bx' (by decide)); have k8 := k4.oth o6 (by simpa using k4.ne Bx' (by decide)))
      go_roundw
      case rel => exact ⟨j + 1, by omega, by go_num, by simp only [runC, hX, hSX], by simp only [runC, hX, hSX]; exact k5, by simp only [runC, hX, hSX]; exact k6, k7, k8⟩
      case measure => simp [intOf]; omega
    · obtain rfl : j = 2 := by omega
      have hdn : (runC (Cw.hd (rqW f v) sh fx) S 2).1.done = true := by rw [E.at_]; rfl
      rw [hdn]
      rw [E.at_] at k1 k2
      simp only at k1 k2
      have c3v : wr.cell? ⟨vb, 0, none⟩ = some (.int .i64 v.k) := k3.cell 0
      have c4v : wr.cell? ⟨vb, 1, none⟩ = some (.int .i64 v.n) := k3.cell 1
      have cvl := k3.lt
      have c0e : wr.cell? ⟨eb, 0, none⟩ = some (.int .i64 md) := k4.cell 0
      have cel := k4.lt
      obtain ⟨gw, hgw⟩ : ∃ g, u.w = g := ⟨_, rfl⟩
      have hg1 : s'.got (97 + (f : Int)) = gw := by rw [O'.gota hf3, holdf, hgw]
      have hUg : U64 gw := hgw ▸ u.u64
      have hkg : F.Plain.kind gw = u.k := by rw [← hgw]; exact congrArg Vl.k gu.of
      have hng : F.Plain.num gw = u.n := by rw [← hgw]; exact congrArg Vl.n gu.of
      have i97 : IntKind.i64.wrap (97 + (f : Int)) = 97 + (f : Int) := by rw [IntKind.wrap_i64]; omega
      have i113 : IntKind.i64.wrap (113 + (f : Int)) = 113 + (f : Int) := by rw [IntKind.wrap_i64]; omega
      have f0 := fOut0
      obtain ⟨gb, cp, sn⟩ := Two.seen k1
      rcases hs : sh with _ | _
      · have h9 : v = nine := wy.out.resolve_left (by simp [hs])
        have ev : ∀ w, (binOp .eql 24 (.agg #[.int .i64 v.k, .int .i64 v.n]) (.agg #[.int .i64 0, .int .i64 9])).run Tryd.prog w = .ok (.bool true) w := eqVal_t (b := nine) h9
        rw [hs] at hsh
        clear h9
        go_upto_region 18 with (first
          | (go_at_call 15; refine (tLoadS k1 sn (by omega) (97 + (f : Int))).mono ?_; rintro e w21 ⟨rfl, t1, o21, sn1⟩; rw [hg1]; have m1 := k2.oth0 o21; have v1 := k3.oth o21 (by simp); clear o21)
          | (go_at_call 14; refine (F.rOf gw hUg.1 hUg.2 _).mono ?_; rintro e w22 ⟨rfl, hw22⟩; rw [hkg, hng] at hw22 ⊢; have hb22 : Below w21.heap.size w21 w22 := (by rw [hw22]; go_grown); have t2 := t1.below hb22; have m2' := m1.below hb22; have v2 := v1.below hb22; have sn2 := sn1.below hb22; clear hw22 hb22))
        clear c3v c4v cvl c0e cel
        have NBb : Below w22.heap.size w22 (w22.alloc (.cells #[.int .i64 u.k, .int .i64 u.n] 24)) := (Below.refl _ _).alloc (Nat.le_refl _) _
        have NB : Blk w (w22.alloc (.cells #[.int .i64 u.k, .int .i64 u.n] 24)) w22.heap.size 24 #[.int .i64 u.k, .int .i64 u.n] := Blk.new t2.bel.size _ (by decide)
        have t3 := t2.below NBb
        have m3 := m2'.below NBb
        have sn3 := sn2.below NBb
        generalize w22.alloc (.cells #[.int .i64 u.k, .int .i64 u.n] 24) = w23 at NB t3 m3 sn3 ⊢
        generalize w22.heap.size = nb at NB ⊢
        clear NBb
        go_upto_region 19 with (fail)
        have hS97 : S.word (97 + (f : Int)) = gw := by rw [M0.fa f hf3, holdf, hgw]
        have hS113 : S.word (113 + (f : Int)) = 0 := M0.fc f hf3
        have O1 := O'.load (in_a hf3)
        have hg2 : (s'.load (97 + (f : Int))).got (97 + (f : Int)) = gw := by rw [O1.gota hf3, holdf, hgw]
        have hg3 : ((s'.load (97 + (f : Int))).load (97 + (f : Int))).got (113 + (f : Int)) = 0 := (O1.load (in_a hf3)).gotc hf3
        have hbd : Below w23.heap.size w23 w23.drew := (Below.refl _ _).drew
        have tD := t3.below hbd
        have mD := m3.below hbd
        have snD := sn3.below hbd
        refine wp_region_noPanic ?_
        refine wp_region_held_drew (S := fun w' => w'.cell? ⟨y, 0, none⟩ = some (.slice (some ⟨gb, 0, none⟩) 160 cp) ∧ w'.cell? ⟨gb, 97 + f, none⟩ = some (.int .u64 gw) ∧ w'.cell? ⟨gb, 113 + f, none⟩ = some (.int .u64 0)) (by kernel_rfl) ⟨seen160 snD hSl, seen97 snD hSl hS97, seen113 snD hSl hS113⟩ (fun hHeld => ?_)
        refine takeH (i := 0) 79 (.bool true) rfl rfl (by kernel_rfl) (by kernel_rfl) (by kernel_rfl) (fun _ _ _ h => h) (by rfl) ?_ (by assumption) ?_
        · intro w hSw; (try dsimp only at hSw); go_simp
        simp only [List.setIfInBounds_toArray, List.set_cons_zero, List.set_cons_succ]
        refine takeH (i := 1) 80 (.bool true) rfl rfl (by kernel_rfl) (by kernel_rfl) (by kernel_rfl) (fun _ _ _ h => h) (by rfl) ?_ (by assumption) ?_
        · intro w hSw; (try dsimp only at hSw); go_simp
        simp only [List.setIfInBounds_toArray, List.set_cons_zero, List.set_cons_succ]
        refine takeH (i := 2) 81 (pt p) rfl rfl (by kernel_rfl) (by kernel_rfl) (by kernel_rfl) (fun _ _ _ h => h) (by rfl) ?_ (by assumption) ?_
        · intro w hSw; (try dsimp only at hSw); go_simp
        simp only [List.setIfInBounds_toArray, List.set_cons_zero, List.set_cons_succ]
        refine wpAnyH_ready (rs := [3]) (by kernel_rfl) (by simp) ?_
        refine AllReadyH.cons rfl (fun K hK => ?_) AllReadyH.nil
        go_simp
        refine (cCResult mD).mono ?_
        rintro e w24 ⟨rfl, hb24⟩
        simp only [Cw.o, Ou.val, Vl.zero]
        have t4 := tD.below hb24
        have sn4 := snD.below hb24
        clear hb24
        refine hK.out _ _ ⟨seen160 sn4 hSl, seen97 sn4 hSl hS97, seen113 sn4 hSl hS113⟩ (fun hHeld => ?_)
        clear hK K
        try simp only [Act.put, List.setIfInBounds_toArray, List.set_cons_zero, List.set_cons_succ]
        refine takeH (i := 4) 83 (.int .i64 3) rfl rfl (by kernel_rfl) (by kernel_rfl) (by kernel_rfl) (fun _ _ _ h => h) (by rfl) ?_ (by assumption) ?_
        · intro w hSw; (try dsimp only at hSw); go_simp
        simp only [List.setIfInBounds_toArray, List.set_cons_zero, List.set_cons_succ]
        refine takeH (i := 5) 84 (.bool true) rfl rfl (by kernel_rfl) (by kernel_rfl) (by kernel_rfl) (fun _ _ _ h => h) (by rfl) ?_ (by assumption) ?_
        · intro w hSw; (try dsimp only at hSw); go_simp
        simp only [List.setIfInBounds_toArray, List.set_cons_zero, List.set_cons_succ]
        refine takeH (i := 6) 85 (.bool true) rfl rfl (by kernel_rfl) (by kernel_rfl) (by kernel_rfl) (fun _ _ _ h => h) (by rfl) ?_ (by assumption) ?_
        · intro w hSw; (try dsimp only at hSw); go_simp
        simp only [List.setIfInBounds_toArray, List.set_cons_zero, List.set_cons_succ]
        refine takeH (i := 7) 86 (.bool true) rfl rfl (by kernel_rfl) (by kernel_rfl) (by kernel_rfl) (fun _ _ _ h => h) (by rfl) ?_ (by assumption) ?_
        · intro w hSw; (try dsimp only at hSw); go_simp
        simp only [List.setIfInBounds_toArray, List.set_cons_zero, List.set_cons_succ]
        refine takeH (i := 8) 87 (pt b) rfl rfl (by kernel_rfl) (by kernel_rfl) (by kernel_rfl) (fun _ _ _ h => h) (by rfl) ?_ (by assumption) ?_
        · intro w hSw; (try dsimp only at hSw); go_simp
        simp only [List.setIfInBounds_toArray, List.set_cons_zero, List.set_cons_succ]
        refine takeH (i := 9) 88 (.int .i64 f) rfl rfl (by kernel_rfl) (by kernel_rfl) (by kernel_rfl) (fun _ _ _ h => h) (by rfl) ?_ (by assumption) ?_
        · intro w hSw; (try dsimp only at hSw); go_simp
        simp only [List.setIfInBounds_toArray, List.set_cons_zero, List.set_cons_succ]
        refine takeH (i := 10) 89 (.int .i64 (97 + f)) rfl rfl (by kernel_rfl) (by kernel_rfl) (by kernel_rfl) (fun _ _ _ h => h) (by rfl) ?_ (by assumption) ?_
        · intro w hSw; (try dsimp only at hSw); go_simp
        simp only [List.setIfInBounds_toArray, List.set_cons_zero, List.set_cons_succ]
        refine takeH (i := 12) 91 (pt y) rfl rfl (by kernel_rfl) (by kernel_rfl) (by kernel_rfl) (fun _ _ _ h => h) (by rfl) ?_ (by assumption) ?_
        · intro w hSw; (try dsimp only at hSw); go_simp
        simp only [List.setIfInBounds_toArray, List.set_cons_zero, List.set_cons_succ]
        refine takeH (i := 13) 92 (pt y) rfl rfl (by kernel_rfl) (by kernel_rfl) (by kernel_rfl) (fun _ _ _ h => h) (by rfl) ?_ (by assumption) ?_
        · intro w hSw; (try dsimp only at hSw); go_simp
        simp only [List.setIfInBounds_toArray, List.set_cons_zero, List.set_cons_succ]
        refine takeH (i := 14) 93 (pt y) rfl rfl (by kernel_rfl) (by kernel_rfl) (by kernel_rfl) (fun _ _ _ h => h) (by rfl) ?_ (by assumption) ?_
        · intro w hSw; (try dsimp only at hSw); go_simp
        simp only [List.setIfInBounds_toArray, List.set_cons_zero, List.set_cons_succ]
        refine takeH (i := 15) 94 (.slice (some ⟨gb, 0, none⟩) 160 cp) rfl rfl (by kernel_rfl) (by kernel_rfl) (by kernel_rfl) (fun _ _ _ h => h) (by rfl) ?_ (by assumption) ?_
        · intro w hSw; (try dsimp only at hSw); go_simp
        simp only [List.setIfInBounds_toArray, List.set_cons_zero, List.set_cons_succ]
        refine takeH (i := 16) 95 (.int .i64 f) rfl rfl (by kernel_rfl) (by kernel_rfl) (by kernel_rfl) (fun _ _ _ h => h) (by rfl) ?_ (by assumption) ?_
        · intro w hSw; (try dsimp only at hSw); go_simp
        simp only [List.setIfInBounds_toArray, List.set_cons_zero, List.set_cons_succ]
        refine takeH (i := 17) 96 (.int .i64 (97 + f)) rfl rfl (by kernel_rfl) (by kernel_rfl) (by kernel_rfl) (fun _ _ _ h => h) (by rfl) ?_ (by assumption) ?_
        · intro w hSw; (try dsimp only at hSw); go_simp
        simp only [List.setIfInBounds_toArray, List.set_cons_zero, List.set_cons_succ]
        refine takeH (i := 18) 97 (.pointer (some ⟨gb, 97 + f, none⟩)) rfl rfl (by kernel_rfl) (by kernel_rfl) (by kernel_rfl) (fun _ _ _ h => h) (by rfl) ?_ (by assumption) ?_
        · intro w hSw; (try dsimp only at hSw); go_simp; rw [if_pos (by omega)]; rw [show (97 + (f : Int)).toNat = 97 + f by omega]
        simp only [List.setIfInBounds_toArray, List.set_cons_zero, List.set_cons_succ]
        refine takeH (i := 19) 98 (.int .u64 gw) rfl rfl (by kernel_rfl) (by kernel_rfl) (by kernel_rfl) (fun _ _ _ h => h) (by rfl) ?_ (by assumption) ?_
        · intro w hSw; (try dsimp only at hSw); go_simp
        simp only [List.setIfInBounds_toArray, List.set_cons_zero, List.set_cons_succ]
        refine wpAnyH_ready (rs := [11]) (by kernel_rfl) (by simp) ?_
        refine AllReadyH.cons rfl (fun K hK => ?_) AllReadyH.nil
        go_simp
        refine (tLoadS t4 sn4 (by omega) (97 + (f : Int))).mono ?_
        rintro e w25 ⟨rfl, t5, o25, sn5⟩
        rw [hg2]
        clear o25
        refine hK.out _ _ ⟨seen160 sn5 hSl, seen97 sn5 hSl hS97, seen113 sn5 hSl hS113⟩ (fun hHeld => ?_)
        clear hK K
        try simp only [Act.put, List.setIfInBounds_toArray, List.set_cons_zero, List.set_cons_succ]
        refine takeH (i := 20) 99 (.bool true) rfl rfl (by kernel_rfl) (by kernel_rfl) (by kernel_rfl) (fun _ _ _ h => h) (by rfl) ?_ (by assumption) ?_
        · intro w hSw; (try dsimp only at hSw); go_simp
        simp only [List.setIfInBounds_toArray, List.set_cons_zero, List.set_cons_succ]
        refine takeH (i := 21) 100 (.bool true) rfl rfl (by kernel_rfl) (by kernel_rfl) (by kernel_rfl) (fun _ _ _ h => h) (by rfl) ?_ (by assumption) ?_
        · intro w hSw; (try dsimp only at hSw); go_simp
        simp only [List.setIfInBounds_toArray, List.set_cons_zero, List.set_cons_succ]
        refine takeH (i := 22) 101 (.bool true) rfl rfl (by kernel_rfl) (by kernel_rfl) (by kernel_rfl) (fun _ _ _ h => h) (by rfl) ?_ (by assumption) ?_
        · intro w hSw; (try dsimp only at hSw); go_simp
        simp only [List.setIfInBounds_toArray, List.set_cons_zero, List.set_cons_succ]
        refine takeH (i := 23) 102 (pt b) rfl rfl (by kernel_rfl) (by kernel_rfl) (by kernel_rfl) (fun _ _ _ h => h) (by rfl) ?_ (by assumption) ?_
        · intro w hSw; (try dsimp only at hSw); go_simp
        simp only [List.setIfInBounds_toArray, List.set_cons_zero, List.set_cons_succ]
        refine takeH (i := 24) 103 (.int .i64 f) rfl rfl (by kernel_rfl) (by kernel_rfl) (by kernel_rfl) (fun _ _ _ h => h) (by rfl) ?_ (by assumption) ?_
        · intro w hSw; (try dsimp only at hSw); go_simp
        simp only [List.setIfInBounds_toArray, List.set_cons_zero, List.set_cons_succ]
        refine takeH (i := 25) 104 (.int .i64 (113 + f)) rfl rfl (by kernel_rfl) (by kernel_rfl) (by kernel_rfl) (fun _ _ _ h => h) (by rfl) ?_ (by assumption) ?_
        · intro w hSw; (try dsimp only at hSw); go_simp
        simp only [List.setIfInBounds_toArray, List.set_cons_zero, List.set_cons_succ]
        refine takeH (i := 27) 106 (pt y) rfl rfl (by kernel_rfl) (by kernel_rfl) (by kernel_rfl) (fun _ _ _ h => h) (by rfl) ?_ (by assumption) ?_
        · intro w hSw; (try dsimp only at hSw); go_simp
        simp only [List.setIfInBounds_toArray, List.set_cons_zero, List.set_cons_succ]
        refine takeH (i := 28) 107 (pt y) rfl rfl (by kernel_rfl) (by kernel_rfl) (by kernel_rfl) (fun _ _ _ h => h) (by rfl) ?_ (by assumption) ?_
        · intro w hSw; (try dsimp only at hSw); go_simp
        simp only [List.setIfInBounds_toArray, List.set_cons_zero, List.set_cons_succ]
        refine takeH (i := 29) 108 (pt y) rfl rfl (by kernel_rfl) (by kernel_rfl) (by kernel_rfl) (fun _ _ _ h => h) (by rfl) ?_ (by assumption) ?_
        · intro w hSw; (try dsimp only at hSw); go_simp
        simp only [List.setIfInBounds_toArray, List.set_cons_zero, List.set_cons_succ]
        refine takeH (i := 30) 109 (.slice (some ⟨gb, 0, none⟩) 160 cp) rfl rfl (by kernel_rfl) (by kernel_rfl) (by kernel_rfl) (fun _ _ _ h => h) (by rfl) ?_ (by assumption) ?_
        · intro w hSw; (try dsimp only at hSw); go_simp
        simp only [List.setIfInBounds_toArray, List.set_cons_zero, List.set_cons_succ]
        refine takeH (i := 31) 110 (.int .i64 f) rfl rfl (by kernel_rfl) (by kernel_rfl) (by kernel_rfl) (fun _ _ _ h => h) (by rfl) ?_ (by assumption) ?_
        · intro w hSw; (try dsimp only at hSw); go_simp
        simp only [List.setIfInBounds_toArray, List.set_cons_zero, List.set_cons_succ]
        refine takeH (i := 32) 111 (.int .i64 (113 + f)) rfl rfl (by kernel_rfl) (by kernel_rfl) (by kernel_rfl) (fun _ _ _ h => h) (by rfl) ?_ (by assumption) ?_
        · intro w hSw; (try dsimp only at hSw); go_simp
        simp only [List.setIfInBounds_toArray, List.set_cons_zero, List.set_cons_succ]
        refine takeH (i := 33) 112 (.pointer (some ⟨gb, 113 + f, none⟩)) rfl rfl (by kernel_rfl) (by kernel_rfl) (by kernel_rfl) (fun _ _ _ h => h) (by rfl) ?_ (by assumption) ?_
        · intro w hSw; (try dsimp only at hSw); go_simp; rw [if_pos (by omega)]; rw [show (113 + (f : Int)).toNat = 113 + f by omega]
        simp only [List.setIfInBounds_toArray, List.set_cons_zero, List.set_cons_succ]
        refine takeH (i := 34) 113 (.int .u64 0) rfl rfl (by kernel_rfl) (by kernel_rfl) (by kernel_rfl) (fun _ _ _ h => h) (by rfl) ?_ (by assumption) ?_
        · intro w hSw; (try dsimp only at hSw); go_simp
        simp only [List.setIfInBounds_toArray, List.set_cons_zero, List.set_cons_succ]
        refine wpAnyH_ready (rs := [26]) (by kernel_rfl) (by simp) ?_
        refine AllReadyH.cons rfl (fun K hK => ?_) AllReadyH.nil
        go_simp
        refine (tLoadS t5 sn5 (by omega) (113 + (f : Int))).mono ?_
        rintro e w26 ⟨rfl, t6, o26, sn6⟩
        rw [hg3]
        clear o26
        refine hK.out _ _ ⟨seen160 sn6 hSl, seen97 sn6 hSl hS97, seen113 sn6 hSl hS113⟩ (fun hHeld => ?_)
        clear hK K
        try simp only [Act.put, List.setIfInBounds_toArray, List.set_cons_zero, List.set_cons_succ]
        refine takeH (i := 35) 114 (.bool true) rfl rfl (by kernel_rfl) (by kernel_rfl) (by kernel_rfl) (fun _ _ _ h => h) (by rfl) ?_ (by assumption) ?_
        · intro w hSw; (try dsimp only at hSw); go_simp
        simp only [List.setIfInBounds_toArray, List.set_cons_zero, List.set_cons_succ]
        refine takeH (i := 36) 115 (.bool true) rfl rfl (by kernel_rfl) (by kernel_rfl) (by kernel_rfl) (fun _ _ _ h => h) (by rfl) ?_ (by assumption) ?_
        · intro w hSw; (try dsimp only at hSw); go_simp
        simp only [List.setIfInBounds_toArray, List.set_cons_zero, List.set_cons_succ]
        refine takeH (i := 37) 4 (.bool true) rfl rfl (by kernel_rfl) (by kernel_rfl) (by kernel_rfl) (fun _ _ _ h => h) (by rfl) ?_ (by assumption) ?_
        · intro w hSw; (try dsimp only at hSw); go_simp
        simp only [List.setIfInBounds_toArray, List.set_cons_zero, List.set_cons_succ]
        refine wpAnyH_done (by kernel_rfl) ?_ _
        refine NoPanic.normal ?_
        go_wp2
        go_ret
        exact ⟨rfl, t6.bel⟩
      · rw [hs] at hsh
        go_upto_region 18 with (first
          | (go_at_call 15; refine (tLoadS k1 sn (by omega) (97 + (f : Int))).mono ?_; rintro e w21 ⟨rfl, t1, o21, sn1⟩; rw [hg1]; have m1 := k2.oth0 o21; have v1 := k3.oth o21 (by simp); clear o21)
          | (go_at_call 14; refine (F.rOf gw hUg.1 hUg.2 _).mono ?_; rintro e w22 ⟨rfl, hw22⟩; rw [hkg, hng] at hw22 ⊢; have hb22 : Below w21.heap.size w21 w22 := (by rw [hw22]; go_grown); have t2 := t1.below hb22; have m2' := m1.below hb22; have v2 := v1.below hb22; have sn2 := sn1.below hb22; clear hw22 hb22))
        clear c3v c4v cvl c0e cel
        have NBb : Below w22.heap.size w22 (w22.alloc (.cells #[.int .i64 u.k, .int .i64 u.n] 24)) := (Below.refl _ _).alloc (Nat.le_refl _) _
        have NB : Blk w (w22.alloc (.cells #[.int .i64 u.k, .int .i64 u.n] 24)) w22.heap.size 24 #[.int .i64 u.k, .int .i64 u.n] := Blk.new t2.bel.size _ (by decide)
        have t3 := t2.below NBb
        have m3 := m2'.below NBb
        have sn3 := sn2.below NBb
        generalize w22.alloc (.cells #[.int .i64 u.k, .int .i64 u.n] 24) = w23 at NB t3 m3 sn3 ⊢
        generalize w22.heap.size = nb at NB ⊢
        clear NBb
        go_upto_region 19 with (fail)
        have hS97 : S.word (97 + (f : Int)) = gw := by rw [M0.fa f hf3, holdf, hgw]
        have hS113 : S.word (113 + (f : Int)) = 0 := M0.fc f hf3
        have O1 := O'.load (in_a hf3)
        have hg2 : (s'.load (97 + (f : Int))).got (97 + (f : Int)) = gw := by rw [O1.gota hf3, holdf, hgw]
        have hg3 : ((s'.load (97 + (f : Int))).load (97 + (f : Int))).got (113 + (f : Int)) = 0 := (O1.load (in_a hf3)).gotc hf3
        have hbd : Below w23.heap.size w23 w23.drew := (Below.refl _ _).drew
        have tD := t3.below hbd
        have mD := m3.below hbd
        have snD := sn3.below hbd
        refine wp_region_noPanic ?_
        refine wp_region_held_drew (S := fun w' => w'.cell? ⟨y, 0, none⟩ = some (.slice (some ⟨gb, 0, none⟩) 160 cp) ∧ w'.cell? ⟨gb, 97 + f, none⟩ = some (.int .u64 gw) ∧ w'.cell? ⟨gb, 113 + f, none⟩ = some (.int .u64 0)) (by kernel_rfl) ⟨seen160 snD hSl, seen97 snD hSl hS97, seen113 snD hSl hS113⟩ (fun hHeld => ?_)
        refine takeH (i := 0) 79 (.bool true) rfl rfl (by kernel_rfl) (by kernel_rfl) (by kernel_rfl) (fun _ _ _ h => h) (by rfl) ?_ (by assumption) ?_
        · intro w hSw; (try dsimp only at hSw); go_simp
        simp only [List.setIfInBounds_toArray, List.set_cons_zero, List.set_cons_succ]
        refine takeH (i := 1) 80 (.bool true) rfl rfl (by kernel_rfl) (by kernel_rfl) (by kernel_rfl) (fun _ _ _ h => h) (by rfl) ?_ (by assumption) ?_
        · intro w hSw; (try dsimp only at hSw); go_simp
        simp only [List.setIfInBounds_toArray, List.set_cons_zero, List.set_cons_succ]
        refine takeH (i := 2) 81 (pt p) rfl rfl (by kernel_rfl) (by kernel_rfl) (by kernel_rfl) (fun _ _ _ h => h) (by rfl) ?_ (by assumption) ?_
        · intro w hSw; (try dsimp only at hSw); go_simp
        simp only [List.setIfInBounds_toArray, List.set_cons_zero, List.set_cons_succ]
        refine wpAnyH_ready (rs := [3]) (by kernel_rfl) (by simp) ?_
        refine AllReadyH.cons rfl (fun K hK => ?_) AllReadyH.nil
        go_simp
        refine (cCResult mD).mono ?_
        rintro e w24 ⟨rfl, hb24⟩
        simp only [Cw.o, Ou.val, Vl.zero]
        have t4 := tD.below hb24
        have sn4 := snD.below hb24
        clear hb24
        refine hK.out _ _ ⟨seen160 sn4 hSl, seen97 sn4 hSl hS97, seen113 sn4 hSl hS113⟩ (fun hHeld => ?_)
        clear hK K
        try simp only [Act.put, List.setIfInBounds_toArray, List.set_cons_zero, List.set_cons_succ]
        refine takeH (i := 4) 83 (.int .i64 3) rfl rfl (by kernel_rfl) (by kernel_rfl) (by kernel_rfl) (fun _ _ _ h => h) (by rfl) ?_ (by assumption) ?_
        · intro w hSw; (try dsimp only at hSw); go_simp
        simp only [List.setIfInBounds_toArray, List.set_cons_zero, List.set_cons_succ]
        refine takeH (i := 5) 84 (.bool true) rfl rfl (by kernel_rfl) (by kernel_rfl) (by kernel_rfl) (fun _ _ _ h => h) (by rfl) ?_ (by assumption) ?_
        · intro w hSw; (try dsimp only at hSw); go_simp
        simp only [List.setIfInBounds_toArray, List.set_cons_zero, List.set_cons_succ]
        refine takeH (i := 6) 85 (.bool true) rfl rfl (by kernel_rfl) (by kernel_rfl) (by kernel_rfl) (fun _ _ _ h => h) (by rfl) ?_ (by assumption) ?_
        · intro w hSw; (try dsimp only at hSw); go_simp
        simp only [List.setIfInBounds_toArray, List.set_cons_zero, List.set_cons_succ]
        refine takeH (i := 7) 86 (.bool true) rfl rfl (by kernel_rfl) (by kernel_rfl) (by kernel_rfl) (fun _ _ _ h => h) (by rfl) ?_ (by assumption) ?_
        · intro w hSw; (try dsimp only at hSw); go_simp
        simp only [List.setIfInBounds_toArray, List.set_cons_zero, List.set_cons_succ]
        refine takeH (i := 8) 87 (pt b) rfl rfl (by kernel_rfl) (by kernel_rfl) (by kernel_rfl) (fun _ _ _ h => h) (by rfl) ?_ (by assumption) ?_
        · intro w hSw; (try dsimp only at hSw); go_simp
        simp only [List.setIfInBounds_toArray, List.set_cons_zero, List.set_cons_succ]
        refine takeH (i := 9) 88 (.int .i64 f) rfl rfl (by kernel_rfl) (by kernel_rfl) (by kernel_rfl) (fun _ _ _ h => h) (by rfl) ?_ (by assumption) ?_
        · intro w hSw; (try dsimp only at hSw); go_simp
        simp only [List.setIfInBounds_toArray, List.set_cons_zero, List.set_cons_succ]
        refine takeH (i := 10) 89 (.int .i64 (97 + f)) rfl rfl (by kernel_rfl) (by kernel_rfl) (by kernel_rfl) (fun _ _ _ h => h) (by rfl) ?_ (by assumption) ?_
        · intro w hSw; (try dsimp only at hSw); go_simp
        simp only [List.setIfInBounds_toArray, List.set_cons_zero, List.set_cons_succ]
        refine takeH (i := 12) 91 (pt y) rfl rfl (by kernel_rfl) (by kernel_rfl) (by kernel_rfl) (fun _ _ _ h => h) (by rfl) ?_ (by assumption) ?_
        · intro w hSw; (try dsimp only at hSw); go_simp
        simp only [List.setIfInBounds_toArray, List.set_cons_zero, List.set_cons_succ]
        refine takeH (i := 13) 92 (pt y) rfl rfl (by kernel_rfl) (by kernel_rfl) (by kernel_rfl) (fun _ _ _ h => h) (by rfl) ?_ (by assumption) ?_
        · intro w hSw; (try dsimp only at hSw); go_simp
        simp only [List.setIfInBounds_toArray, List.set_cons_zero, List.set_cons_succ]
        refine takeH (i := 14) 93 (pt y) rfl rfl (by kernel_rfl) (by kernel_rfl) (by kernel_rfl) (fun _ _ _ h => h) (by rfl) ?_ (by assumption) ?_
        · intro w hSw; (try dsimp only at hSw); go_simp
        simp only [List.setIfInBounds_toArray, List.set_cons_zero, List.set_cons_succ]
        refine takeH (i := 15) 94 (.slice (some ⟨gb, 0, none⟩) 160 cp) rfl rfl (by kernel_rfl) (by kernel_rfl) (by kernel_rfl) (fun _ _ _ h => h) (by rfl) ?_ (by assumption) ?_
        · intro w hSw; (try dsimp only at hSw); go_simp
        simp only [List.setIfInBounds_toArray, List.set_cons_zero, List.set_cons_succ]
        refine takeH (i := 16) 95 (.int .i64 f) rfl rfl (by kernel_rfl) (by kernel_rfl) (by kernel_rfl) (fun _ _ _ h => h) (by rfl) ?_ (by assumption) ?_
        · intro w hSw; (try dsimp only at hSw); go_simp
        simp only [List.setIfInBounds_toArray, List.set_cons_zero, List.set_cons_succ]
        refine takeH (i := 17) 96 (.int .i64 (97 + f)) rfl rfl (by kernel_rfl) (by kernel_rfl) (by kernel_rfl) (fun _ _ _ h => h) (by rfl) ?_ (by assumption) ?_
        · intro w hSw; (try dsimp only at hSw); go_simp
        simp only [List.setIfInBounds_toArray, List.set_cons_zero, List.set_cons_succ]
        refine takeH (i := 18) 97 (.pointer (some ⟨gb, 97 + f, none⟩)) rfl rfl (by kernel_rfl) (by kernel_rfl) (by kernel_rfl) (fun _ _ _ h => h) (by rfl) ?_ (by assumption) ?_
        · intro w hSw; (try dsimp only at hSw); go_simp; rw [if_pos (by omega)]; rw [show (97 + (f : Int)).toNat = 97 + f by omega]
        simp only [List.setIfInBounds_toArray, List.set_cons_zero, List.set_cons_succ]
        refine takeH (i := 19) 98 (.int .u64 gw) rfl rfl (by kernel_rfl) (by kernel_rfl) (by kernel_rfl) (fun _ _ _ h => h) (by rfl) ?_ (by assumption) ?_
        · intro w hSw; (try dsimp only at hSw); go_simp
        simp only [List.setIfInBounds_toArray, List.set_cons_zero, List.set_cons_succ]
        refine wpAnyH_ready (rs := [11]) (by kernel_rfl) (by simp) ?_
        refine AllReadyH.cons rfl (fun K hK => ?_) AllReadyH.nil
        go_simp
        refine (tLoadS t4 sn4 (by omega) (97 + (f : Int))).mono ?_
        rintro e w25 ⟨rfl, t5, o25, sn5⟩
        rw [hg2]
        clear o25
        refine hK.out _ _ ⟨seen160 sn5 hSl, seen97 sn5 hSl hS97, seen113 sn5 hSl hS113⟩ (fun hHeld => ?_)
        clear hK K
        try simp only [Act.put, List.setIfInBounds_toArray, List.set_cons_zero, List.set_cons_succ]
        refine takeH (i := 20) 99 (.bool true) rfl rfl (by kernel_rfl) (by kernel_rfl) (by kernel_rfl) (fun _ _ _ h => h) (by rfl) ?_ (by assumption) ?_
        · intro w hSw; (try dsimp only at hSw); go_simp
        simp only [List.setIfInBounds_toArray, List.set_cons_zero, List.set_cons_succ]
        refine takeH (i := 21) 100 (.bool true) rfl rfl (by kernel_rfl) (by kernel_rfl) (by kernel_rfl) (fun _ _ _ h => h) (by rfl) ?_ (by assumption) ?_
        · intro w hSw; (try dsimp only at hSw); go_simp
        simp only [List.setIfInBounds_toArray, List.set_cons_zero, List.set_cons_succ]
        refine takeH (i := 22) 101 (.bool true) rfl rfl (by kernel_rfl) (by kernel_rfl) (by kernel_rfl) (fun _ _ _ h => h) (by rfl) ?_ (by assumption) ?_
        · intro w hSw; (try dsimp only at hSw); go_simp
        simp only [List.setIfInBounds_toArray, List.set_cons_zero, List.set_cons_succ]
        refine takeH (i := 23) 102 (pt b) rfl rfl (by kernel_rfl) (by kernel_rfl) (by kernel_rfl) (fun _ _ _ h => h) (by rfl) ?_ (by assumption) ?_
        · intro w hSw; (try dsimp only at hSw); go_simp
        simp only [List.setIfInBounds_toArray, List.set_cons_zero, List.set_cons_succ]
        refine takeH (i := 24) 103 (.int .i64 f) rfl rfl (by kernel_rfl) (by kernel_rfl) (by kernel_rfl) (fun _ _ _ h => h) (by rfl) ?_ (by assumption) ?_
        · intro w hSw; (try dsimp only at hSw); go_simp
        simp only [List.setIfInBounds_toArray, List.set_cons_zero, List.set_cons_succ]
        refine takeH (i := 25) 104 (.int .i64 (113 + f)) rfl rfl (by kernel_rfl) (by kernel_rfl) (by kernel_rfl) (fun _ _ _ h => h) (by rfl) ?_ (by assumption) ?_
        · intro w hSw; (try dsimp only at hSw); go_simp
        simp only [List.setIfInBounds_toArray, List.set_cons_zero, List.set_cons_succ]
        refine takeH (i := 27) 106 (pt y) rfl rfl (by kernel_rfl) (by kernel_rfl) (by kernel_rfl) (fun _ _ _ h => h) (by rfl) ?_ (by assumption) ?_
        · intro w hSw; (try dsimp only at hSw); go_simp
        simp only [List.setIfInBounds_toArray, List.set_cons_zero, List.set_cons_succ]
        refine takeH (i := 28) 107 (pt y) rfl rfl (by kernel_rfl) (by kernel_rfl) (by kernel_rfl) (fun _ _ _ h => h) (by rfl) ?_ (by assumption) ?_
        · intro w hSw; (try dsimp only at hSw); go_simp
        simp only [List.setIfInBounds_toArray, List.set_cons_zero, List.set_cons_succ]
        refine takeH (i := 29) 108 (pt y) rfl rfl (by kernel_rfl) (by kernel_rfl) (by kernel_rfl) (fun _ _ _ h => h) (by rfl) ?_ (by assumption) ?_
        · intro w hSw; (try dsimp only at hSw); go_simp
        simp only [List.setIfInBounds_toArray, List.set_cons_zero, List.set_cons_succ]
        refine takeH (i := 30) 109 (.slice (some ⟨gb, 0, none⟩) 160 cp) rfl rfl (by kernel_rfl) (by kernel_rfl) (by kernel_rfl) (fun _ _ _ h => h) (by rfl) ?_ (by assumption) ?_
        · intro w hSw; (try dsimp only at hSw); go_simp
        simp only [List.setIfInBounds_toArray, List.set_cons_zero, List.set_cons_succ]
        refine takeH (i := 31) 110 (.int .i64 f) rfl rfl (by kernel_rfl) (by kernel_rfl) (by kernel_rfl) (fun _ _ _ h => h) (by rfl) ?_ (by assumption) ?_
        · intro w hSw; (try dsimp only at hSw); go_simp
        simp only [List.setIfInBounds_toArray, List.set_cons_zero, List.set_cons_succ]
        refine takeH (i := 32) 111 (.int .i64 (113 + f)) rfl rfl (by kernel_rfl) (by kernel_rfl) (by kernel_rfl) (fun _ _ _ h => h) (by rfl) ?_ (by assumption) ?_
        · intro w hSw; (try dsimp only at hSw); go_simp
        simp only [List.setIfInBounds_toArray, List.set_cons_zero, List.set_cons_succ]
        refine takeH (i := 33) 112 (.pointer (some ⟨gb, 113 + f, none⟩)) rfl rfl (by kernel_rfl) (by kernel_rfl) (by kernel_rfl) (fun _ _ _ h => h) (by rfl) ?_ (by assumption) ?_
        · intro w hSw; (try dsimp only at hSw); go_simp; rw [if_pos (by omega)]; rw [show (113 + (f : Int)).toNat = 113 + f by omega]
        simp only [List.setIfInBounds_toArray, List.set_cons_zero, List.set_cons_succ]
        refine takeH (i := 34) 113 (.int .u64 0) rfl rfl (by kernel_rfl) (by kernel_rfl) (by kernel_rfl) (fun _ _ _ h => h) (by rfl) ?_ (by assumption) ?_
        · intro w hSw; (try dsimp only at hSw); go_simp
        simp only [List.setIfInBounds_toArray, List.set_cons_zero, List.set_cons_succ]
        refine wpAnyH_ready (rs := [26]) (by kernel_rfl) (by simp) ?_
        refine AllReadyH.cons rfl (fun K hK => ?_) AllReadyH.nil
        go_simp
        refine (tLoadS t5 sn5 (by omega) (113 + (f : Int))).mono ?_
        rintro e w26 ⟨rfl, t6, o26, sn6⟩
        rw [hg3]
        clear o26
        refine hK.out _ _ ⟨seen160 sn6 hSl, seen97 sn6 hSl hS97, seen113 sn6 hSl hS113⟩ (fun hHeld => ?_)
        clear hK K
        try simp only [Act.put, List.setIfInBounds_toArray, List.set_cons_zero, List.set_cons_succ]
        refine takeH (i := 35) 114 (.bool true) rfl rfl (by kernel_rfl) (by kernel_rfl) (by kernel_rfl) (fun _ _ _ h => h) (by rfl) ?_ (by assumption) ?_
        · intro w hSw; (try dsimp only at hSw); go_simp
        simp only [List.setIfInBounds_toArray, List.set_cons_zero, List.set_cons_succ]
        refine takeH (i := 36) 115 (.bool true) rfl rfl (by kernel_rfl) (by kernel_rfl) (by kernel_rfl) (fun _ _ _ h => h) (by rfl) ?_ (by assumption) ?_
        · intro w hSw; (try dsimp only at hSw); go_simp
        simp only [List.setIfInBounds_toArray, List.set_cons_zero, List.set_cons_succ]
        refine takeH (i := 37) 4 (.bool true) rfl rfl (by kernel_rfl) (by kernel_rfl) (by kernel_rfl) (fun _ _ _ h => h) (by rfl) ?_ (by assumption) ?_
        · intro w hSw; (try dsimp only at hSw); go_simp
        simp only [List.setIfInBounds_toArray, List.set_cons_zero, List.set_cons_succ]
        refine wpAnyH_done (by kernel_rfl) ?_ _
        refine NoPanic.normal ?_
        go_wp2
        go_ret
        exact ⟨rfl, t6.bel⟩
set_option maxHeartbeats 8000000 in
theorem wWaitsN (av : Option Addr) (ll cv' : Nat) (zl : Nat → Vl) (q : Op15) (w : World) (W : H.Wid w) (cv : CameV w av ll zl) (fit : q.Fit) (hway : ¬ (7 ≤ 6 + kd q.md 3 ∨ valP q.y = nine)) :
    Calls Tryd.prog 3 #[.slice av ll cv', .agg q.cells] w fun e w' => e = .returned (.bool true) ∧ Below w.heap.size w w' := by
  obtain ⟨S, hS⟩ : ∃ S, laidS 4 2 (clP ll zl) = S := ⟨_, rfl⟩
  have hSl : S.ws.length = 160 := by rw [← hS]; exact laid_len _ _ _
  have M0 := laid_m6 4 2 (clP ll zl)
  obtain ⟨O0, hc0⟩ := claimed_ob ll zl
  rw [hS] at M0 O0
  have kf := kd_lt q.fd 3 (by decide)
  obtain ⟨f, hf⟩ : ∃ f : Nat, kd q.fd 3 = (f : Int) := ⟨(kd q.fd 3).toNat, by omega⟩
  rw [hf] at kf
  have hf3 : f < 3 := by omega
  obtain ⟨gu, gu9⟩ := good_clP ll zl f
  obtain ⟨old, hold'⟩ : ∃ old : Nat → Int, (fun k => (clP ll zl k).w) = old := ⟨_, rfl⟩
  rw [hold'] at M0 O0 hc0
  obtain ⟨u, hu⟩ : ∃ u, clP ll zl f = u := ⟨_, rfl⟩
  rw [hu] at gu gu9
  have holdf : old f = u.w := by rw [← hold', ← hu]
  have h72 : old f ≠ 72 := fun e => gu9 ((good_w72 gu).1 (holdf ▸ e))
  have gv := good_valP q.y
  obtain ⟨v, hv⟩ : ∃ v, valP q.y = v := ⟨_, rfl⟩
  rw [hv] at gv hway
  have km := kd_lt q.md 3 (by decide)
  obtain ⟨mk, hmk⟩ : ∃ m, kd q.md 3 = m := ⟨_, rfl⟩
  rw [hmk] at km hway
  obtain ⟨md, hmd⟩ : ∃ m, 6 + mk = m := ⟨_, rfl⟩
  rw [hmd] at hway
  have imd : IntKind.i64.wrap md = md := by rw [IntKind.wrap_i64]; omega
  obtain ⟨m9, hm9⟩ : ∃ m, (envP q).md = m := ⟨_, rfl⟩
  obtain ⟨m2, hm2⟩ : ∃ m, (envP q).mr = m := ⟨_, rfl⟩
  obtain ⟨fx, hfx⟩ : ∃ b, (md == 8) = b := ⟨_, rfl⟩
  obtain ⟨sh, hsh⟩ : ∃ b, decide (7 ≤ md) = b := ⟨_, rfl⟩
  have hnew : Cw.new (rqW f v) ⟨md, m2, 9⟩ = (Cw.hd (rqW f v) sh fx) := by
    unfold Cw.new
    rw [if_neg (by simp [rqW]), if_neg (by simp only; omega), hfx, hsh]
  have ok1 : (rqW f v).Ok := ⟨.inr (.inl rfl), by simp [rqW], by simp [rqW], by simp [rqW], by simp only [rqW]; omega, .inr (by simp [rqW])⟩
  have ok0 : (Cw.hd (rqW f v) sh fx).Ok := ⟨.inr (.inl rfl), by simp [rqW], by simp [rqW], by simp [rqW], by simp only [rqW]; omega⟩
  have hway' : ¬ (sh = true ∨ v = nine) := by rw [← hsh]; simpa using hway
  obtain ⟨s', E, O'⟩ := writes_ends (fx := fx) O0 (by simp) hf3 h72 hway' gv
  have wy : Hid (¬ (sh = true ∨ v = nine)) := hway'
  clear hway hway'
  have a0 : Below w.heap.size w (w.alloc (.cells q.cells 28)) := (Below.refl _ _).alloc (Nat.le_refl _) _
  have C0 : Blk w (w.alloc (.cells q.cells 28)) w.heap.size 28 q.cells := Blk.new (Nat.le_refl _) _ (by decide)
  go_enter Tryd.func3, Tryd.ntmps3
  unfold Op15.cells
  go_upto_region 1 with (fail)
  obtain ⟨ob, hob⟩ : ∃ ob, w.heap.size = ob := ⟨_, rfl⟩
  change Blk w (w.alloc (.cells q.cells 28)) w.heap.size 28 q.cells at C0
  rw [hob] at C0
  unfold Op15.cells at C0 a0
  rw [hob]
  have cv0 := cv.on a0
  generalize hw0 : w.alloc _ = wa at C0 a0 cv0 ⊢
  clear hw0
  go_upto_region 3 with (first
    | (go_at_call 5; refine (cShown _ (W.on a0)).mono ?_; rintro e w1 ⟨rfl, hb1'⟩; have hb1 := bel_trans a0 hb1'; have C1 := C0.below hb1'; have cv1 := cv0.on hb1'; clear hb1')
    | (go_at_call 6; refine (cClaimed w1 cv1).mono ?_; rintro e wc ⟨ao, cap, rfl, cvc, hbc⟩; have bc := bel_trans hb1 hbc; have Cc := C1.below hbc))
  have acb : Below wc.heap.size wc (wc.alloc (.cells #[.int .i64 4, .int .i64 2, .slice ao (min ll 3) cap] 31)) := (Below.refl _ _).alloc (Nat.le_refl _) _
  have cvb := cvc.on acb
  have bb := bel_trans bc acb
  have Cb := Cc.below acb
  go_upto_region 4 with (go_at_call 7; refine (cLaid _ (W.on bb) cvb (by decide) (by decide) (by decide) (by decide)).mono ?_; rintro e w2 ⟨b, y, rfl, h2⟩; rw [cl_fld, show kd 4 6 = 4 by decide, show kd 2 3 = 2 by decide, hS] at h2; have C2 := Cb.below h2.bel; have h3 := h2.lift bb W; clear h2)
  have d0 : w2.cell? ⟨ob, 0, none⟩ = some (.int .i64 q.ob) := C2.cell 0
  have d1 : w2.cell? ⟨ob, 1, none⟩ = some (.int .i64 q.fd) := C2.cell 1
  have d2 : w2.cell? ⟨ob, 2, none⟩ = some (.int .i64 q.ac) := C2.cell 2
  have d3 : w2.cell? ⟨ob, 3, none⟩ = some (.int .i64 q.md) := C2.cell 3
  have d4 : w2.cell? ⟨ob, 4, none⟩ = some (.int .i64 q.x.k) := C2.cell 4
  have d5 : w2.cell? ⟨ob, 5, none⟩ = some (.int .i64 q.x.n) := C2.cell 5
  have d6 : w2.cell? ⟨ob, 6, none⟩ = some (.int .i64 q.y.k) := C2.cell 6
  have d7 : w2.cell? ⟨ob, 7, none⟩ = some (.int .i64 q.y.n) := C2.cell 7
  have d8 : w2.cell? ⟨ob, 8, none⟩ = some (.int .i64 q.hS) := C2.cell 8
  have d9 : w2.cell? ⟨ob, 9, none⟩ = some (.int .i64 q.hC) := C2.cell 9
  have d10 : w2.cell? ⟨ob, 10, none⟩ = some (.int .i64 q.hN) := C2.cell 10
  have d11 : w2.cell? ⟨ob, 11, none⟩ = some (.int .i64 q.hM) := C2.cell 11
  have d12 : w2.cell? ⟨ob, 12, none⟩ = some (.int .i64 q.hG) := C2.cell 12
  have d13 : w2.cell? ⟨ob, 13, none⟩ = some (.int .i64 q.hT) := C2.cell 13
  have d14 : w2.cell? ⟨ob, 14, none⟩ = some (.int .i64 q.hL) := C2.cell 14
  have dl := C2.lt
  go_upto_region 6 with (first
    | (go_at_call 8; refine (cKind _ q.fd 3 fit.fd.1 fit.fd.2 (by decide)).mono ?_; rintro e wk ⟨rfl, hwk⟩; rw [hwk, hf]; clear hwk wk)
    | (go_at_call 9; refine (cEnv q fit _).mono ?_; rintro e w3 ⟨rfl, hb3⟩; rw [hm9, hm2, show (envP q).al = 9 from rfl]; have h4 := h3.below hb3; have C3 := C2.below hb3; clear hb3))
  clear d0 d1 d2 d3 d4 d5 d6 d7 d8 d9 d10 d11 d12 d13 d14 dl acb cvb bb bc cvc hbc Cb Cc C1 C0 cv0 cv1
  have E4b : Below w3.heap.size w3 (w3.alloc (.cells #[.int .i64 m9, .int .i64 m2, .int .i64 9] 39)) := (Below.refl _ _).alloc (Nat.le_refl _) _
  have E4 : Blk w (w3.alloc (.cells #[.int .i64 m9, .int .i64 m2, .int .i64 9] 39)) w3.heap.size 39 #[.int .i64 m9, .int .i64 m2, .int .i64 9] := Blk.new h4.bel.size _ (by decide)
  have h5 := h4.below E4b
  have C4 := C3.below E4b
  generalize w3.alloc (.cells #[.int .i64 m9, .int .i64 m2, .int .i64 9] 39) = w4 at E4 h5 C4 ⊢
  generalize w3.heap.size = eb at E4 ⊢
  clear E4b
  have d3 : w4.cell? ⟨ob, 3, none⟩ = some (.int .i64 q.md) := C4.cell 3
  have e0 : w4.cell? ⟨eb, 0, none⟩ = some (.int .i64 m9) := E4.cell 0
  have ef0 := E4.free 0
  have dl := C4.lt
  go_upto_region 7 with (go_at_call 8; refine (cKind _ q.md 3 fit.md.1 fit.md.2 (by decide)).mono ?_; rintro e wk ⟨rfl, hwk⟩; rw [hwk, hmk]; clear hwk wk)
  have KE : Kept [eb] w4 (w4.setCell ⟨eb, 0, none⟩ (.int .i64 md)) := Kept.setCell [eb] _ _ _ (by simp)
  have E5 : Blk w (w4.setCell ⟨eb, 0, none⟩ (.int .i64 md)) eb 39 #[.int .i64 md, .int .i64 m2, .int .i64 9] := E4.set 0 _
  have h6 := to_twoB h5 KE E4
  have C5 := C4.oth (Oth.kept KE) (by simpa using C4.ne E4 (by decide))
  clear d3 e0 ef0 dl
  generalize w4.setCell ⟨eb, 0, none⟩ (.int .i64 md) = w5 at E5 h6 C5 ⊢
  clear KE
  have d6 : w5.cell? ⟨ob, 6, none⟩ = some (.int .i64 q.y.k) := C5.cell 6
  have d7 : w5.cell? ⟨ob, 7, none⟩ = some (.int .i64 q.y.n) := C5.cell 7
  have dl := C5.lt
  go_upto_region 8 with (go_at_call 10; refine (cVal q.y fit.y _).mono ?_; rintro e w6 ⟨rfl, hb6⟩; rw [hv]; have h7 := h6.below hb6; have E6 := E5.below hb6; clear hb6)
  clear d6 d7 dl
  have V7b : Below w6.heap.size w6 (w6.alloc (.cells #[.int .i64 v.k, .int .i64 v.n] 24)) := (Below.refl _ _).alloc (Nat.le_refl _) _
  have V7 : Blk w (w6.alloc (.cells #[.int .i64 v.k, .int .i64 v.n] 24)) w6.heap.size 24 #[.int .i64 v.k, .int .i64 v.n] := Blk.new h7.bel.size _ (by decide)
  have h8 := h7.below V7b
  have E7 := E6.below V7b
  generalize w6.alloc (.cells #[.int .i64 v.k, .int .i64 v.n] 24) = w7 at V7 h8 E7 ⊢
  generalize w6.heap.size = vb at V7 ⊢
  clear V7b
  have hbd : Below w7.heap.size w7 w7.drew := (Below.refl _ _).drew
  refine wp_region_noPanic ?_
  refine wp_region_held_drew (S := fun w' => w'.cell? ⟨vb, 0, none⟩ = some (.int .i64 v.k) ∧ w'.cell? ⟨vb, 1, none⟩ = some (.int .i64 v.n) ∧ w'.cell? ⟨eb, 0, none⟩ = some (.int .i64 md) ∧ w'.cell? ⟨eb, 1, none⟩ = some (.int .i64 m2) ∧ w'.cell? ⟨eb, 2, none⟩ = some (.int .i64 9)) (by kernel_rfl) ⟨(V7.below hbd).cell 0, (V7.below hbd).cell 1, (E7.below hbd).cell 0, (E7.below hbd).cell 1, (E7.below hbd).cell 2⟩ (fun hHeld => ?_)
  refine takeH (i := 1) 39 (.int .i64 f) rfl rfl (by kernel_rfl) (by kernel_rfl) (by kernel_rfl) (fun _ _ _ h => h) (by rfl) ?_ (by assumption) ?_
  · intro w hSw; (try dsimp only at hSw); go_simp
  simp only [List.setIfInBounds_toArray, List.set_cons_zero, List.set_cons_succ]
  refine takeH (i := 2) 40 (.agg #[.int .i64 v.k, .int .i64 v.n]) rfl rfl (by kernel_rfl) (by kernel_rfl) (by kernel_rfl) (fun _ _ _ h => h) (by rfl) ?_ (by assumption) ?_
  · intro w hSw; (try dsimp only at hSw); go_simp
  simp only [List.setIfInBounds_toArray, List.set_cons_zero, List.set_cons_succ]
  refine takeH (i := 3) 41 (.agg #[.int .i64 2, .int .i64 96, .int .i64 f, .int .i64 0, .int .i64 0, .int .i64 v.k, .int .i64 v.n]) rfl rfl (by kernel_rfl) (by kernel_rfl) (by kernel_rfl) (fun _ _ _ h => h) (by rfl) ?_ (by assumption) ?_
  · intro w hSw; (try dsimp only at hSw); go_simp
  simp only [List.setIfInBounds_toArray, List.set_cons_zero, List.set_cons_succ]
  refine takeH (i := 4) 42 (.agg #[.int .i64 md, .int .i64 m2, .int .i64 9]) rfl rfl (by kernel_rfl) (by kernel_rfl) (by kernel_rfl) (fun _ _ _ h => h) (by rfl) ?_ (by assumption) ?_
  · intro w hSw; (try dsimp only at hSw); go_simp
  simp only [List.setIfInBounds_toArray, List.set_cons_zero, List.set_cons_succ]
  refine wpAnyH_ready (rs := [0]) (by kernel_rfl) (by simp) ?_
  refine AllReadyH.cons rfl (fun K hK => ?_) AllReadyH.nil
  go_simp
  refine (cAt _).mono ?_
  rintro e w8 ⟨rfl, hb8⟩
  have h9 := (h8.below hbd).below hb8
  have V8 := (V7.below hbd).below hb8
  have E8 := (E7.below hbd).below hb8
  refine hK.out _ _ ⟨V8.cell 0, V8.cell 1, E8.cell 0, E8.cell 1, E8.cell 2⟩ (fun hHeld => ?_)
  clear hK K
  try simp only [Act.put, List.setIfInBounds_toArray, List.set_cons_zero, List.set_cons_succ]
  refine wpAnyH_ready (rs := [5]) (by kernel_rfl) (by simp) ?_
  refine AllReadyH.cons rfl (fun K hK => ?_) AllReadyH.nil
  go_simp
  refine (cNewC (rqW f v) ⟨md, m2, 9⟩ _ ok1 rfl).mono ?_
  rintro e w9 ⟨p, rfl, Mp⟩
  rw [hnew] at Mp
  have h10 := h9.below Mp.bel
  have m10 : Cm w w9 p (Cw.hd (rqW f v) sh fx) := Mp.cm h9.bel.size ok0
  have V9 := V8.below Mp.bel
  have E9 := E8.below Mp.bel
  clear Mp
  refine hK.out _ _ ⟨V9.cell 0, V9.cell 1, E9.cell 0, E9.cell 1, E9.cell 2⟩ (fun hHeld => ?_)
  clear hK K
  try simp only [Act.put, List.setIfInBounds_toArray, List.set_cons_zero, List.set_cons_succ]
  refine takeH (i := 6) 12 (pt p) rfl rfl (by kernel_rfl) (by kernel_rfl) (by kernel_rfl) (fun _ _ _ h => h) (by rfl) ?_ (by assumption) ?_
  · intro w hSw; (try dsimp only at hSw); go_simp
  simp only [List.setIfInBounds_toArray, List.set_cons_zero, List.set_cons_succ]
  refine wpAnyH_done (by kernel_rfl) ?_ _
  refine NoPanic.normal ?_
  go_wp2_with (fail)
  clear h3 h4 h5 h6 h7 h8 h9 C2 C3 C4 C5 E4 E5 E6 E7 E8 V7 V8 hbd
  go_loopw [13, 14] (fun dn i wr => ∃ j : Nat, j ≤ 3 ∧ i = .int .i64 j ∧ dn = .bool (runC (Cw.hd (rqW f v) sh fx) S j).1.done ∧ Two w wr b y (runC (Cw.hd (rqW f v) sh fx) S j).2 S (20 + j) ∧ Cm w wr p (runC (Cw.hd (rqW f v) sh fx) S j).1 ∧ Blk w wr vb 24 #[.int .i64 v.k, .int .i64 v.n] ∧ Blk w wr eb 39 #[.int .i64 md, .int .i64 m2, .int .i64 9]) (fun _ i _ => 6 - (intOf i).toNat)
  case atStart => exact ⟨0, Nat.zero_le _, rfl, rfl, h10, m10, V9, E9⟩
  case round =>
    clear h10 m10 V9 E9
    obtain ⟨j, hj, rfl, rfl, k1, k2, k3, k4⟩ := hrel
    rcases Nat.lt_or_ge j 3 with hjd | hjd
    · have hdn : (runC (Cw.hd (rqW f v) sh fx) S j).1.done = false := E.not j hjd
      have hji : (j : Int) < 6 := by omega
      obtain ⟨XX, hX⟩ : ∃ X, (runC (Cw.hd (rqW f v) sh fx) S j).1 = X := ⟨_, rfl⟩
      obtain ⟨SX, hSX⟩ : ∃ X, (runC (Cw.hd (rqW f v) sh fx) S j).2 = X := ⟨_, rfl⟩
      rw [hX] at k2 hdn
      rw [hSX] at k1
      rw [hX, hdn]
      obtain ⟨cx, Bx'⟩ := k2.blk
      go_wp2_with (go_at_call 13; refine (tC k1 k2 (by omega)).mono ?_; rintro e w20 ⟨rfl, k5, k6, o6⟩; have k7 := k3.oth o6 (by simpa using k3.ne Bx' (by decide)); have k8 := k4.oth o6 (by simpa using k4.ne Bx' (by decide)))
      go_roundw
      case rel => exact ⟨j + 1, by omega, by go_num, by simp only [runC, hX, hSX], by simp only [runC, hX, hSX]; exact k5, by simp only [runC, hX, hSX]; exact k6, k7, k8⟩
      case measure => simp [intOf]; omega
    · obtain rfl : j = 3 := by omega
      have hdn : (runC (Cw.hd (rqW f v) sh fx) S 3).1.done = true := by rw [E.at_]; rfl
      rw [hdn]
      rw [E.at_] at k1 k2
      simp only at k1 k2
      have c3v : wr.cell? ⟨vb, 0, none⟩ = some (.int .i64 v.k) := k3.cell 0
      have c4v : wr.cell? ⟨vb, 1, none⟩ = some (.int .i64 v.n) := k3.cell 1
      have cvl := k3.lt
      have c0e : wr.cell? ⟨eb, 0, none⟩ = some (.int .i64 md) := k4.cell 0
      have cel := k4.lt
      obtain ⟨gw, hgw⟩ : ∃ g, v.w = g := ⟨_, rfl⟩
      have hg1 : s'.got (97 + (f : Int)) = gw := by rw [O'.gota hf3, show updN old f v.w f = v.w by simp [updN], hgw]
      have hUg : U64 gw := hgw ▸ v.u64
      have hkg : F.Plain.kind gw = v.k := by rw [← hgw]; exact congrArg Vl.k gv.of
      have hng : F.Plain.num gw = v.n := by rw [← hgw]; exact congrArg Vl.n gv.of
      have i97 : IntKind.i64.wrap (97 + (f : Int)) = 97 + (f : Int) := by rw [IntKind.wrap_i64]; omega
      have i113 : IntKind.i64.wrap (113 + (f : Int)) = 113 + (f : Int) := by rw [IntKind.wrap_i64]; omega
      have f0 := fOut0
      obtain ⟨gb, cp, sn⟩ := Two.seen k1
      have hs : sh = false := by rcases h : sh with _ | _; rfl; exact absurd (.inl h) wy.out
      have h9 : v ≠ nine := fun e => wy.out (.inr e)
      have ev : ∀ w, (binOp .eql 24 (.agg #[.int .i64 v.k, .int .i64 v.n]) (.agg #[.int .i64 0, .int .i64 9])).run Tryd.prog w = .ok (.bool false) w := eqVal_f (b := nine) h9
      have ev2 := eqVal_t (a := v) (b := v) rfl
      rw [hs] at hsh
      clear h9
      go_upto_region 18 with (first
        | (go_at_call 15; refine (tLoadS k1 sn (by omega) (97 + (f : Int))).mono ?_; rintro e w21 ⟨rfl, t1, o21, sn1⟩; rw [hg1]; have m1 := k2.oth0 o21; have v1 := k3.oth o21 (by simp); clear o21)
        | (go_at_call 14; refine (F.rOf gw hUg.1 hUg.2 _).mono ?_; rintro e w22 ⟨rfl, hw22⟩; rw [hkg, hng] at hw22 ⊢; have hb22 : Below w21.heap.size w21 w22 := (by rw [hw22]; go_grown); have t2 := t1.below hb22; have m2' := m1.below hb22; have v2 := v1.below hb22; have sn2 := sn1.below hb22; clear hw22 hb22))
      clear c3v c4v cvl c0e cel
      have NBb : Below w22.heap.size w22 (w22.alloc (.cells #[.int .i64 v.k, .int .i64 v.n] 24)) := (Below.refl _ _).alloc (Nat.le_refl _) _
      have NB : Blk w (w22.alloc (.cells #[.int .i64 v.k, .int .i64 v.n] 24)) w22.heap.size 24 #[.int .i64 v.k, .int .i64 v.n] := Blk.new t2.bel.size _ (by decide)
      have t3 := t2.below NBb
      have m3 := m2'.below NBb
      have v3 := v2.below NBb
      generalize w22.alloc (.cells #[.int .i64 v.k, .int .i64 v.n] 24) = w23 at NB t3 m3 v3 ⊢
      generalize w22.heap.size = nb at NB ⊢
      clear NBb
      have y0 : w23.cell? ⟨vb, 0, none⟩ = some (.int .i64 v.k) := v3.cell 0
      have y1 : w23.cell? ⟨vb, 1, none⟩ = some (.int .i64 v.n) := v3.cell 1
      have z0 : w23.cell? ⟨nb, 0, none⟩ = some (.int .i64 v.k) := NB.cell 0
      have z1 : w23.cell? ⟨nb, 1, none⟩ = some (.int .i64 v.n) := NB.cell 1
      have yl := v3.lt
      have zl' := NB.lt
      go_wp2_with (go_at_call 16; refine (cCResult m3).mono ?_; rintro e w24 ⟨rfl, hb24⟩; simp only [Cw.o, Ou.val, Ou.zero, Vl.zero]; have t4 := t3.below hb24; have x0 : w24.cell? ⟨vb, 0, none⟩ = some (.int .i64 v.k) := (v3.below hb24).cell 0; have x1 : w24.cell? ⟨vb, 1, none⟩ = some (.int .i64 v.n) := (v3.below hb24).cell 1; have x2 : w24.cell? ⟨nb, 0, none⟩ = some (.int .i64 v.k) := (NB.below hb24).cell 0; have x3 : w24.cell? ⟨nb, 1, none⟩ = some (.int .i64 v.n) := (NB.below hb24).cell 1; have xl1 := (v3.below hb24).lt; have xl2 := (NB.below hb24).lt; clear hb24)
      go_ret
      exact ⟨rfl, t4.bel⟩
theorem wCloverWaits (av : Option Addr) (ll cv' : Nat) (zl : Nat → Vl) (q : Op15) (w : World) (W : H.Wid w) (cv : CameV w av ll zl) (fit : q.Fit) :
    Calls Tryd.prog 3 #[.slice av ll cv', .agg q.cells] w fun e w' => e = .returned (.bool true) ∧ Below w.heap.size w w' := by
  by_cases h : 7 ≤ 6 + kd q.md 3 ∨ valP q.y = nine
  · exact wWaitsW av ll cv' zl q w W cv fit h
  · exact wWaitsN av ll cv' zl q w W cv fit h
end Go.Proofs.YtmlgohknbjfciaaDoor
