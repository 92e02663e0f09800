/-
  The walk of the law on an access of a moved object, alone.
-/
import Derived.Test.YtahafmglidlcnaaDoorCnw
import Derived.Test.YtahafmglidlcnaaDoorCg
import Derived.Test.YtahafmglidlcnaaDoorCq
namespace Go.Proofs.YtahafmglidlcnaaDoor
set_option linter.unusedVariables false
set_option linter.unusedSimpArgs false
set_option maxRecDepth 100000
open Go.ChangeShapes Go.WideShapes Go.RowKit
open H.Plain (hw pS pC pN pM pG pT pL mv)

set_option maxHeartbeats 8000000 in
theorem wmoved1 (av : Option Addr) (ll cv' : Nat) (zl : Nat → Vl) (ac : Option Addr) (lc cc' : Nat) (zc : Nat → Vl) (q : Op15) (w : World) (W : H.Wid w) (cv : CameV w av ll zl) (cc : CameV w ac lc zc) (fit : q.Fit) (hop : (reqP q).op = 1) :
    Calls Tryd.prog 7 #[.slice av ll cv', .slice ac lc cc', .agg q.cells] w fun e w' => e = .returned (.bool true) ∧ Below w.heap.size w w' := by
  obtain ⟨S, hS⟩ : ∃ S, laidS 2 (fldP ll zl) = S := ⟨_, rfl⟩
  have hSl : S.ws.length = 160 := by rw [← hS]; exact laid_len _ _
  have M0 := laid_m6 2 (fldP ll zl)
  rw [hS] at M0
  have kf := kd_lt q.fd 3 (by decide)
  obtain ⟨f, hf⟩ : ∃ f : Nat, kd q.fd 3 = (f : Int) := ⟨(kd q.fd 3).toNat, by omega⟩
  rw [hf] at kf
  have hf3 : f < 3 := by omega
  have km := kd_lt q.md 3 (by decide)
  obtain ⟨mk, hmk⟩ : ∃ m, kd q.md 3 = m := ⟨_, rfl⟩
  rw [hmk] at km
  obtain ⟨md, hmd⟩ : ∃ m, 5 + mk = m := ⟨_, rfl⟩
  have imd : IntKind.i64.wrap md = md := by rw [IntKind.wrap_i64]; omega
  have gx := good_valP q.x
  have gy := good_valP q.y
  obtain ⟨vx, hvx⟩ : ∃ v, valP q.x = v := ⟨_, rfl⟩
  obtain ⟨vy, hvy⟩ : ∃ v, valP q.y = v := ⟨_, rfl⟩
  rw [hvx] at gx
  rw [hvy] at gy
  obtain ⟨at0, hat0⟩ : ∃ a, (reqP q).at_ = a := ⟨_, rfl⟩
  obtain ⟨f0, hf0⟩ : ∃ a, (reqP q).fd = a := ⟨_, rfl⟩
  have hrq : (reqP q).cells = #[.int .i64 1, .int .i64 at0, .int .i64 f0, .int .i64 vx.k, .int .i64 vx.n, .int .i64 vy.k, .int .i64 vy.n] := by
    unfold Rq.cells
    rw [hop, hat0, hf0, show (reqP q).x = vx from hvx, show (reqP q).y = vy from hvy]
  obtain ⟨fx, hfx⟩ : ∃ b, (md == 8) = b := ⟨_, rfl⟩
  have hnew : Cw.new (Rq.mk 1 96 f vx vy) ⟨md, 0, 0⟩ = (Cw.hd (Rq.mk 1 96 f vx vy) false) := by
    unfold Cw.new
    rw [if_neg (by simp), if_neg (by simp only; omega)]
    rw [show (md == 8) = false by simp; omega]
  have okR : (Rq.mk 1 96 f vx vy).Ok := ⟨.inl rfl, by simp, by simp, by simp, by simp only; omega⟩
  have gu : Vl.Good (if f < lc then valP (zc f) else Vl.zero) := by split; exact good_valP _; exact good_zero
  obtain ⟨u, hu⟩ : ∃ u, (if f < lc then valP (zc f) else Vl.zero) = u := ⟨_, rfl⟩
  rw [hu] at gu
  have M1 := M0.storeC hf3 u.w
  obtain ⟨S1, hS1⟩ : ∃ s, S.store (113 + (f : Int)) u.w = s := ⟨_, rfl⟩
  rw [hS1] at M1
  obtain ⟨d, x', s', c', hd8, E, M', hwant, hV, hY⟩ := moved_ends (r := (Rq.mk 1 96 f vx vy)) (u := u) M1 hf3 (by simp) rfl rfl gu gx (by simp [updN])
  obtain ⟨wa, hwa⟩ : ∃ v, (fldP ll zl f).w = v := ⟨_, rfl⟩
  have hwd0 : S.word (97 + (f : Int)) = wa := by rw [M0.fa f hf3]; exact hwa
  have hwant' : c' f = u.w := hwant.trans (if_neg (by simp))
  have hVu : Hid (x'.o.v = u) := hV rfl
  have hyes : x'.o.y = false := hY.trans (decide_eq_false (by simp))
  clear hwant hV hY
  obtain ⟨hit', o', rfl⟩ := done_fin E.done
  have a0 : Below w.heap.size w (w.alloc (.cells q.cells 28)) := (Below.refl _ _).alloc (Nat.le_refl _) _
  have C0 : Blk w (w.alloc (.cells q.cells 28)) w.heap.size 28 q.cells := Blk.new (Nat.le_refl _) _ (by decide)
  go_enter Tryd.func7, Tryd.ntmps7
  unfold Op15.cells
  go_upto_region 1 with (fail)
  obtain ⟨ob, hob⟩ : ∃ ob, w.heap.size = ob := ⟨_, rfl⟩
  change Blk w (w.alloc (.cells q.cells 28)) w.heap.size 28 q.cells at C0
  rw [hob] at C0
  unfold Op15.cells at C0 a0
  rw [hob]
  have cv0 := cv.on a0
  generalize hw0 : w.alloc _ = wa0 at C0 a0 cv0 ⊢
  clear hw0
  go_upto_region 3 with (first
    | (go_at_call 8; refine (cShown _ (W.on a0)).mono ?_; rintro e w1 ⟨rfl, hb1'⟩; have hb1 := bel_trans a0 hb1'; have C1 := C0.below hb1'; have cv1 := cv0.on hb1'; clear hb1')
    | (go_at_call 9; refine (cLaid w1 (W.on hb1) cv1).mono ?_; rintro e w2 ⟨b, y, rfl, h2⟩; rw [hS] at h2; have C2 := C1.below h2.bel; have h3 : Two w w2 b y S S 18 := h2.lift hb1 W; clear h2))
  have d0 : w2.cell? ⟨ob, 0, none⟩ = some (.int .i64 q.ob) := C2.cell 0
  have d1 : w2.cell? ⟨ob, 1, none⟩ = some (.int .i64 q.fd) := C2.cell 1
  have d2 : w2.cell? ⟨ob, 2, none⟩ = some (.int .i64 q.ac) := C2.cell 2
  have d3 : w2.cell? ⟨ob, 3, none⟩ = some (.int .i64 q.md) := C2.cell 3
  have d4 : w2.cell? ⟨ob, 4, none⟩ = some (.int .i64 q.x.k) := C2.cell 4
  have d5 : w2.cell? ⟨ob, 5, none⟩ = some (.int .i64 q.x.n) := C2.cell 5
  have d6 : w2.cell? ⟨ob, 6, none⟩ = some (.int .i64 q.y.k) := C2.cell 6
  have d7 : w2.cell? ⟨ob, 7, none⟩ = some (.int .i64 q.y.n) := C2.cell 7
  have d8 : w2.cell? ⟨ob, 8, none⟩ = some (.int .i64 q.hS) := C2.cell 8
  have d9 : w2.cell? ⟨ob, 9, none⟩ = some (.int .i64 q.hC) := C2.cell 9
  have d10 : w2.cell? ⟨ob, 10, none⟩ = some (.int .i64 q.hN) := C2.cell 10
  have d11 : w2.cell? ⟨ob, 11, none⟩ = some (.int .i64 q.hM) := C2.cell 11
  have d12 : w2.cell? ⟨ob, 12, none⟩ = some (.int .i64 q.hG) := C2.cell 12
  have d13 : w2.cell? ⟨ob, 13, none⟩ = some (.int .i64 q.hT) := C2.cell 13
  have d14 : w2.cell? ⟨ob, 14, none⟩ = some (.int .i64 q.hL) := C2.cell 14
  go_upto_region 5 with (first
    | (go_at_call 10; refine (cKind _ q.fd 3 fit.fd.1 fit.fd.2 (by decide)).mono ?_; rintro e wk ⟨rfl, hwk⟩; rw [hwk, hf]; clear hwk wk)
    | (go_at_call 20; refine (cReq q fit _).mono ?_; rintro e w3 ⟨rfl, hb3⟩; rw [hrq]; have h4 := h3.below hb3; have C3 := C2.below hb3; clear hb3))
  clear d0 d1 d2 d3 d4 d5 d6 d7 d8 d9 d10 d11 d12 d13 d14
  have Q4b : Below w3.heap.size w3 (w3.alloc (.cells #[.int .i64 1, .int .i64 at0, .int .i64 f0, .int .i64 vx.k, .int .i64 vx.n, .int .i64 vy.k, .int .i64 vy.n] 40)) := (Below.refl _ _).alloc (Nat.le_refl _) _
  have Q4 : Blk w (w3.alloc (.cells #[.int .i64 1, .int .i64 at0, .int .i64 f0, .int .i64 vx.k, .int .i64 vx.n, .int .i64 vy.k, .int .i64 vy.n] 40)) w3.heap.size 40 #[.int .i64 1, .int .i64 at0, .int .i64 f0, .int .i64 vx.k, .int .i64 vx.n, .int .i64 vy.k, .int .i64 vy.n] := Blk.new h4.bel.size _ (by decide)
  have h5 := h4.below Q4b
  have C4 := C3.below Q4b
  generalize w3.alloc (.cells #[.int .i64 1, .int .i64 at0, .int .i64 f0, .int .i64 vx.k, .int .i64 vx.n, .int .i64 vy.k, .int .i64 vy.n] 40) = w4 at Q4 h5 C4 ⊢
  generalize w3.heap.size = rb at Q4 ⊢
  clear Q4b
  have e1 : w4.cell? ⟨rb, 1, none⟩ = some (.int .i64 at0) := Q4.cell 1
  have e2 : w4.cell? ⟨rb, 2, none⟩ = some (.int .i64 f0) := Q4.cell 2
  have ef1 := Q4.free 1
  have ef2 := Q4.free 2
  go_upto_region 7 with (fail)
  have KQ : Kept [rb] w4 ((w4.setCell ⟨rb, 1, none⟩ (.int .i64 96)).setCell ⟨rb, 2, none⟩ (.int .i64 f)) := (Kept.setCell [rb] _ _ _ (by simp)).trans (Kept.setCell [rb] _ _ _ (by simp)) (fun _ h => .inl h)
  have Q5 : Blk w ((w4.setCell ⟨rb, 1, none⟩ (.int .i64 96)).setCell ⟨rb, 2, none⟩ (.int .i64 f)) rb 40 #[.int .i64 1, .int .i64 96, .int .i64 f, .int .i64 vx.k, .int .i64 vx.n, .int .i64 vy.k, .int .i64 vy.n] := (Q4.set 1 _).set 2 _
  have h6 := to_twoB h5 KQ Q4
  have C5 := C4.oth (Oth.kept KQ) (by simpa using C4.ne Q4 (by decide))
  clear e1 e2 ef1 ef2
  generalize (w4.setCell ⟨rb, 1, none⟩ (.int .i64 96)).setCell ⟨rb, 2, none⟩ (.int .i64 f) = w5 at Q5 h6 C5 ⊢
  clear KQ
  have hbd : Below w5.heap.size w5 w5.drew := (Below.refl _ _).drew
  refine wp_region_noPanic ?_
  refine wp_region_held_drew (S := fun w' => w'.cell? ⟨rb, 0, none⟩ = some (.int .i64 1) ∧ w'.cell? ⟨rb, 1, none⟩ = some (.int .i64 96) ∧ w'.cell? ⟨rb, 2, none⟩ = some (.int .i64 f) ∧ w'.cell? ⟨rb, 3, none⟩ = some (.int .i64 vx.k) ∧ w'.cell? ⟨rb, 4, none⟩ = some (.int .i64 vx.n) ∧ w'.cell? ⟨rb, 5, none⟩ = some (.int .i64 vy.k) ∧ w'.cell? ⟨rb, 6, none⟩ = some (.int .i64 vy.n) ∧ w'.cell? ⟨ob, 3, none⟩ = some (.int .i64 q.md)) (by kernel_rfl) ⟨(Q5.below hbd).cell 0, (Q5.below hbd).cell 1, (Q5.below hbd).cell 2, (Q5.below hbd).cell 3, (Q5.below hbd).cell 4, (Q5.below hbd).cell 5, (Q5.below hbd).cell 6, (C5.below hbd).cell 3⟩ (fun hHeld => ?_)
  refine takeH (i := 0) 33 (.agg #[.int .i64 1, .int .i64 96, .int .i64 f, .int .i64 vx.k, .int .i64 vx.n, .int .i64 vy.k, .int .i64 vy.n]) rfl rfl (by kernel_rfl) (by kernel_rfl) (by kernel_rfl) (fun _ _ _ h => h) (by rfl) ?_ (by assumption) ?_
  · intro w hSw; (try dsimp only at hSw); go_simp
  simp only [List.setIfInBounds_toArray, List.set_cons_zero, List.set_cons_succ]
  refine takeH (i := 1) 34 (.pointer (some ⟨ob, 3, none⟩)) rfl rfl (by kernel_rfl) (by kernel_rfl) (by kernel_rfl) (fun _ _ _ h => h) (by rfl) ?_ (by assumption) ?_
  · intro w hSw; (try dsimp only at hSw); go_simp
  simp only [List.setIfInBounds_toArray, List.set_cons_zero, List.set_cons_succ]
  refine takeH (i := 2) 35 (.int .i64 q.md) rfl rfl (by kernel_rfl) (by kernel_rfl) (by kernel_rfl) (fun _ _ _ h => h) (by rfl) ?_ (by assumption) ?_
  · intro w hSw; (try dsimp only at hSw); go_simp
  simp only [List.setIfInBounds_toArray, List.set_cons_zero, List.set_cons_succ]
  refine wpAnyH_ready (rs := [3]) (by kernel_rfl) (by simp) ?_
  refine AllReadyH.cons rfl (fun K hK => ?_) AllReadyH.nil
  go_simp
  refine (cKind _ q.md 3 fit.md.1 fit.md.2 (by decide)).mono ?_
  rintro e wk ⟨rfl, hwk⟩
  rw [hwk, hmk]
  clear hwk wk
  refine hK.out _ _ ⟨(Q5.below hbd).cell 0, (Q5.below hbd).cell 1, (Q5.below hbd).cell 2, (Q5.below hbd).cell 3, (Q5.below hbd).cell 4, (Q5.below hbd).cell 5, (Q5.below hbd).cell 6, (C5.below hbd).cell 3⟩ (fun hHeld => ?_)
  clear hK K
  try simp only [Act.put, List.setIfInBounds_toArray, List.set_cons_zero, List.set_cons_succ]
  refine takeH (i := 4) 37 (.int .i64 md) rfl rfl (by kernel_rfl) (by kernel_rfl) (by kernel_rfl) (fun _ _ _ h => h) (by rfl) ?_ (by assumption) ?_
  · intro w hSw; (try dsimp only at hSw); go_simp
  simp only [List.setIfInBounds_toArray, List.set_cons_zero, List.set_cons_succ]
  refine takeH (i := 5) 38 (.agg #[.int .i64 md, .int .i64 0, .int .i64 0]) rfl rfl (by kernel_rfl) (by kernel_rfl) (by kernel_rfl) (fun _ _ _ h => h) (by rfl) ?_ (by assumption) ?_
  · intro w hSw; (try dsimp only at hSw); go_simp
  simp only [List.setIfInBounds_toArray, List.set_cons_zero, List.set_cons_succ]
  refine wpAnyH_ready (rs := [6]) (by kernel_rfl) (by simp) ?_
  refine AllReadyH.cons rfl (fun K hK => ?_) AllReadyH.nil
  go_simp
  refine (cNewC (Rq.mk 1 96 f vx vy) ⟨md, 0, 0⟩ _ okR).mono ?_
  rintro e w6 ⟨p, rfl, Mp⟩
  rw [hnew] at Mp
  have h7 := (h6.below hbd).below Mp.bel
  have m7 : Cm w w6 p (Cw.hd (Rq.mk 1 96 f vx vy) false) := Mp.cm (h6.below hbd).bel.size okR
  have Q6 := (Q5.below hbd).below Mp.bel
  have C6 := (C5.below hbd).below Mp.bel
  clear Mp
  refine hK.out _ _ ⟨Q6.cell 0, Q6.cell 1, Q6.cell 2, Q6.cell 3, Q6.cell 4, Q6.cell 5, Q6.cell 6, C6.cell 3⟩ (fun hHeld => ?_)
  clear hK K
  try simp only [Act.put, List.setIfInBounds_toArray, List.set_cons_zero, List.set_cons_succ]
  refine takeH (i := 7) 12 (pt p) rfl rfl (by kernel_rfl) (by kernel_rfl) (by kernel_rfl) (fun _ _ _ h => h) (by rfl) ?_ (by assumption) ?_
  · intro w hSw; (try dsimp only at hSw); go_simp
  simp only [List.setIfInBounds_toArray, List.set_cons_zero, List.set_cons_succ]
  refine wpAnyH_done (by kernel_rfl) ?_ _
  refine NoPanic.normal ?_
  clear h3 h4 h5 h6 C2 C3 C4 C5 Q4 Q5 hbd
  go_upto_region 11 with (fail)
  have U7b : Below w6.heap.size w6 (w6.alloc (.cells #[.int .i64 0, .int .i64 0] 24)) := (Below.refl _ _).alloc (Nat.le_refl _) _
  have U7 : Blk w (w6.alloc (.cells #[.int .i64 0, .int .i64 0] 24)) w6.heap.size 24 #[.int .i64 0, .int .i64 0] := Blk.new h7.bel.size _ (by decide)
  have h8 := h7.below U7b
  have m8 := m7.below U7b
  have Q7 := Q6.below U7b
  generalize w6.alloc (.cells #[.int .i64 0, .int .i64 0] 24) = w7 at U7 h8 m8 Q7 ⊢
  generalize w6.heap.size = ub at U7 ⊢
  clear U7b
  by_cases hin : f < lc
  · have cc1 := cc.on h8.bel
    obtain ⟨vb', off, rfl, hvb, hz⟩ : ∃ b off, ac = some ⟨b, off, none⟩ ∧ b < w7.heap.size ∧ ∀ j, j < lc → w7.cell? ⟨b, off + j * 2, none⟩ = some (.int .i64 (zc j).k) ∧ w7.cell? ⟨b, off + (j * 2 + 1), none⟩ = some (.int .i64 (zc j).n) ∧ (zc j).Fit := (cc1.resolve_left (by omega))
    obtain ⟨d0, d1, df⟩ := hz f hin
    obtain ⟨qv, hqv⟩ : ∃ qv, zc f = qv := ⟨_, rfl⟩
    rw [hqv] at d0 d1 df
    have hvu : valP qv = u := by rw [← hu, if_pos hin, hqv]
    have hini : (f : Int) < (lc : Int) := by omega
    rw [← Nat.add_assoc] at d1
    clear hz hqv
    go_upto_region 13 with (go_at_call 12; refine (cVal qv df _).mono ?_; rintro e w7b ⟨rfl, hb7⟩; rw [hvu]; have h8b := h8.below hb7; have m8b := m8.below hb7; have Q7b := Q7.below hb7; have U7b := U7.below hb7; have z0 : w7b.cell? ⟨ub, 0, none⟩ = some (.int .i64 0) := U7b.cell 0; have z1 : w7b.cell? ⟨ub, 1, none⟩ = some (.int .i64 0) := U7b.cell 1; have zf0 := U7b.free 0; have zf1 := U7b.free 1)
    have KU : Kept [ub] w7b ((w7b.setCell ⟨ub, 0, none⟩ (.int .i64 u.k)).setCell ⟨ub, 1, none⟩ (.int .i64 u.n)) := (Kept.setCell [ub] _ _ _ (by simp)).trans (Kept.setCell [ub] _ _ _ (by simp)) (fun _ h => .inl h)
    have h9 := to_twoB h8b KU U7b
    have U8 : Blk w ((w7b.setCell ⟨ub, 0, none⟩ (.int .i64 u.k)).setCell ⟨ub, 1, none⟩ (.int .i64 u.n)) ub 24 #[.int .i64 u.k, .int .i64 u.n] := (U7b.set 0 _).set 1 _
    have Q8 := Q7b.oth (Oth.kept KU) (by simpa using Q7b.ne U7b (by decide))
    obtain ⟨cxb, Bxb⟩ := m8b.blk
    have m9 := m8b.hd (Oth.kept KU) (by simpa using Bxb.ne U7b (by decide))
    clear z0 z1 zf0 zf1 d0 d1
    generalize (w7b.setCell ⟨ub, 0, none⟩ (.int .i64 u.k)).setCell ⟨ub, 1, none⟩ (.int .i64 u.n) = w8 at h9 U8 Q8 m9 ⊢
    have x0 : w8.cell? ⟨ub, 0, none⟩ = some (.int .i64 u.k) := U8.cell 0
    have x1 : w8.cell? ⟨ub, 1, none⟩ = some (.int .i64 u.n) := U8.cell 1
    have xl := U8.lt
    have i1 : IntKind.i64.wrap (113 + (f : Int)) = 113 + (f : Int) := by rw [IntKind.wrap_i64]; omega
    have hU2 := u64_word u.k u.n
    obtain ⟨wd2, hwd2⟩ : ∃ wd2, F.Plain.word u.k u.n = wd2 := ⟨_, rfl⟩
    rw [hwd2] at hU2
    go_wp2_with (first
      | (go_at_call 24; refine (F.rWord u.k u.n _).mono ?_; rintro e w10 ⟨rfl, m10, hw10⟩; rw [hwd2]; have hb10 : Below w8.heap.size w8 w10 := (by rw [hw10]; exact F.bdr ((Below.refl _ _).alloc (Nat.le_refl _) _) _); have h10 := h9.below hb10; have m11 := m9.below hb10; have Q10 := Q8.below hb10; have U10 := U8.below hb10; clear hw10 hb10)
      | (go_at_call 23; refine (tStore h10 (by omega) (113 + (f : Int)) hU2).mono ?_; rintro e w11 ⟨rfl, h11, o11⟩; rw [← hwd2, show F.Plain.word u.k u.n = u.w from rfl, hS1] at h11; have m12 := m11.oth0 o11; have Q11 := Q10.oth o11 (by simp); have U11 := U10.oth o11 (by simp); clear o11))
    go_loopw [14, 15] (fun dn i wr => ∃ j : Nat, j ≤ d ∧ i = .int .i64 j ∧ dn = .bool (runC (Cw.hd (Rq.mk 1 96 f vx vy) false) S1 j).1.done ∧ Two w wr b y (runC (Cw.hd (Rq.mk 1 96 f vx vy) false) S1 j).2 S (19 + j) ∧ Cm w wr p (runC (Cw.hd (Rq.mk 1 96 f vx vy) false) S1 j).1 ∧ Blk w wr rb 40 #[.int .i64 1, .int .i64 96, .int .i64 f, .int .i64 vx.k, .int .i64 vx.n, .int .i64 vy.k, .int .i64 vy.n] ∧ Blk w wr ub 24 #[.int .i64 u.k, .int .i64 u.n]) (fun _ i _ => 12 - (intOf i).toNat)
    case atStart => exact ⟨0, Nat.zero_le _, rfl, rfl, h11, m12, Q11, U11⟩
    case round =>
      obtain ⟨j, hj, rfl, rfl, k1, k2, k3, k9⟩ := hrel
      rcases Nat.lt_or_ge j d with hjd | hjd
      · have hdn : (runC (Cw.hd (Rq.mk 1 96 f vx vy) false) S1 j).1.done = false := E.not j hjd
        have hji : (j : Int) < 12 := by omega
        obtain ⟨XX, hX⟩ : ∃ X, (runC (Cw.hd (Rq.mk 1 96 f vx vy) false) S1 j).1 = X := ⟨_, rfl⟩
        obtain ⟨SX, hSX⟩ : ∃ X, (runC (Cw.hd (Rq.mk 1 96 f vx vy) false) S1 j).2 = X := ⟨_, rfl⟩
        rw [hX] at k2 hdn
        rw [hSX] at k1
        rw [hX, hdn]
        obtain ⟨cx, Bx'⟩ := k2.blk
        go_wp2_with (go_at_call 13; refine (tC k1 k2 (by omega)).mono ?_; rintro e w20 ⟨rfl, k4, k5, o6⟩; have k6 := k3.oth o6 (by simpa using k3.ne Bx' (by decide)); have k10 := k9.oth o6 (by simpa using k9.ne Bx' (by decide)))
        go_roundw
        case rel => exact ⟨j + 1, by omega, by go_num, by simp only [runC, hX, hSX], by simp only [runC, hX, hSX]; exact k4, by simp only [runC, hX, hSX]; exact k5, k6, k10⟩
        case measure => simp [intOf]; omega
      · obtain rfl : j = d := by omega
        have hdn : (runC (Cw.hd (Rq.mk 1 96 f vx vy) false) S1 j).1.done = true := by rw [E.at_]; rfl
        rw [hdn]
        rw [E.at_] at k1 k2
        have hji : (j : Int) < 12 := by omega
        have r3 : wr.cell? ⟨rb, 3, none⟩ = some (.int .i64 vx.k) := k3.cell 3
        have r4 : wr.cell? ⟨rb, 4, none⟩ = some (.int .i64 vx.n) := k3.cell 4
        have rl := k3.lt
        go_upto_region 20 with (fail)
        clear r3 r4 rl
        have hue' : ub ≠ wr.heap.size := by have := k9.lt; omega
        have E1b : Below wr.heap.size wr (wr.alloc (.cells #[.int .i64 vx.k, .int .i64 vx.n] 24)) := (Below.refl _ _).alloc (Nat.le_refl _) _
        have E1 : Blk w (wr.alloc (.cells #[.int .i64 vx.k, .int .i64 vx.n] 24)) wr.heap.size 24 #[.int .i64 vx.k, .int .i64 vx.n] := Blk.new k1.bel.size _ (by decide)
        have t1 := k1.below E1b
        have m1 := k2.below E1b
        have R1 := k3.below E1b
        have U1 := k9.below E1b
        generalize wr.alloc (.cells #[.int .i64 vx.k, .int .i64 vx.n] 24) = w21 at E1 t1 m1 R1 U1 ⊢
        generalize wr.heap.size = eb at E1 hue' ⊢
        clear E1b
        have u0 : w21.cell? ⟨ub, 0, none⟩ = some (.int .i64 u.k) := U1.cell 0
        have u1 : w21.cell? ⟨ub, 1, none⟩ = some (.int .i64 u.n) := U1.cell 1
        have ul := U1.lt
        go_upto_region 21 with (fail)
        clear u0 u1 ul
        have huw' : ub ≠ w21.heap.size := by have := U1.lt; omega
        have hew' : eb ≠ w21.heap.size := by have := E1.lt; omega
        have B2b : Below w21.heap.size w21 (w21.alloc (.cells #[.int .i64 u.k, .int .i64 u.n] 24)) := (Below.refl _ _).alloc (Nat.le_refl _) _
        have B2 : Blk w (w21.alloc (.cells #[.int .i64 u.k, .int .i64 u.n] 24)) w21.heap.size 24 #[.int .i64 u.k, .int .i64 u.n] := Blk.new t1.bel.size _ (by decide)
        have t2 := t1.below B2b
        have m2 := m1.below B2b
        have R2 := R1.below B2b
        have U2 := U1.below B2b
        have E2 := E1.below B2b
        generalize w21.alloc (.cells #[.int .i64 u.k, .int .i64 u.n] 24) = w22 at B2 t2 m2 R2 U2 E2 ⊢
        generalize w21.heap.size = wb at B2 huw' hew' ⊢
        clear B2b
        have x0 : w22.cell? ⟨eb, 0, none⟩ = some (.int .i64 vx.k) := E2.cell 0
        have x1 : w22.cell? ⟨eb, 1, none⟩ = some (.int .i64 vx.n) := E2.cell 1
        have xf := E2.free 1
        have xl := E2.lt
        obtain ⟨bb, hbb⟩ : ∃ bb, (vx.k == 1 && vx.n == 96) = bb := ⟨_, rfl⟩
        go_cut [87] from 80 (fun c wx => c = .bool bb ∧ wx = w22)
        case first =>
          rcases q1 : (vx.k == 1) with _ | _
          · have hb0 : bb = false := by rw [← hbb, q1]; rfl
            clear hbb
            go_wp2
            go_meet
            case rel => exact ⟨by rw [hb0], rfl⟩
          · rcases q2 : (vx.n == 96) with _ | _
            · have hb0 : bb = false := by rw [← hbb, q1, q2]; rfl
              clear hbb
              go_wp2
              go_meet
              case rel => exact ⟨by rw [hb0], rfl⟩
            · have hb0 : bb = true := by rw [← hbb, q1, q2]; rfl
              clear hbb
              go_wp2
              go_meet
              case rel => exact ⟨by rw [hb0], rfl⟩
        case rest =>
          obtain ⟨hc1, hc2⟩ := hcut
          rw [hc1, hc2]
          clear hc1 hc2 wc
          go_upto_if 87 with (fail)
          go_cut [] from 88 (fun wx => Two w wx b y s' S (19 + j) ∧ Cm w wx p (.fin hit' o') ∧ Blk w wx rb 40 #[.int .i64 1, .int .i64 96, .int .i64 f, .int .i64 vx.k, .int .i64 vx.n, .int .i64 vy.k, .int .i64 vy.n] ∧ Blk w wx ub 24 #[.int .i64 u.k, .int .i64 u.n] ∧ Blk w wx eb 24 #[.int .i64 (nrm vx).k, .int .i64 (nrm vx).n] ∧ Blk w wx wb 24 #[.int .i64 u.k, .int .i64 u.n])
          case first =>
            cases bb with
            | false =>
              have hnr : nrm vx = vx := by unfold nrm; rw [if_neg (fun h => by simp [h.1, h.2] at hbb)]
              clear hbb
              go_wp2
              go_meet
              case rel => exact ⟨t2, m2, R2, U2, by rw [hnr]; exact E2, B2⟩
            | true =>
              simp only [Bool.and_eq_true, beq_iff_eq] at hbb
              have hnr : nrm vx = ⟨vx.k, 112⟩ := by unfold nrm; rw [if_pos hbb, hbb.1]
              clear hbb
              go_wp2
              go_meet
              case rel =>
                have KX := (Kept.setCell [eb] w22 ⟨eb, 1, none⟩ (.int .i64 112) (by simp))
                obtain ⟨cx7, Bx7⟩ := (m2).blk
                exact ⟨to_twoB t2 KX E2, (m2).fin (Oth.kept KX) (by simpa using Bx7.ne E2 (by decide)), (R2).oth (Oth.kept KX) (by simpa using (R2).ne E2 (by decide)), (U2).oth (Oth.kept KX) (by simpa using hue'), by rw [hnr]; exact (E2).set 1 _, (B2).oth (Oth.kept KX) (by simpa using (Ne.symm hew'))⟩
          case rest =>
            clear x0 x1 xf xl hbb
            obtain ⟨t3, m3, R3, U3, E3, B3⟩ := hcut
            clear t2 m2 R2 U2 E2 B2 t1 m1 R1 U1 E1 k1 k2 k3 k9
            go_upto_region 23 with (fail)
            have x0 : wc.cell? ⟨wb, 0, none⟩ = some (.int .i64 u.k) := B3.cell 0
            have x1 : wc.cell? ⟨wb, 1, none⟩ = some (.int .i64 u.n) := B3.cell 1
            have xf := B3.free 1
            have xl := B3.lt
            obtain ⟨bb, hbb⟩ : ∃ bb, (u.k == 1 && u.n == 96) = bb := ⟨_, rfl⟩
            go_cut [96] from 89 (fun c wx => c = .bool bb ∧ wx = wc)
            case first =>
              rcases q1 : (u.k == 1) with _ | _
              · have hb0 : bb = false := by rw [← hbb, q1]; rfl
                clear hbb
                go_wp2
                go_meet
                case rel => exact ⟨by rw [hb0], rfl⟩
              · rcases q2 : (u.n == 96) with _ | _
                · have hb0 : bb = false := by rw [← hbb, q1, q2]; rfl
                  clear hbb
                  go_wp2
                  go_meet
                  case rel => exact ⟨by rw [hb0], rfl⟩
                · have hb0 : bb = true := by rw [← hbb, q1, q2]; rfl
                  clear hbb
                  go_wp2
                  go_meet
                  case rel => exact ⟨by rw [hb0], rfl⟩
            case rest =>
              obtain ⟨hc1, hc2⟩ := hcut
              rw [hc1, hc2]
              clear hc1 hc2 wc
              go_upto_if 96 with (fail)
              go_cut [] from 97 (fun wx => Two w wx b y s' S (19 + j) ∧ Cm w wx p (.fin hit' o') ∧ Blk w wx rb 40 #[.int .i64 1, .int .i64 96, .int .i64 f, .int .i64 vx.k, .int .i64 vx.n, .int .i64 vy.k, .int .i64 vy.n] ∧ Blk w wx ub 24 #[.int .i64 u.k, .int .i64 u.n] ∧ Blk w wx wb 24 #[.int .i64 (nrm u).k, .int .i64 (nrm u).n] ∧ Blk w wx eb 24 #[.int .i64 (nrm vx).k, .int .i64 (nrm vx).n])
              case first =>
                cases bb with
                | false =>
                  have hnr : nrm u = u := by unfold nrm; rw [if_neg (fun h => by simp [h.1, h.2] at hbb)]
                  clear hbb
                  go_wp2
                  go_meet
                  case rel => exact ⟨t3, m3, R3, U3, by rw [hnr]; exact B3, E3⟩
                | true =>
                  simp only [Bool.and_eq_true, beq_iff_eq] at hbb
                  have hnr : nrm u = ⟨u.k, 112⟩ := by unfold nrm; rw [if_pos hbb, hbb.1]
                  clear hbb
                  go_wp2
                  go_meet
                  case rel =>
                    have KX := (Kept.setCell [wb] wc ⟨wb, 1, none⟩ (.int .i64 112) (by simp))
                    obtain ⟨cx7, Bx7⟩ := (m3).blk
                    exact ⟨to_twoB t3 KX B3, (m3).fin (Oth.kept KX) (by simpa using Bx7.ne B3 (by decide)), (R3).oth (Oth.kept KX) (by simpa using (R3).ne B3 (by decide)), (U3).oth (Oth.kept KX) (by simpa using huw'), by rw [hnr]; exact (B3).set 1 _, (E3).oth (Oth.kept KX) (by simpa using hew')⟩
              case rest =>
                clear x0 x1 xf xl hbb
                obtain ⟨t4, m4, R4, U4, B4, E4⟩ := hcut
                clear t3 m3 R3 U3 E3 B3
                obtain ⟨w24, hw24⟩ : ∃ x, wc = x := ⟨_, rfl⟩
                rw [hw24] at t4 m4 R4 U4 B4 E4 ⊢
                clear hw24
                obtain ⟨ne, hne⟩ : ∃ v, nrm vx = v := ⟨_, rfl⟩
                obtain ⟨nu, hnu⟩ : ∃ v, nrm u = v := ⟨_, rfl⟩
                rw [hne] at E4
                rw [hnu] at B4
                have u0 : w24.cell? ⟨ub, 0, none⟩ = some (.int .i64 u.k) := U4.cell 0
                have u1 : w24.cell? ⟨ub, 1, none⟩ = some (.int .i64 u.n) := U4.cell 1
                have ul := U4.lt
                go_upto_region 26 with (fail)
                clear u0 u1 ul
                obtain ⟨g, cp, sn4⟩ := Two.seen t4
                have hun' : ub ≠ w24.heap.size := by have := U4.lt; omega
                have hen' : eb ≠ w24.heap.size := by have := E4.lt; omega
                have hwn' : wb ≠ w24.heap.size := by have := B4.lt; omega
                have N5b : Below w24.heap.size w24 (w24.alloc (.cells #[.int .i64 u.k, .int .i64 u.n] 24)) := (Below.refl _ _).alloc (Nat.le_refl _) _
                have N5 : Blk w (w24.alloc (.cells #[.int .i64 u.k, .int .i64 u.n] 24)) w24.heap.size 24 #[.int .i64 u.k, .int .i64 u.n] := Blk.new t4.bel.size _ (by decide)
                have t5 := t4.below N5b
                have m5 := m4.below N5b
                have R5 := R4.below N5b
                have U5 := U4.below N5b
                have E5 := E4.below N5b
                have B5 := B4.below N5b
                have sn5 := sn4.below N5b
                generalize w24.alloc (.cells #[.int .i64 u.k, .int .i64 u.n] 24) = w25 at N5 t5 m5 R5 U5 E5 B5 sn5 ⊢
                generalize w24.heap.size = nb at N5 hun' hen' hwn' ⊢
                clear N5b
                have r0 : w25.cell? ⟨rb, 0, none⟩ = some (.int .i64 1) := R5.cell 0
                have r1 : w25.cell? ⟨rb, 1, none⟩ = some (.int .i64 96) := R5.cell 1
                have r2 : w25.cell? ⟨rb, 2, none⟩ = some (.int .i64 f) := R5.cell 2
                have r3 : w25.cell? ⟨rb, 3, none⟩ = some (.int .i64 vx.k) := R5.cell 3
                have r4 : w25.cell? ⟨rb, 4, none⟩ = some (.int .i64 vx.n) := R5.cell 4
                have r5 : w25.cell? ⟨rb, 5, none⟩ = some (.int .i64 vy.k) := R5.cell 5
                have r6 : w25.cell? ⟨rb, 6, none⟩ = some (.int .i64 vy.n) := R5.cell 6
                have es0 : w25.cell? ⟨eb, 0, none⟩ = some (.int .i64 ne.k) := E5.cell 0
                have es1 : w25.cell? ⟨eb, 1, none⟩ = some (.int .i64 ne.n) := E5.cell 1
                have ws0 : w25.cell? ⟨wb, 0, none⟩ = some (.int .i64 nu.k) := B5.cell 0
                have ws1 : w25.cell? ⟨wb, 1, none⟩ = some (.int .i64 nu.n) := B5.cell 1
                have ns0 : w25.cell? ⟨nb, 0, none⟩ = some (.int .i64 u.k) := N5.cell 0
                have ns1 : w25.cell? ⟨nb, 1, none⟩ = some (.int .i64 u.n) := N5.cell 1
                have nf0 := N5.free 0
                have nf1 := N5.free 1
                have rl := R5.lt
                have el := E5.lt
                have wl' := B5.lt
                have nl := N5.lt
                go_upto_region 28 with (fail)
                clear r0 r1 r2 r3 r4 r5 r6 es0 es1 ws0 ws1 ns0 ns1 nf0 nf1 rl el wl' nl
                obtain ⟨uw, huw⟩ : ∃ v, u.w = v := ⟨_, rfl⟩
                have hUw : U64 uw := huw ▸ u.u64
                have hkw : F.Plain.kind uw = u.k := by rw [← huw]; exact congrArg Vl.k gu.of
                have hnw : F.Plain.num uw = u.n := by rw [← huw]; exact congrArg Vl.n gu.of
                have hga : s'.got (97 + (f : Int)) = wa := by rw [M'.gota hf3]; exact hwa
                have hgc : (s'.load (97 + (f : Int))).got (113 + (f : Int)) = uw := by rw [(M'.load (in_a hf3)).gotc hf3, hwant', huw]
                have i97 : IntKind.i64.wrap (97 + (f : Int)) = 97 + (f : Int) := by rw [IntKind.wrap_i64]; omega
                have i113 : IntKind.i64.wrap (113 + (f : Int)) = 113 + (f : Int) := by rw [IntKind.wrap_i64]; omega
                have ev := eqVal_t (a := u) (b := u) rfl
                have evu := eqVal_t (a := u) (b := u) rfl
                have fo := fOut1
                have fo2 := fOut2
                have bt := beqTT
                have bf := beqFF
                obtain ⟨oc, hoc⟩ : ∃ c, (Cw.fin hit' o').o.c = c := ⟨_, rfl⟩
                obtain ⟨ov, hov⟩ : ∃ c, (Cw.fin hit' o').o.v = c := ⟨_, rfl⟩
                have hoy : (Cw.fin hit' o').o.y = false := hyes
                have hou : ov = u := by rw [← hov]; exact hVu.out
                have hres : (Cw.fin hit' o').o.val = .agg #[.int .i64 oc, .int .i64 u.k, .int .i64 u.n, .bool false] := by rw [← hou, ← hov, ← hoc, ← hoy]; rfl
                have hbd : Below w25.heap.size w25 w25.drew := (Below.refl _ _).drew
                have TT0 : Two w w25.drew b y s' S _ := t5.below hbd
                have MM0 := m5.below hbd
                have SN0 := sn5.below hbd
                have NN0 := N5.below hbd
                have RR0 := R5.below hbd
                have UU0 := U5.below hbd
                have WW0 := B5.below hbd
                have EE0 := E5.below hbd
                refine wp_region_noPanic ?_
                refine wp_region_held_drew (S := fun w' => w'.cell? ⟨nb, 0, none⟩ = some (.int .i64 u.k) ∧ w'.cell? ⟨nb, 1, none⟩ = some (.int .i64 u.n) ∧ w'.cell? ⟨y, 0, none⟩ = some (.slice (some ⟨g, 0, none⟩) 160 cp) ∧ w'.cell? ⟨g, 97 + f, none⟩ = some (.int .u64 wa) ∧ w'.cell? ⟨rb, 0, none⟩ = some (.int .i64 1) ∧ w'.cell? ⟨ub, 0, none⟩ = some (.int .i64 u.k) ∧ w'.cell? ⟨ub, 1, none⟩ = some (.int .i64 u.n) ∧ w'.cell? ⟨wb, 0, none⟩ = some (.int .i64 nu.k) ∧ w'.cell? ⟨wb, 1, none⟩ = some (.int .i64 nu.n) ∧ w'.cell? ⟨eb, 0, none⟩ = some (.int .i64 ne.k) ∧ w'.cell? ⟨eb, 1, none⟩ = some (.int .i64 ne.n)) (by kernel_rfl) ⟨NN0.cell 0, NN0.cell 1, seen160 SN0 hSl, seen97 SN0 hSl hwd0, RR0.cell 0, UU0.cell 0, UU0.cell 1, WW0.cell 0, WW0.cell 1, EE0.cell 0, EE0.cell 1⟩ (fun hHeld => ?_)
                refine takeH (i := 0) 114 (.bool true) rfl rfl (by kernel_rfl) (by kernel_rfl) (by kernel_rfl) (fun _ _ _ h => h) (by rfl) ?_ (by assumption) ?_
                · intro w hSw; (try dsimp only at hSw); go_simp
                simp only [List.setIfInBounds_toArray, List.set_cons_zero, List.set_cons_succ]
                refine takeH (i := 1) 115 (.bool true) rfl rfl (by kernel_rfl) (by kernel_rfl) (by kernel_rfl) (fun _ _ _ h => h) (by rfl) ?_ (by assumption) ?_
                · intro w hSw; (try dsimp only at hSw); go_simp
                simp only [List.setIfInBounds_toArray, List.set_cons_zero, List.set_cons_succ]
                refine takeH (i := 2) 116 (pt b) rfl rfl (by kernel_rfl) (by kernel_rfl) (by kernel_rfl) (fun _ _ _ h => h) (by rfl) ?_ (by assumption) ?_
                · intro w hSw; (try dsimp only at hSw); go_simp
                simp only [List.setIfInBounds_toArray, List.set_cons_zero, List.set_cons_succ]
                refine takeH (i := 3) 117 (.int .i64 f) rfl rfl (by kernel_rfl) (by kernel_rfl) (by kernel_rfl) (fun _ _ _ h => h) (by rfl) ?_ (by assumption) ?_
                · intro w hSw; (try dsimp only at hSw); go_simp
                simp only [List.setIfInBounds_toArray, List.set_cons_zero, List.set_cons_succ]
                refine takeH (i := 4) 118 (.int .i64 (97 + f)) rfl rfl (by kernel_rfl) (by kernel_rfl) (by kernel_rfl) (fun _ _ _ h => h) (by rfl) ?_ (by assumption) ?_
                · intro w hSw; (try dsimp only at hSw); go_simp
                simp only [List.setIfInBounds_toArray, List.set_cons_zero, List.set_cons_succ]
                refine takeH (i := 6) 120 (pt y) rfl rfl (by kernel_rfl) (by kernel_rfl) (by kernel_rfl) (fun _ _ _ h => h) (by rfl) ?_ (by assumption) ?_
                · intro w hSw; (try dsimp only at hSw); go_simp
                simp only [List.setIfInBounds_toArray, List.set_cons_zero, List.set_cons_succ]
                refine takeH (i := 7) 121 (pt y) rfl rfl (by kernel_rfl) (by kernel_rfl) (by kernel_rfl) (fun _ _ _ h => h) (by rfl) ?_ (by assumption) ?_
                · intro w hSw; (try dsimp only at hSw); go_simp
                simp only [List.setIfInBounds_toArray, List.set_cons_zero, List.set_cons_succ]
                refine takeH (i := 8) 122 (pt y) rfl rfl (by kernel_rfl) (by kernel_rfl) (by kernel_rfl) (fun _ _ _ h => h) (by rfl) ?_ (by assumption) ?_
                · intro w hSw; (try dsimp only at hSw); go_simp
                simp only [List.setIfInBounds_toArray, List.set_cons_zero, List.set_cons_succ]
                refine takeH (i := 9) 123 (.slice (some ⟨g, 0, none⟩) 160 cp) rfl rfl (by kernel_rfl) (by kernel_rfl) (by kernel_rfl) (fun _ _ _ h => h) (by rfl) ?_ (by assumption) ?_
                · intro w hSw; (try dsimp only at hSw); go_simp
                simp only [List.setIfInBounds_toArray, List.set_cons_zero, List.set_cons_succ]
                refine takeH (i := 10) 124 (.int .i64 f) rfl rfl (by kernel_rfl) (by kernel_rfl) (by kernel_rfl) (fun _ _ _ h => h) (by rfl) ?_ (by assumption) ?_
                · intro w hSw; (try dsimp only at hSw); go_simp
                simp only [List.setIfInBounds_toArray, List.set_cons_zero, List.set_cons_succ]
                refine takeH (i := 11) 125 (.int .i64 (97 + f)) rfl rfl (by kernel_rfl) (by kernel_rfl) (by kernel_rfl) (fun _ _ _ h => h) (by rfl) ?_ (by assumption) ?_
                · intro w hSw; (try dsimp only at hSw); go_simp
                simp only [List.setIfInBounds_toArray, List.set_cons_zero, List.set_cons_succ]
                refine takeH (i := 12) 126 (.pointer (some ⟨g, 97 + f, none⟩)) rfl rfl (by kernel_rfl) (by kernel_rfl) (by kernel_rfl) (fun _ _ _ h => h) (by rfl) ?_ (by assumption) ?_
                · intro w hSw; (try dsimp only at hSw); go_simp; rw [if_pos (by omega)]; rw [show (97 + (f : Int)).toNat = 97 + f by omega]
                simp only [List.setIfInBounds_toArray, List.set_cons_zero, List.set_cons_succ]
                refine takeH (i := 13) 127 (.int .u64 wa) rfl rfl (by kernel_rfl) (by kernel_rfl) (by kernel_rfl) (fun _ _ _ h => h) (by rfl) ?_ (by assumption) ?_
                · intro w hSw; (try dsimp only at hSw); go_simp
                simp only [List.setIfInBounds_toArray, List.set_cons_zero, List.set_cons_succ]
                refine wpAnyH_ready (rs := [5]) (by kernel_rfl) (by simp) ?_
                refine AllReadyH.cons rfl (fun K hK => ?_) AllReadyH.nil
                go_simp
                refine (tLoadS TT0 SN0 (by omega) (97 + (f : Int))).mono ?_
                rintro e w31 ⟨rfl, TT1, o31, SN1⟩
                rw [hga]
                have MM1 := MM0.oth0 o31
                have NN1 := NN0.oth o31 (by simp)
                have RR1 := RR0.oth o31 (by simp)
                have UU1 := UU0.oth o31 (by simp)
                have WW1 := WW0.oth o31 (by simp)
                have EE1 := EE0.oth o31 (by simp)
                refine hK.out _ _ ⟨NN1.cell 0, NN1.cell 1, seen160 SN1 hSl, seen97 SN1 hSl hwd0, RR1.cell 0, UU1.cell 0, UU1.cell 1, WW1.cell 0, WW1.cell 1, EE1.cell 0, EE1.cell 1⟩ (fun hHeld => ?_)
                clear hK K
                try simp only [Act.put, List.setIfInBounds_toArray, List.set_cons_zero, List.set_cons_succ]
                refine takeH (i := 14) 128 (.bool true) rfl rfl (by kernel_rfl) (by kernel_rfl) (by kernel_rfl) (fun _ _ _ h => h) (by rfl) ?_ (by assumption) ?_
                · intro w hSw; (try dsimp only at hSw); go_simp
                simp only [List.setIfInBounds_toArray, List.set_cons_zero, List.set_cons_succ]
                refine takeH (i := 15) 129 (.bool true) rfl rfl (by kernel_rfl) (by kernel_rfl) (by kernel_rfl) (fun _ _ _ h => h) (by rfl) ?_ (by assumption) ?_
                · intro w hSw; (try dsimp only at hSw); go_simp
                simp only [List.setIfInBounds_toArray, List.set_cons_zero, List.set_cons_succ]
                refine takeH (i := 16) 130 (.bool true) rfl rfl (by kernel_rfl) (by kernel_rfl) (by kernel_rfl) (fun _ _ _ h => h) (by rfl) ?_ (by assumption) ?_
                · intro w hSw; (try dsimp only at hSw); go_simp
                simp only [List.setIfInBounds_toArray, List.set_cons_zero, List.set_cons_succ]
                refine takeH (i := 17) 131 (pt b) rfl rfl (by kernel_rfl) (by kernel_rfl) (by kernel_rfl) (fun _ _ _ h => h) (by rfl) ?_ (by assumption) ?_
                · intro w hSw; (try dsimp only at hSw); go_simp
                simp only [List.setIfInBounds_toArray, List.set_cons_zero, List.set_cons_succ]
                refine takeH (i := 18) 132 (.int .i64 f) rfl rfl (by kernel_rfl) (by kernel_rfl) (by kernel_rfl) (fun _ _ _ h => h) (by rfl) ?_ (by assumption) ?_
                · intro w hSw; (try dsimp only at hSw); go_simp
                simp only [List.setIfInBounds_toArray, List.set_cons_zero, List.set_cons_succ]
                refine takeH (i := 19) 133 (.int .i64 (113 + f)) rfl rfl (by kernel_rfl) (by kernel_rfl) (by kernel_rfl) (fun _ _ _ h => h) (by rfl) ?_ (by assumption) ?_
                · intro w hSw; (try dsimp only at hSw); go_simp
                simp only [List.setIfInBounds_toArray, List.set_cons_zero, List.set_cons_succ]
                refine takeH (i := 22) 136 (.agg #[.int .i64 u.k, .int .i64 u.n]) rfl rfl (by kernel_rfl) (by kernel_rfl) (by kernel_rfl) (fun _ _ _ h => h) (by rfl) ?_ (by assumption) ?_
                · intro w hSw; (try dsimp only at hSw); go_simp
                simp only [List.setIfInBounds_toArray, List.set_cons_zero, List.set_cons_succ]
                refine wpAnyH_ready (rs := [20]) (by kernel_rfl) (by simp) ?_
                refine AllReadyH.cons rfl (fun K hK => ?_) AllReadyH.nil
                go_simp
                refine (tLoadS TT1 SN1 (by omega) (113 + (f : Int))).mono ?_
                rintro e w32 ⟨rfl, TT2, o32, SN2⟩
                rw [hgc]
                have MM2 := MM1.oth0 o32
                have NN2 := NN1.oth o32 (by simp)
                have RR2 := RR1.oth o32 (by simp)
                have UU2 := UU1.oth o32 (by simp)
                have WW2 := WW1.oth o32 (by simp)
                have EE2 := EE1.oth o32 (by simp)
                refine hK.out _ _ ⟨NN2.cell 0, NN2.cell 1, seen160 SN2 hSl, seen97 SN2 hSl hwd0, RR2.cell 0, UU2.cell 0, UU2.cell 1, WW2.cell 0, WW2.cell 1, EE2.cell 0, EE2.cell 1⟩ (fun hHeld => ?_)
                clear hK K
                try simp only [Act.put, List.setIfInBounds_toArray, List.set_cons_zero, List.set_cons_succ]
                refine wpAnyH_ready (rs := [21]) (by kernel_rfl) (by simp) ?_
                refine AllReadyH.cons rfl (fun K hK => ?_) AllReadyH.nil
                go_simp
                refine (F.rOf uw hUw.1 hUw.2 _).mono ?_
                rintro e w33 ⟨rfl, hw33⟩
                rw [hkw, hnw] at hw33 ⊢
                have hb33 : Below w32.heap.size w32 w33 := (by rw [hw33]; go_grown)
                have TT3 := TT2.below hb33
                have MM3 := MM2.below hb33
                have SN3 := SN2.below hb33
                have NN3 := NN2.below hb33
                have RR3 := RR2.below hb33
                have UU3 := UU2.below hb33
                have WW3 := WW2.below hb33
                have EE3 := EE2.below hb33
                clear hw33 hb33
                refine hK.out _ _ ⟨NN3.cell 0, NN3.cell 1, seen160 SN3 hSl, seen97 SN3 hSl hwd0, RR3.cell 0, UU3.cell 0, UU3.cell 1, WW3.cell 0, WW3.cell 1, EE3.cell 0, EE3.cell 1⟩ (fun hHeld => ?_)
                clear hK K
                try simp only [Act.put, List.setIfInBounds_toArray, List.set_cons_zero, List.set_cons_succ]
                refine takeH (i := 23) 137 (.bool true) rfl rfl (by kernel_rfl) (by kernel_rfl) (by kernel_rfl) (fun _ _ _ h => h) (by rfl) ?_ (by assumption) ?_
                · intro w hSw; (try dsimp only at hSw); go_simp
                simp only [List.setIfInBounds_toArray, List.set_cons_zero, List.set_cons_succ]
                refine takeH (i := 24) 138 (.bool true) rfl rfl (by kernel_rfl) (by kernel_rfl) (by kernel_rfl) (fun _ _ _ h => h) (by rfl) ?_ (by assumption) ?_
                · intro w hSw; (try dsimp only at hSw); go_simp
                simp only [List.setIfInBounds_toArray, List.set_cons_zero, List.set_cons_succ]
                refine takeH (i := 25) 139 (.bool true) rfl rfl (by kernel_rfl) (by kernel_rfl) (by kernel_rfl) (fun _ _ _ h => h) (by rfl) ?_ (by assumption) ?_
                · intro w hSw; (try dsimp only at hSw); go_simp
                simp only [List.setIfInBounds_toArray, List.set_cons_zero, List.set_cons_succ]
                refine takeH (i := 26) 140 (pt rb) rfl rfl (by kernel_rfl) (by kernel_rfl) (by kernel_rfl) (fun _ _ _ h => h) (by rfl) ?_ (by assumption) ?_
                · intro w hSw; (try dsimp only at hSw); go_simp
                simp only [List.setIfInBounds_toArray, List.set_cons_zero, List.set_cons_succ]
                refine takeH (i := 27) 141 (.int .i64 1) rfl rfl (by kernel_rfl) (by kernel_rfl) (by kernel_rfl) (fun _ _ _ h => h) (by rfl) ?_ (by assumption) ?_
                · intro w hSw; (try dsimp only at hSw); go_simp
                simp only [List.setIfInBounds_toArray, List.set_cons_zero, List.set_cons_succ]
                refine takeH (i := 28) 142 (.bool false) rfl rfl (by kernel_rfl) (by kernel_rfl) (by kernel_rfl) (fun _ _ _ h => h) (by rfl) ?_ (by assumption) ?_
                · intro w hSw; (try dsimp only at hSw); go_simp
                simp only [List.setIfInBounds_toArray, List.set_cons_zero, List.set_cons_succ]
                refine takeH (i := 29) 143 (.bool false) rfl rfl (by kernel_rfl) (by kernel_rfl) (by kernel_rfl) (fun _ _ _ h => h) (by rfl) ?_ (by assumption) ?_
                · intro w hSw; (try dsimp only at hSw); go_simp
                simp only [List.setIfInBounds_toArray, List.set_cons_zero, List.set_cons_succ]
                refine takeH (i := 30) 144 (pt p) rfl rfl (by kernel_rfl) (by kernel_rfl) (by kernel_rfl) (fun _ _ _ h => h) (by rfl) ?_ (by assumption) ?_
                · intro w hSw; (try dsimp only at hSw); go_simp
                simp only [List.setIfInBounds_toArray, List.set_cons_zero, List.set_cons_succ]
                refine takeH (i := 33) 147 (.agg #[.int .i64 u.k, .int .i64 u.n]) rfl rfl (by kernel_rfl) (by kernel_rfl) (by kernel_rfl) (fun _ _ _ h => h) (by rfl) ?_ (by assumption) ?_
                · intro w hSw; (try dsimp only at hSw); go_simp
                simp only [List.setIfInBounds_toArray, List.set_cons_zero, List.set_cons_succ]
                refine wpAnyH_ready (rs := [31]) (by kernel_rfl) (by simp) ?_
                refine AllReadyH.cons rfl (fun K hK => ?_) AllReadyH.nil
                go_simp
                refine (cCResult MM3).mono ?_
                rintro e w34 ⟨rfl, hb34⟩
                rw [hres]
                have TT4 := TT3.below hb34
                have MM4 := MM3.below hb34
                have SN4 := SN3.below hb34
                have NN4 := NN3.below hb34
                have RR4 := RR3.below hb34
                have UU4 := UU3.below hb34
                have WW4 := WW3.below hb34
                have EE4 := EE3.below hb34
                refine hK.out _ _ ⟨NN4.cell 0, NN4.cell 1, seen160 SN4 hSl, seen97 SN4 hSl hwd0, RR4.cell 0, UU4.cell 0, UU4.cell 1, WW4.cell 0, WW4.cell 1, EE4.cell 0, EE4.cell 1⟩ (fun hHeld => ?_)
                clear hK K
                try simp only [Act.put, List.setIfInBounds_toArray, List.set_cons_zero, List.set_cons_succ]
                refine takeH (i := 32) 146 (.agg #[.int .i64 u.k, .int .i64 u.n]) rfl rfl (by kernel_rfl) (by kernel_rfl) (by kernel_rfl) (fun _ _ _ h => h) (by rfl) ?_ (by assumption) ?_
                · intro w hSw; (try dsimp only at hSw); go_simp
                simp only [List.setIfInBounds_toArray, List.set_cons_zero, List.set_cons_succ]
                refine takeH (i := 34) 148 (.bool true) rfl rfl (by kernel_rfl) (by kernel_rfl) (by kernel_rfl) (fun _ _ _ h => h) (by rfl) ?_ (by assumption) ?_
                · intro w hSw; (try dsimp only at hSw); go_simp
                simp only [List.setIfInBounds_toArray, List.set_cons_zero, List.set_cons_succ]
                refine takeH (i := 35) 149 (.bool true) rfl rfl (by kernel_rfl) (by kernel_rfl) (by kernel_rfl) (fun _ _ _ h => h) (by rfl) ?_ (by assumption) ?_
                · intro w hSw; (try dsimp only at hSw); go_simp
                simp only [List.setIfInBounds_toArray, List.set_cons_zero, List.set_cons_succ]
                refine takeH (i := 36) 150 (.bool true) rfl rfl (by kernel_rfl) (by kernel_rfl) (by kernel_rfl) (fun _ _ _ h => h) (by rfl) ?_ (by assumption) ?_
                · intro w hSw; (try dsimp only at hSw); go_simp
                simp only [List.setIfInBounds_toArray, List.set_cons_zero, List.set_cons_succ]
                refine takeH (i := 37) 151 (.bool true) rfl rfl (by kernel_rfl) (by kernel_rfl) (by kernel_rfl) (fun _ _ _ h => h) (by rfl) ?_ (by assumption) ?_
                · intro w hSw; (try dsimp only at hSw); go_simp
                simp only [List.setIfInBounds_toArray, List.set_cons_zero, List.set_cons_succ]
                refine takeH (i := 38) 152 (pt p) rfl rfl (by kernel_rfl) (by kernel_rfl) (by kernel_rfl) (fun _ _ _ h => h) (by rfl) ?_ (by assumption) ?_
                · intro w hSw; (try dsimp only at hSw); go_simp
                simp only [List.setIfInBounds_toArray, List.set_cons_zero, List.set_cons_succ]
                refine takeH (i := 41) 155 (pt rb) rfl rfl (by kernel_rfl) (by kernel_rfl) (by kernel_rfl) (fun _ _ _ h => h) (by rfl) ?_ (by assumption) ?_
                · intro w hSw; (try dsimp only at hSw); go_simp
                simp only [List.setIfInBounds_toArray, List.set_cons_zero, List.set_cons_succ]
                refine takeH (i := 42) 156 (.int .i64 1) rfl rfl (by kernel_rfl) (by kernel_rfl) (by kernel_rfl) (fun _ _ _ h => h) (by rfl) ?_ (by assumption) ?_
                · intro w hSw; (try dsimp only at hSw); go_simp
                simp only [List.setIfInBounds_toArray, List.set_cons_zero, List.set_cons_succ]
                refine takeH (i := 43) 157 (.bool false) rfl rfl (by kernel_rfl) (by kernel_rfl) (by kernel_rfl) (fun _ _ _ h => h) (by rfl) ?_ (by assumption) ?_
                · intro w hSw; (try dsimp only at hSw); go_simp
                simp only [List.setIfInBounds_toArray, List.set_cons_zero, List.set_cons_succ]
                refine wpAnyH_ready (rs := [39]) (by kernel_rfl) (by simp) ?_
                refine AllReadyH.cons rfl (fun K hK => ?_) AllReadyH.nil
                go_simp
                refine (cCResult MM4).mono ?_
                rintro e w35 ⟨rfl, hb35⟩
                rw [hres]
                have TT5 := TT4.below hb35
                have MM5 := MM4.below hb35
                have SN5 := SN4.below hb35
                have NN5 := NN4.below hb35
                have RR5 := RR4.below hb35
                have UU5 := UU4.below hb35
                have WW5 := WW4.below hb35
                have EE5 := EE4.below hb35
                refine hK.out _ _ ⟨NN5.cell 0, NN5.cell 1, seen160 SN5 hSl, seen97 SN5 hSl hwd0, RR5.cell 0, UU5.cell 0, UU5.cell 1, WW5.cell 0, WW5.cell 1, EE5.cell 0, EE5.cell 1⟩ (fun hHeld => ?_)
                clear hK K
                try simp only [Act.put, List.setIfInBounds_toArray, List.set_cons_zero, List.set_cons_succ]
                refine takeH (i := 40) 154 (.bool false) rfl rfl (by kernel_rfl) (by kernel_rfl) (by kernel_rfl) (fun _ _ _ h => h) (by rfl) ?_ (by assumption) ?_
                · intro w hSw; (try dsimp only at hSw); go_simp
                simp only [List.setIfInBounds_toArray, List.set_cons_zero, List.set_cons_succ]
                refine takeH (i := 44) 158 (.bool false) rfl rfl (by kernel_rfl) (by kernel_rfl) (by kernel_rfl) (fun _ _ _ h => h) (by rfl) ?_ (by assumption) ?_
                · intro w hSw; (try dsimp only at hSw); go_simp
                simp only [List.setIfInBounds_toArray, List.set_cons_zero, List.set_cons_succ]
                refine skipH (i := 45) 159 rfl rfl (by kernel_rfl) (by kernel_rfl) (by kernel_rfl) (fun _ _ _ h => h) (by rfl) (by assumption) ?_
                simp only [List.setIfInBounds_toArray, List.set_cons_zero, List.set_cons_succ]
                refine skipH (i := 46) 160 rfl rfl (by kernel_rfl) (by kernel_rfl) (by kernel_rfl) (fun _ _ _ h => h) (by rfl) (by assumption) ?_
                simp only [List.setIfInBounds_toArray, List.set_cons_zero, List.set_cons_succ]
                refine skipH (i := 47) 161 rfl rfl (by kernel_rfl) (by kernel_rfl) (by kernel_rfl) (fun _ _ _ h => h) (by rfl) (by assumption) ?_
                simp only [List.setIfInBounds_toArray, List.set_cons_zero, List.set_cons_succ]
                refine takeH (i := 48) 162 (.bool false) rfl rfl (by kernel_rfl) (by kernel_rfl) (by kernel_rfl) (fun _ _ _ h => h) (by rfl) ?_ (by assumption) ?_
                · intro w hSw; (try dsimp only at hSw); go_simp
                simp only [List.setIfInBounds_toArray, List.set_cons_zero, List.set_cons_succ]
                refine takeH (i := 49) 163 (.bool true) rfl rfl (by kernel_rfl) (by kernel_rfl) (by kernel_rfl) (fun _ _ _ h => h) (by rfl) ?_ (by assumption) ?_
                · intro w hSw; (try dsimp only at hSw); go_simp
                simp only [List.setIfInBounds_toArray, List.set_cons_zero, List.set_cons_succ]
                refine takeH (i := 50) 164 (.bool true) rfl rfl (by kernel_rfl) (by kernel_rfl) (by kernel_rfl) (fun _ _ _ h => h) (by rfl) ?_ (by assumption) ?_
                · intro w hSw; (try dsimp only at hSw); go_simp
                simp only [List.setIfInBounds_toArray, List.set_cons_zero, List.set_cons_succ]
                refine takeH (i := 51) 6 (.bool true) rfl rfl (by kernel_rfl) (by kernel_rfl) (by kernel_rfl) (fun _ _ _ h => h) (by rfl) ?_ (by assumption) ?_
                · intro w hSw; (try dsimp only at hSw); go_simp
                simp only [List.setIfInBounds_toArray, List.set_cons_zero, List.set_cons_succ]
                refine wpAnyH_done (by kernel_rfl) ?_ _
                refine NoPanic.normal ?_
                go_wp2
                go_ret
                exact ⟨rfl, TT5.bel⟩
  · have hini : ¬ (f : Int) < (lc : Int) := by omega
    have hu0 : Vl.zero = u := by rw [← hu, if_neg hin]
    have U8 : Blk w w7 ub 24 #[.int .i64 u.k, .int .i64 u.n] := by rw [← hu0]; exact U7
    have h9 := h8
    have m9 := m8
    have Q8 := Q7
    go_upto_region 13 with (fail)
    have x0 : w7.cell? ⟨ub, 0, none⟩ = some (.int .i64 u.k) := U8.cell 0
    have x1 : w7.cell? ⟨ub, 1, none⟩ = some (.int .i64 u.n) := U8.cell 1
    have xl := U8.lt
    have i1 : IntKind.i64.wrap (113 + (f : Int)) = 113 + (f : Int) := by rw [IntKind.wrap_i64]; omega
    have hU2 := u64_word u.k u.n
    obtain ⟨wd2, hwd2⟩ : ∃ wd2, F.Plain.word u.k u.n = wd2 := ⟨_, rfl⟩
    rw [hwd2] at hU2
    go_wp2_with (first
      | (go_at_call 24; refine (F.rWord u.k u.n _).mono ?_; rintro e w10 ⟨rfl, m10, hw10⟩; rw [hwd2]; have hb10 : Below w7.heap.size w7 w10 := (by rw [hw10]; exact F.bdr ((Below.refl _ _).alloc (Nat.le_refl _) _) _); have h10 := h9.below hb10; have m11 := m9.below hb10; have Q10 := Q8.below hb10; have U10 := U8.below hb10; clear hw10 hb10)
      | (go_at_call 23; refine (tStore h10 (by omega) (113 + (f : Int)) hU2).mono ?_; rintro e w11 ⟨rfl, h11, o11⟩; rw [← hwd2, show F.Plain.word u.k u.n = u.w from rfl, hS1] at h11; have m12 := m11.oth0 o11; have Q11 := Q10.oth o11 (by simp); have U11 := U10.oth o11 (by simp); clear o11))
    go_loopw [14, 15] (fun dn i wr => ∃ j : Nat, j ≤ d ∧ i = .int .i64 j ∧ dn = .bool (runC (Cw.hd (Rq.mk 1 96 f vx vy) false) S1 j).1.done ∧ Two w wr b y (runC (Cw.hd (Rq.mk 1 96 f vx vy) false) S1 j).2 S (19 + j) ∧ Cm w wr p (runC (Cw.hd (Rq.mk 1 96 f vx vy) false) S1 j).1 ∧ Blk w wr rb 40 #[.int .i64 1, .int .i64 96, .int .i64 f, .int .i64 vx.k, .int .i64 vx.n, .int .i64 vy.k, .int .i64 vy.n] ∧ Blk w wr ub 24 #[.int .i64 u.k, .int .i64 u.n]) (fun _ i _ => 12 - (intOf i).toNat)
    case atStart => exact ⟨0, Nat.zero_le _, rfl, rfl, h11, m12, Q11, U11⟩
    case round =>
      obtain ⟨j, hj, rfl, rfl, k1, k2, k3, k9⟩ := hrel
      rcases Nat.lt_or_ge j d with hjd | hjd
      · have hdn : (runC (Cw.hd (Rq.mk 1 96 f vx vy) false) S1 j).1.done = false := E.not j hjd
        have hji : (j : Int) < 12 := by omega
        obtain ⟨XX, hX⟩ : ∃ X, (runC (Cw.hd (Rq.mk 1 96 f vx vy) false) S1 j).1 = X := ⟨_, rfl⟩
        obtain ⟨SX, hSX⟩ : ∃ X, (runC (Cw.hd (Rq.mk 1 96 f vx vy) false) S1 j).2 = X := ⟨_, rfl⟩
        rw [hX] at k2 hdn
        rw [hSX] at k1
        rw [hX, hdn]
        obtain ⟨cx, Bx'⟩ := k2.blk
        go_wp2_with (go_at_call 13; refine (tC k1 k2 (by omega)).mono ?_; rintro e w20 ⟨rfl, k4, k5, o6⟩; have k6 := k3.oth o6 (by simpa using k3.ne Bx' (by decide)); have k10 := k9.oth o6 (by simpa using k9.ne Bx' (by decide)))
        go_roundw
        case rel => exact ⟨j + 1, by omega, by go_num, by simp only [runC, hX, hSX], by simp only [runC, hX, hSX]; exact k4, by simp only [runC, hX, hSX]; exact k5, k6, k10⟩
        case measure => simp [intOf]; omega
      · obtain rfl : j = d := by omega
        have hdn : (runC (Cw.hd (Rq.mk 1 96 f vx vy) false) S1 j).1.done = true := by rw [E.at_]; rfl
        rw [hdn]
        rw [E.at_] at k1 k2
        have hji : (j : Int) < 12 := by omega
        have r3 : wr.cell? ⟨rb, 3, none⟩ = some (.int .i64 vx.k) := k3.cell 3
        have r4 : wr.cell? ⟨rb, 4, none⟩ = some (.int .i64 vx.n) := k3.cell 4
        have rl := k3.lt
        go_upto_region 20 with (fail)
        clear r3 r4 rl
        have hue' : ub ≠ wr.heap.size := by have := k9.lt; omega
        have E1b : Below wr.heap.size wr (wr.alloc (.cells #[.int .i64 vx.k, .int .i64 vx.n] 24)) := (Below.refl _ _).alloc (Nat.le_refl _) _
        have E1 : Blk w (wr.alloc (.cells #[.int .i64 vx.k, .int .i64 vx.n] 24)) wr.heap.size 24 #[.int .i64 vx.k, .int .i64 vx.n] := Blk.new k1.bel.size _ (by decide)
        have t1 := k1.below E1b
        have m1 := k2.below E1b
        have R1 := k3.below E1b
        have U1 := k9.below E1b
        generalize wr.alloc (.cells #[.int .i64 vx.k, .int .i64 vx.n] 24) = w21 at E1 t1 m1 R1 U1 ⊢
        generalize wr.heap.size = eb at E1 hue' ⊢
        clear E1b
        have u0 : w21.cell? ⟨ub, 0, none⟩ = some (.int .i64 u.k) := U1.cell 0
        have u1 : w21.cell? ⟨ub, 1, none⟩ = some (.int .i64 u.n) := U1.cell 1
        have ul := U1.lt
        go_upto_region 21 with (fail)
        clear u0 u1 ul
        have huw' : ub ≠ w21.heap.size := by have := U1.lt; omega
        have hew' : eb ≠ w21.heap.size := by have := E1.lt; omega
        have B2b : Below w21.heap.size w21 (w21.alloc (.cells #[.int .i64 u.k, .int .i64 u.n] 24)) := (Below.refl _ _).alloc (Nat.le_refl _) _
        have B2 : Blk w (w21.alloc (.cells #[.int .i64 u.k, .int .i64 u.n] 24)) w21.heap.size 24 #[.int .i64 u.k, .int .i64 u.n] := Blk.new t1.bel.size _ (by decide)
        have t2 := t1.below B2b
        have m2 := m1.below B2b
        have R2 := R1.below B2b
        have U2 := U1.below B2b
        have E2 := E1.below B2b
        generalize w21.alloc (.cells #[.int .i64 u.k, .int .i64 u.n] 24) = w22 at B2 t2 m2 R2 U2 E2 ⊢
        generalize w21.heap.size = wb at B2 huw' hew' ⊢
        clear B2b
        have x0 : w22.cell? ⟨eb, 0, none⟩ = some (.int .i64 vx.k) := E2.cell 0
        have x1 : w22.cell? ⟨eb, 1, none⟩ = some (.int .i64 vx.n) := E2.cell 1
        have xf := E2.free 1
        have xl := E2.lt
        obtain ⟨bb, hbb⟩ : ∃ bb, (vx.k == 1 && vx.n == 96) = bb := ⟨_, rfl⟩
        go_cut [87] from 80 (fun c wx => c = .bool bb ∧ wx = w22)
        case first =>
          rcases q1 : (vx.k == 1) with _ | _
          · have hb0 : bb = false := by rw [← hbb, q1]; rfl
            clear hbb
            go_wp2
            go_meet
            case rel => exact ⟨by rw [hb0], rfl⟩
          · rcases q2 : (vx.n == 96) with _ | _
            · have hb0 : bb = false := by rw [← hbb, q1, q2]; rfl
              clear hbb
              go_wp2
              go_meet
              case rel => exact ⟨by rw [hb0], rfl⟩
            · have hb0 : bb = true := by rw [← hbb, q1, q2]; rfl
              clear hbb
              go_wp2
              go_meet
              case rel => exact ⟨by rw [hb0], rfl⟩
        case rest =>
          obtain ⟨hc1, hc2⟩ := hcut
          rw [hc1, hc2]
          clear hc1 hc2 wc
          go_upto_if 87 with (fail)
          go_cut [] from 88 (fun wx => Two w wx b y s' S (19 + j) ∧ Cm w wx p (.fin hit' o') ∧ Blk w wx rb 40 #[.int .i64 1, .int .i64 96, .int .i64 f, .int .i64 vx.k, .int .i64 vx.n, .int .i64 vy.k, .int .i64 vy.n] ∧ Blk w wx ub 24 #[.int .i64 u.k, .int .i64 u.n] ∧ Blk w wx eb 24 #[.int .i64 (nrm vx).k, .int .i64 (nrm vx).n] ∧ Blk w wx wb 24 #[.int .i64 u.k, .int .i64 u.n])
          case first =>
            cases bb with
            | false =>
              have hnr : nrm vx = vx := by unfold nrm; rw [if_neg (fun h => by simp [h.1, h.2] at hbb)]
              clear hbb
              go_wp2
              go_meet
              case rel => exact ⟨t2, m2, R2, U2, by rw [hnr]; exact E2, B2⟩
            | true =>
              simp only [Bool.and_eq_true, beq_iff_eq] at hbb
              have hnr : nrm vx = ⟨vx.k, 112⟩ := by unfold nrm; rw [if_pos hbb, hbb.1]
              clear hbb
              go_wp2
              go_meet
              case rel =>
                have KX := (Kept.setCell [eb] w22 ⟨eb, 1, none⟩ (.int .i64 112) (by simp))
                obtain ⟨cx7, Bx7⟩ := (m2).blk
                exact ⟨to_twoB t2 KX E2, (m2).fin (Oth.kept KX) (by simpa using Bx7.ne E2 (by decide)), (R2).oth (Oth.kept KX) (by simpa using (R2).ne E2 (by decide)), (U2).oth (Oth.kept KX) (by simpa using hue'), by rw [hnr]; exact (E2).set 1 _, (B2).oth (Oth.kept KX) (by simpa using (Ne.symm hew'))⟩
          case rest =>
            clear x0 x1 xf xl hbb
            obtain ⟨t3, m3, R3, U3, E3, B3⟩ := hcut
            clear t2 m2 R2 U2 E2 B2 t1 m1 R1 U1 E1 k1 k2 k3 k9
            go_upto_region 23 with (fail)
            have x0 : wc.cell? ⟨wb, 0, none⟩ = some (.int .i64 u.k) := B3.cell 0
            have x1 : wc.cell? ⟨wb, 1, none⟩ = some (.int .i64 u.n) := B3.cell 1
            have xf := B3.free 1
            have xl := B3.lt
            obtain ⟨bb, hbb⟩ : ∃ bb, (u.k == 1 && u.n == 96) = bb := ⟨_, rfl⟩
            go_cut [96] from 89 (fun c wx => c = .bool bb ∧ wx = wc)
            case first =>
              rcases q1 : (u.k == 1) with _ | _
              · have hb0 : bb = false := by rw [← hbb, q1]; rfl
                clear hbb
                go_wp2
                go_meet
                case rel => exact ⟨by rw [hb0], rfl⟩
              · rcases q2 : (u.n == 96) with _ | _
                · have hb0 : bb = false := by rw [← hbb, q1, q2]; rfl
                  clear hbb
                  go_wp2
                  go_meet
                  case rel => exact ⟨by rw [hb0], rfl⟩
                · have hb0 : bb = true := by rw [← hbb, q1, q2]; rfl
                  clear hbb
                  go_wp2
                  go_meet
                  case rel => exact ⟨by rw [hb0], rfl⟩
            case rest =>
              obtain ⟨hc1, hc2⟩ := hcut
              rw [hc1, hc2]
              clear hc1 hc2 wc
              go_upto_if 96 with (fail)
              go_cut [] from 97 (fun wx => Two w wx b y s' S (19 + j) ∧ Cm w wx p (.fin hit' o') ∧ Blk w wx rb 40 #[.int .i64 1, .int .i64 96, .int .i64 f, .int .i64 vx.k, .int .i64 vx.n, .int .i64 vy.k, .int .i64 vy.n] ∧ Blk w wx ub 24 #[.int .i64 u.k, .int .i64 u.n] ∧ Blk w wx wb 24 #[.int .i64 (nrm u).k, .int .i64 (nrm u).n] ∧ Blk w wx eb 24 #[.int .i64 (nrm vx).k, .int .i64 (nrm vx).n])
              case first =>
                cases bb with
                | false =>
                  have hnr : nrm u = u := by unfold nrm; rw [if_neg (fun h => by simp [h.1, h.2] at hbb)]
                  clear hbb
                  go_wp2
                  go_meet
                  case rel => exact ⟨t3, m3, R3, U3, by rw [hnr]; exact B3, E3⟩
                | true =>
                  simp only [Bool.and_eq_true, beq_iff_eq] at hbb
                  have hnr : nrm u = ⟨u.k, 112⟩ := by unfold nrm; rw [if_pos hbb, hbb.1]
                  clear hbb
                  go_wp2
                  go_meet
                  case rel =>
                    have KX := (Kept.setCell [wb] wc ⟨wb, 1, none⟩ (.int .i64 112) (by simp))
                    obtain ⟨cx7, Bx7⟩ := (m3).blk
                    exact ⟨to_twoB t3 KX B3, (m3).fin (Oth.kept KX) (by simpa using Bx7.ne B3 (by decide)), (R3).oth (Oth.kept KX) (by simpa using (R3).ne B3 (by decide)), (U3).oth (Oth.kept KX) (by simpa using huw'), by rw [hnr]; exact (B3).set 1 _, (E3).oth (Oth.kept KX) (by simpa using hew')⟩
              case rest =>
                clear x0 x1 xf xl hbb
                obtain ⟨t4, m4, R4, U4, B4, E4⟩ := hcut
                clear t3 m3 R3 U3 E3 B3
                obtain ⟨w24, hw24⟩ : ∃ x, wc = x := ⟨_, rfl⟩
                rw [hw24] at t4 m4 R4 U4 B4 E4 ⊢
                clear hw24
                obtain ⟨ne, hne⟩ : ∃ v, nrm vx = v := ⟨_, rfl⟩
                obtain ⟨nu, hnu⟩ : ∃ v, nrm u = v := ⟨_, rfl⟩
                rw [hne] at E4
                rw [hnu] at B4
                have u0 : w24.cell? ⟨ub, 0, none⟩ = some (.int .i64 u.k) := U4.cell 0
                have u1 : w24.cell? ⟨ub, 1, none⟩ = some (.int .i64 u.n) := U4.cell 1
                have ul := U4.lt
                go_upto_region 26 with (fail)
                clear u0 u1 ul
                obtain ⟨g, cp, sn4⟩ := Two.seen t4
                have hun' : ub ≠ w24.heap.size := by have := U4.lt; omega
                have hen' : eb ≠ w24.heap.size := by have := E4.lt; omega
                have hwn' : wb ≠ w24.heap.size := by have := B4.lt; omega
                have N5b : Below w24.heap.size w24 (w24.alloc (.cells #[.int .i64 u.k, .int .i64 u.n] 24)) := (Below.refl _ _).alloc (Nat.le_refl _) _
                have N5 : Blk w (w24.alloc (.cells #[.int .i64 u.k, .int .i64 u.n] 24)) w24.heap.size 24 #[.int .i64 u.k, .int .i64 u.n] := Blk.new t4.bel.size _ (by decide)
                have t5 := t4.below N5b
                have m5 := m4.below N5b
                have R5 := R4.below N5b
                have U5 := U4.below N5b
                have E5 := E4.below N5b
                have B5 := B4.below N5b
                have sn5 := sn4.below N5b
                generalize w24.alloc (.cells #[.int .i64 u.k, .int .i64 u.n] 24) = w25 at N5 t5 m5 R5 U5 E5 B5 sn5 ⊢
                generalize w24.heap.size = nb at N5 hun' hen' hwn' ⊢
                clear N5b
                have r0 : w25.cell? ⟨rb, 0, none⟩ = some (.int .i64 1) := R5.cell 0
                have r1 : w25.cell? ⟨rb, 1, none⟩ = some (.int .i64 96) := R5.cell 1
                have r2 : w25.cell? ⟨rb, 2, none⟩ = some (.int .i64 f) := R5.cell 2
                have r3 : w25.cell? ⟨rb, 3, none⟩ = some (.int .i64 vx.k) := R5.cell 3
                have r4 : w25.cell? ⟨rb, 4, none⟩ = some (.int .i64 vx.n) := R5.cell 4
                have r5 : w25.cell? ⟨rb, 5, none⟩ = some (.int .i64 vy.k) := R5.cell 5
                have r6 : w25.cell? ⟨rb, 6, none⟩ = some (.int .i64 vy.n) := R5.cell 6
                have es0 : w25.cell? ⟨eb, 0, none⟩ = some (.int .i64 ne.k) := E5.cell 0
                have es1 : w25.cell? ⟨eb, 1, none⟩ = some (.int .i64 ne.n) := E5.cell 1
                have ws0 : w25.cell? ⟨wb, 0, none⟩ = some (.int .i64 nu.k) := B5.cell 0
                have ws1 : w25.cell? ⟨wb, 1, none⟩ = some (.int .i64 nu.n) := B5.cell 1
                have ns0 : w25.cell? ⟨nb, 0, none⟩ = some (.int .i64 u.k) := N5.cell 0
                have ns1 : w25.cell? ⟨nb, 1, none⟩ = some (.int .i64 u.n) := N5.cell 1
                have nf0 := N5.free 0
                have nf1 := N5.free 1
                have rl := R5.lt
                have el := E5.lt
                have wl' := B5.lt
                have nl := N5.lt
                go_upto_region 28 with (fail)
                clear r0 r1 r2 r3 r4 r5 r6 es0 es1 ws0 ws1 ns0 ns1 nf0 nf1 rl el wl' nl
                obtain ⟨uw, huw⟩ : ∃ v, u.w = v := ⟨_, rfl⟩
                have hUw : U64 uw := huw ▸ u.u64
                have hkw : F.Plain.kind uw = u.k := by rw [← huw]; exact congrArg Vl.k gu.of
                have hnw : F.Plain.num uw = u.n := by rw [← huw]; exact congrArg Vl.n gu.of
                have hga : s'.got (97 + (f : Int)) = wa := by rw [M'.gota hf3]; exact hwa
                have hgc : (s'.load (97 + (f : Int))).got (113 + (f : Int)) = uw := by rw [(M'.load (in_a hf3)).gotc hf3, hwant', huw]
                have i97 : IntKind.i64.wrap (97 + (f : Int)) = 97 + (f : Int) := by rw [IntKind.wrap_i64]; omega
                have i113 : IntKind.i64.wrap (113 + (f : Int)) = 113 + (f : Int) := by rw [IntKind.wrap_i64]; omega
                have ev := eqVal_t (a := u) (b := u) rfl
                have evu := eqVal_t (a := u) (b := u) rfl
                have fo := fOut1
                have fo2 := fOut2
                have bt := beqTT
                have bf := beqFF
                obtain ⟨oc, hoc⟩ : ∃ c, (Cw.fin hit' o').o.c = c := ⟨_, rfl⟩
                obtain ⟨ov, hov⟩ : ∃ c, (Cw.fin hit' o').o.v = c := ⟨_, rfl⟩
                have hoy : (Cw.fin hit' o').o.y = false := hyes
                have hou : ov = u := by rw [← hov]; exact hVu.out
                have hres : (Cw.fin hit' o').o.val = .agg #[.int .i64 oc, .int .i64 u.k, .int .i64 u.n, .bool false] := by rw [← hou, ← hov, ← hoc, ← hoy]; rfl
                have hbd : Below w25.heap.size w25 w25.drew := (Below.refl _ _).drew
                have TT0 : Two w w25.drew b y s' S _ := t5.below hbd
                have MM0 := m5.below hbd
                have SN0 := sn5.below hbd
                have NN0 := N5.below hbd
                have RR0 := R5.below hbd
                have UU0 := U5.below hbd
                have WW0 := B5.below hbd
                have EE0 := E5.below hbd
                refine wp_region_noPanic ?_
                refine wp_region_held_drew (S := fun w' => w'.cell? ⟨nb, 0, none⟩ = some (.int .i64 u.k) ∧ w'.cell? ⟨nb, 1, none⟩ = some (.int .i64 u.n) ∧ w'.cell? ⟨y, 0, none⟩ = some (.slice (some ⟨g, 0, none⟩) 160 cp) ∧ w'.cell? ⟨g, 97 + f, none⟩ = some (.int .u64 wa) ∧ w'.cell? ⟨rb, 0, none⟩ = some (.int .i64 1) ∧ w'.cell? ⟨ub, 0, none⟩ = some (.int .i64 u.k) ∧ w'.cell? ⟨ub, 1, none⟩ = some (.int .i64 u.n) ∧ w'.cell? ⟨wb, 0, none⟩ = some (.int .i64 nu.k) ∧ w'.cell? ⟨wb, 1, none⟩ = some (.int .i64 nu.n) ∧ w'.cell? ⟨eb, 0, none⟩ = some (.int .i64 ne.k) ∧ w'.cell? ⟨eb, 1, none⟩ = some (.int .i64 ne.n)) (by kernel_rfl) ⟨NN0.cell 0, NN0.cell 1, seen160 SN0 hSl, seen97 SN0 hSl hwd0, RR0.cell 0, UU0.cell 0, UU0.cell 1, WW0.cell 0, WW0.cell 1, EE0.cell 0, EE0.cell 1⟩ (fun hHeld => ?_)
                refine takeH (i := 0) 114 (.bool true) rfl rfl (by kernel_rfl) (by kernel_rfl) (by kernel_rfl) (fun _ _ _ h => h) (by rfl) ?_ (by assumption) ?_
                · intro w hSw; (try dsimp only at hSw); go_simp
                simp only [List.setIfInBounds_toArray, List.set_cons_zero, List.set_cons_succ]
                refine takeH (i := 1) 115 (.bool true) rfl rfl (by kernel_rfl) (by kernel_rfl) (by kernel_rfl) (fun _ _ _ h => h) (by rfl) ?_ (by assumption) ?_
                · intro w hSw; (try dsimp only at hSw); go_simp
                simp only [List.setIfInBounds_toArray, List.set_cons_zero, List.set_cons_succ]
                refine takeH (i := 2) 116 (pt b) rfl rfl (by kernel_rfl) (by kernel_rfl) (by kernel_rfl) (fun _ _ _ h => h) (by rfl) ?_ (by assumption) ?_
                · intro w hSw; (try dsimp only at hSw); go_simp
                simp only [List.setIfInBounds_toArray, List.set_cons_zero, List.set_cons_succ]
                refine takeH (i := 3) 117 (.int .i64 f) rfl rfl (by kernel_rfl) (by kernel_rfl) (by kernel_rfl) (fun _ _ _ h => h) (by rfl) ?_ (by assumption) ?_
                · intro w hSw; (try dsimp only at hSw); go_simp
                simp only [List.setIfInBounds_toArray, List.set_cons_zero, List.set_cons_succ]
                refine takeH (i := 4) 118 (.int .i64 (97 + f)) rfl rfl (by kernel_rfl) (by kernel_rfl) (by kernel_rfl) (fun _ _ _ h => h) (by rfl) ?_ (by assumption) ?_
                · intro w hSw; (try dsimp only at hSw); go_simp
                simp only [List.setIfInBounds_toArray, List.set_cons_zero, List.set_cons_succ]
                refine takeH (i := 6) 120 (pt y) rfl rfl (by kernel_rfl) (by kernel_rfl) (by kernel_rfl) (fun _ _ _ h => h) (by rfl) ?_ (by assumption) ?_
                · intro w hSw; (try dsimp only at hSw); go_simp
                simp only [List.setIfInBounds_toArray, List.set_cons_zero, List.set_cons_succ]
                refine takeH (i := 7) 121 (pt y) rfl rfl (by kernel_rfl) (by kernel_rfl) (by kernel_rfl) (fun _ _ _ h => h) (by rfl) ?_ (by assumption) ?_
                · intro w hSw; (try dsimp only at hSw); go_simp
                simp only [List.setIfInBounds_toArray, List.set_cons_zero, List.set_cons_succ]
                refine takeH (i := 8) 122 (pt y) rfl rfl (by kernel_rfl) (by kernel_rfl) (by kernel_rfl) (fun _ _ _ h => h) (by rfl) ?_ (by assumption) ?_
                · intro w hSw; (try dsimp only at hSw); go_simp
                simp only [List.setIfInBounds_toArray, List.set_cons_zero, List.set_cons_succ]
                refine takeH (i := 9) 123 (.slice (some ⟨g, 0, none⟩) 160 cp) rfl rfl (by kernel_rfl) (by kernel_rfl) (by kernel_rfl) (fun _ _ _ h => h) (by rfl) ?_ (by assumption) ?_
                · intro w hSw; (try dsimp only at hSw); go_simp
                simp only [List.setIfInBounds_toArray, List.set_cons_zero, List.set_cons_succ]
                refine takeH (i := 10) 124 (.int .i64 f) rfl rfl (by kernel_rfl) (by kernel_rfl) (by kernel_rfl) (fun _ _ _ h => h) (by rfl) ?_ (by assumption) ?_
                · intro w hSw; (try dsimp only at hSw); go_simp
                simp only [List.setIfInBounds_toArray, List.set_cons_zero, List.set_cons_succ]
                refine takeH (i := 11) 125 (.int .i64 (97 + f)) rfl rfl (by kernel_rfl) (by kernel_rfl) (by kernel_rfl) (fun _ _ _ h => h) (by rfl) ?_ (by assumption) ?_
                · intro w hSw; (try dsimp only at hSw); go_simp
                simp only [List.setIfInBounds_toArray, List.set_cons_zero, List.set_cons_succ]
                refine takeH (i := 12) 126 (.pointer (some ⟨g, 97 + f, none⟩)) rfl rfl (by kernel_rfl) (by kernel_rfl) (by kernel_rfl) (fun _ _ _ h => h) (by rfl) ?_ (by assumption) ?_
                · intro w hSw; (try dsimp only at hSw); go_simp; rw [if_pos (by omega)]; rw [show (97 + (f : Int)).toNat = 97 + f by omega]
                simp only [List.setIfInBounds_toArray, List.set_cons_zero, List.set_cons_succ]
                refine takeH (i := 13) 127 (.int .u64 wa) rfl rfl (by kernel_rfl) (by kernel_rfl) (by kernel_rfl) (fun _ _ _ h => h) (by rfl) ?_ (by assumption) ?_
                · intro w hSw; (try dsimp only at hSw); go_simp
                simp only [List.setIfInBounds_toArray, List.set_cons_zero, List.set_cons_succ]
                refine wpAnyH_ready (rs := [5]) (by kernel_rfl) (by simp) ?_
                refine AllReadyH.cons rfl (fun K hK => ?_) AllReadyH.nil
                go_simp
                refine (tLoadS TT0 SN0 (by omega) (97 + (f : Int))).mono ?_
                rintro e w31 ⟨rfl, TT1, o31, SN1⟩
                rw [hga]
                have MM1 := MM0.oth0 o31
                have NN1 := NN0.oth o31 (by simp)
                have RR1 := RR0.oth o31 (by simp)
                have UU1 := UU0.oth o31 (by simp)
                have WW1 := WW0.oth o31 (by simp)
                have EE1 := EE0.oth o31 (by simp)
                refine hK.out _ _ ⟨NN1.cell 0, NN1.cell 1, seen160 SN1 hSl, seen97 SN1 hSl hwd0, RR1.cell 0, UU1.cell 0, UU1.cell 1, WW1.cell 0, WW1.cell 1, EE1.cell 0, EE1.cell 1⟩ (fun hHeld => ?_)
                clear hK K
                try simp only [Act.put, List.setIfInBounds_toArray, List.set_cons_zero, List.set_cons_succ]
                refine takeH (i := 14) 128 (.bool true) rfl rfl (by kernel_rfl) (by kernel_rfl) (by kernel_rfl) (fun _ _ _ h => h) (by rfl) ?_ (by assumption) ?_
                · intro w hSw; (try dsimp only at hSw); go_simp
                simp only [List.setIfInBounds_toArray, List.set_cons_zero, List.set_cons_succ]
                refine takeH (i := 15) 129 (.bool true) rfl rfl (by kernel_rfl) (by kernel_rfl) (by kernel_rfl) (fun _ _ _ h => h) (by rfl) ?_ (by assumption) ?_
                · intro w hSw; (try dsimp only at hSw); go_simp
                simp only [List.setIfInBounds_toArray, List.set_cons_zero, List.set_cons_succ]
                refine takeH (i := 16) 130 (.bool true) rfl rfl (by kernel_rfl) (by kernel_rfl) (by kernel_rfl) (fun _ _ _ h => h) (by rfl) ?_ (by assumption) ?_
                · intro w hSw; (try dsimp only at hSw); go_simp
                simp only [List.setIfInBounds_toArray, List.set_cons_zero, List.set_cons_succ]
                refine takeH (i := 17) 131 (pt b) rfl rfl (by kernel_rfl) (by kernel_rfl) (by kernel_rfl) (fun _ _ _ h => h) (by rfl) ?_ (by assumption) ?_
                · intro w hSw; (try dsimp only at hSw); go_simp
                simp only [List.setIfInBounds_toArray, List.set_cons_zero, List.set_cons_succ]
                refine takeH (i := 18) 132 (.int .i64 f) rfl rfl (by kernel_rfl) (by kernel_rfl) (by kernel_rfl) (fun _ _ _ h => h) (by rfl) ?_ (by assumption) ?_
                · intro w hSw; (try dsimp only at hSw); go_simp
                simp only [List.setIfInBounds_toArray, List.set_cons_zero, List.set_cons_succ]
                refine takeH (i := 19) 133 (.int .i64 (113 + f)) rfl rfl (by kernel_rfl) (by kernel_rfl) (by kernel_rfl) (fun _ _ _ h => h) (by rfl) ?_ (by assumption) ?_
                · intro w hSw; (try dsimp only at hSw); go_simp
                simp only [List.setIfInBounds_toArray, List.set_cons_zero, List.set_cons_succ]
                refine takeH (i := 22) 136 (.agg #[.int .i64 u.k, .int .i64 u.n]) rfl rfl (by kernel_rfl) (by kernel_rfl) (by kernel_rfl) (fun _ _ _ h => h) (by rfl) ?_ (by assumption) ?_
                · intro w hSw; (try dsimp only at hSw); go_simp
                simp only [List.setIfInBounds_toArray, List.set_cons_zero, List.set_cons_succ]
                refine wpAnyH_ready (rs := [20]) (by kernel_rfl) (by simp) ?_
                refine AllReadyH.cons rfl (fun K hK => ?_) AllReadyH.nil
                go_simp
                refine (tLoadS TT1 SN1 (by omega) (113 + (f : Int))).mono ?_
                rintro e w32 ⟨rfl, TT2, o32, SN2⟩
                rw [hgc]
                have MM2 := MM1.oth0 o32
                have NN2 := NN1.oth o32 (by simp)
                have RR2 := RR1.oth o32 (by simp)
                have UU2 := UU1.oth o32 (by simp)
                have WW2 := WW1.oth o32 (by simp)
                have EE2 := EE1.oth o32 (by simp)
                refine hK.out _ _ ⟨NN2.cell 0, NN2.cell 1, seen160 SN2 hSl, seen97 SN2 hSl hwd0, RR2.cell 0, UU2.cell 0, UU2.cell 1, WW2.cell 0, WW2.cell 1, EE2.cell 0, EE2.cell 1⟩ (fun hHeld => ?_)
                clear hK K
                try simp only [Act.put, List.setIfInBounds_toArray, List.set_cons_zero, List.set_cons_succ]
                refine wpAnyH_ready (rs := [21]) (by kernel_rfl) (by simp) ?_
                refine AllReadyH.cons rfl (fun K hK => ?_) AllReadyH.nil
                go_simp
                refine (F.rOf uw hUw.1 hUw.2 _).mono ?_
                rintro e w33 ⟨rfl, hw33⟩
                rw [hkw, hnw] at hw33 ⊢
                have hb33 : Below w32.heap.size w32 w33 := (by rw [hw33]; go_grown)
                have TT3 := TT2.below hb33
                have MM3 := MM2.below hb33
                have SN3 := SN2.below hb33
                have NN3 := NN2.below hb33
                have RR3 := RR2.below hb33
                have UU3 := UU2.below hb33
                have WW3 := WW2.below hb33
                have EE3 := EE2.below hb33
                clear hw33 hb33
                refine hK.out _ _ ⟨NN3.cell 0, NN3.cell 1, seen160 SN3 hSl, seen97 SN3 hSl hwd0, RR3.cell 0, UU3.cell 0, UU3.cell 1, WW3.cell 0, WW3.cell 1, EE3.cell 0, EE3.cell 1⟩ (fun hHeld => ?_)
                clear hK K
                try simp only [Act.put, List.setIfInBounds_toArray, List.set_cons_zero, List.set_cons_succ]
                refine takeH (i := 23) 137 (.bool true) rfl rfl (by kernel_rfl) (by kernel_rfl) (by kernel_rfl) (fun _ _ _ h => h) (by rfl) ?_ (by assumption) ?_
                · intro w hSw; (try dsimp only at hSw); go_simp
                simp only [List.setIfInBounds_toArray, List.set_cons_zero, List.set_cons_succ]
                refine takeH (i := 24) 138 (.bool true) rfl rfl (by kernel_rfl) (by kernel_rfl) (by kernel_rfl) (fun _ _ _ h => h) (by rfl) ?_ (by assumption) ?_
                · intro w hSw; (try dsimp only at hSw); go_simp
                simp only [List.setIfInBounds_toArray, List.set_cons_zero, List.set_cons_succ]
                refine takeH (i := 25) 139 (.bool true) rfl rfl (by kernel_rfl) (by kernel_rfl) (by kernel_rfl) (fun _ _ _ h => h) (by rfl) ?_ (by assumption) ?_
                · intro w hSw; (try dsimp only at hSw); go_simp
                simp only [List.setIfInBounds_toArray, List.set_cons_zero, List.set_cons_succ]
                refine takeH (i := 26) 140 (pt rb) rfl rfl (by kernel_rfl) (by kernel_rfl) (by kernel_rfl) (fun _ _ _ h => h) (by rfl) ?_ (by assumption) ?_
                · intro w hSw; (try dsimp only at hSw); go_simp
                simp only [List.setIfInBounds_toArray, List.set_cons_zero, List.set_cons_succ]
                refine takeH (i := 27) 141 (.int .i64 1) rfl rfl (by kernel_rfl) (by kernel_rfl) (by kernel_rfl) (fun _ _ _ h => h) (by rfl) ?_ (by assumption) ?_
                · intro w hSw; (try dsimp only at hSw); go_simp
                simp only [List.setIfInBounds_toArray, List.set_cons_zero, List.set_cons_succ]
                refine takeH (i := 28) 142 (.bool false) rfl rfl (by kernel_rfl) (by kernel_rfl) (by kernel_rfl) (fun _ _ _ h => h) (by rfl) ?_ (by assumption) ?_
                · intro w hSw; (try dsimp only at hSw); go_simp
                simp only [List.setIfInBounds_toArray, List.set_cons_zero, List.set_cons_succ]
                refine takeH (i := 29) 143 (.bool false) rfl rfl (by kernel_rfl) (by kernel_rfl) (by kernel_rfl) (fun _ _ _ h => h) (by rfl) ?_ (by assumption) ?_
                · intro w hSw; (try dsimp only at hSw); go_simp
                simp only [List.setIfInBounds_toArray, List.set_cons_zero, List.set_cons_succ]
                refine takeH (i := 30) 144 (pt p) rfl rfl (by kernel_rfl) (by kernel_rfl) (by kernel_rfl) (fun _ _ _ h => h) (by rfl) ?_ (by assumption) ?_
                · intro w hSw; (try dsimp only at hSw); go_simp
                simp only [List.setIfInBounds_toArray, List.set_cons_zero, List.set_cons_succ]
                refine takeH (i := 33) 147 (.agg #[.int .i64 u.k, .int .i64 u.n]) rfl rfl (by kernel_rfl) (by kernel_rfl) (by kernel_rfl) (fun _ _ _ h => h) (by rfl) ?_ (by assumption) ?_
                · intro w hSw; (try dsimp only at hSw); go_simp
                simp only [List.setIfInBounds_toArray, List.set_cons_zero, List.set_cons_succ]
                refine wpAnyH_ready (rs := [31]) (by kernel_rfl) (by simp) ?_
                refine AllReadyH.cons rfl (fun K hK => ?_) AllReadyH.nil
                go_simp
                refine (cCResult MM3).mono ?_
                rintro e w34 ⟨rfl, hb34⟩
                rw [hres]
                have TT4 := TT3.below hb34
                have MM4 := MM3.below hb34
                have SN4 := SN3.below hb34
                have NN4 := NN3.below hb34
                have RR4 := RR3.below hb34
                have UU4 := UU3.below hb34
                have WW4 := WW3.below hb34
                have EE4 := EE3.below hb34
                refine hK.out _ _ ⟨NN4.cell 0, NN4.cell 1, seen160 SN4 hSl, seen97 SN4 hSl hwd0, RR4.cell 0, UU4.cell 0, UU4.cell 1, WW4.cell 0, WW4.cell 1, EE4.cell 0, EE4.cell 1⟩ (fun hHeld => ?_)
                clear hK K
                try simp only [Act.put, List.setIfInBounds_toArray, List.set_cons_zero, List.set_cons_succ]
                refine takeH (i := 32) 146 (.agg #[.int .i64 u.k, .int .i64 u.n]) rfl rfl (by kernel_rfl) (by kernel_rfl) (by kernel_rfl) (fun _ _ _ h => h) (by rfl) ?_ (by assumption) ?_
                · intro w hSw; (try dsimp only at hSw); go_simp
                simp only [List.setIfInBounds_toArray, List.set_cons_zero, List.set_cons_succ]
                refine takeH (i := 34) 148 (.bool true) rfl rfl (by kernel_rfl) (by kernel_rfl) (by kernel_rfl) (fun _ _ _ h => h) (by rfl) ?_ (by assumption) ?_
                · intro w hSw; (try dsimp only at hSw); go_simp
                simp only [List.setIfInBounds_toArray, List.set_cons_zero, List.set_cons_succ]
                refine takeH (i := 35) 149 (.bool true) rfl rfl (by kernel_rfl) (by kernel_rfl) (by kernel_rfl) (fun _ _ _ h => h) (by rfl) ?_ (by assumption) ?_
                · intro w hSw; (try dsimp only at hSw); go_simp
                simp only [List.setIfInBounds_toArray, List.set_cons_zero, List.set_cons_succ]
                refine takeH (i := 36) 150 (.bool true) rfl rfl (by kernel_rfl) (by kernel_rfl) (by kernel_rfl) (fun _ _ _ h => h) (by rfl) ?_ (by assumption) ?_
                · intro w hSw; (try dsimp only at hSw); go_simp
                simp only [List.setIfInBounds_toArray, List.set_cons_zero, List.set_cons_succ]
                refine takeH (i := 37) 151 (.bool true) rfl rfl (by kernel_rfl) (by kernel_rfl) (by kernel_rfl) (fun _ _ _ h => h) (by rfl) ?_ (by assumption) ?_
                · intro w hSw; (try dsimp only at hSw); go_simp
                simp only [List.setIfInBounds_toArray, List.set_cons_zero, List.set_cons_succ]
                refine takeH (i := 38) 152 (pt p) rfl rfl (by kernel_rfl) (by kernel_rfl) (by kernel_rfl) (fun _ _ _ h => h) (by rfl) ?_ (by assumption) ?_
                · intro w hSw; (try dsimp only at hSw); go_simp
                simp only [List.setIfInBounds_toArray, List.set_cons_zero, List.set_cons_succ]
                refine takeH (i := 41) 155 (pt rb) rfl rfl (by kernel_rfl) (by kernel_rfl) (by kernel_rfl) (fun _ _ _ h => h) (by rfl) ?_ (by assumption) ?_
                · intro w hSw; (try dsimp only at hSw); go_simp
                simp only [List.setIfInBounds_toArray, List.set_cons_zero, List.set_cons_succ]
                refine takeH (i := 42) 156 (.int .i64 1) rfl rfl (by kernel_rfl) (by kernel_rfl) (by kernel_rfl) (fun _ _ _ h => h) (by rfl) ?_ (by assumption) ?_
                · intro w hSw; (try dsimp only at hSw); go_simp
                simp only [List.setIfInBounds_toArray, List.set_cons_zero, List.set_cons_succ]
                refine takeH (i := 43) 157 (.bool false) rfl rfl (by kernel_rfl) (by kernel_rfl) (by kernel_rfl) (fun _ _ _ h => h) (by rfl) ?_ (by assumption) ?_
                · intro w hSw; (try dsimp only at hSw); go_simp
                simp only [List.setIfInBounds_toArray, List.set_cons_zero, List.set_cons_succ]
                refine wpAnyH_ready (rs := [39]) (by kernel_rfl) (by simp) ?_
                refine AllReadyH.cons rfl (fun K hK => ?_) AllReadyH.nil
                go_simp
                refine (cCResult MM4).mono ?_
                rintro e w35 ⟨rfl, hb35⟩
                rw [hres]
                have TT5 := TT4.below hb35
                have MM5 := MM4.below hb35
                have SN5 := SN4.below hb35
                have NN5 := NN4.below hb35
                have RR5 := RR4.below hb35
                have UU5 := UU4.below hb35
                have WW5 := WW4.below hb35
                have EE5 := EE4.below hb35
                refine hK.out _ _ ⟨NN5.cell 0, NN5.cell 1, seen160 SN5 hSl, seen97 SN5 hSl hwd0, RR5.cell 0, UU5.cell 0, UU5.cell 1, WW5.cell 0, WW5.cell 1, EE5.cell 0, EE5.cell 1⟩ (fun hHeld => ?_)
                clear hK K
                try simp only [Act.put, List.setIfInBounds_toArray, List.set_cons_zero, List.set_cons_succ]
                refine takeH (i := 40) 154 (.bool false) rfl rfl (by kernel_rfl) (by kernel_rfl) (by kernel_rfl) (fun _ _ _ h => h) (by rfl) ?_ (by assumption) ?_
                · intro w hSw; (try dsimp only at hSw); go_simp
                simp only [List.setIfInBounds_toArray, List.set_cons_zero, List.set_cons_succ]
                refine takeH (i := 44) 158 (.bool false) rfl rfl (by kernel_rfl) (by kernel_rfl) (by kernel_rfl) (fun _ _ _ h => h) (by rfl) ?_ (by assumption) ?_
                · intro w hSw; (try dsimp only at hSw); go_simp
                simp only [List.setIfInBounds_toArray, List.set_cons_zero, List.set_cons_succ]
                refine skipH (i := 45) 159 rfl rfl (by kernel_rfl) (by kernel_rfl) (by kernel_rfl) (fun _ _ _ h => h) (by rfl) (by assumption) ?_
                simp only [List.setIfInBounds_toArray, List.set_cons_zero, List.set_cons_succ]
                refine skipH (i := 46) 160 rfl rfl (by kernel_rfl) (by kernel_rfl) (by kernel_rfl) (fun _ _ _ h => h) (by rfl) (by assumption) ?_
                simp only [List.setIfInBounds_toArray, List.set_cons_zero, List.set_cons_succ]
                refine skipH (i := 47) 161 rfl rfl (by kernel_rfl) (by kernel_rfl) (by kernel_rfl) (fun _ _ _ h => h) (by rfl) (by assumption) ?_
                simp only [List.setIfInBounds_toArray, List.set_cons_zero, List.set_cons_succ]
                refine takeH (i := 48) 162 (.bool false) rfl rfl (by kernel_rfl) (by kernel_rfl) (by kernel_rfl) (fun _ _ _ h => h) (by rfl) ?_ (by assumption) ?_
                · intro w hSw; (try dsimp only at hSw); go_simp
                simp only [List.setIfInBounds_toArray, List.set_cons_zero, List.set_cons_succ]
                refine takeH (i := 49) 163 (.bool true) rfl rfl (by kernel_rfl) (by kernel_rfl) (by kernel_rfl) (fun _ _ _ h => h) (by rfl) ?_ (by assumption) ?_
                · intro w hSw; (try dsimp only at hSw); go_simp
                simp only [List.setIfInBounds_toArray, List.set_cons_zero, List.set_cons_succ]
                refine takeH (i := 50) 164 (.bool true) rfl rfl (by kernel_rfl) (by kernel_rfl) (by kernel_rfl) (fun _ _ _ h => h) (by rfl) ?_ (by assumption) ?_
                · intro w hSw; (try dsimp only at hSw); go_simp
                simp only [List.setIfInBounds_toArray, List.set_cons_zero, List.set_cons_succ]
                refine takeH (i := 51) 6 (.bool true) rfl rfl (by kernel_rfl) (by kernel_rfl) (by kernel_rfl) (fun _ _ _ h => h) (by rfl) ?_ (by assumption) ?_
                · intro w hSw; (try dsimp only at hSw); go_simp
                simp only [List.setIfInBounds_toArray, List.set_cons_zero, List.set_cons_succ]
                refine wpAnyH_done (by kernel_rfl) ?_ _
                refine NoPanic.normal ?_
                go_wp2
                go_ret
                exact ⟨rfl, TT5.bel⟩
set_option maxHeartbeats 8000000 in
theorem wmoved2 (av : Option Addr) (ll cv' : Nat) (zl : Nat → Vl) (ac : Option Addr) (lc cc' : Nat) (zc : Nat → Vl) (q : Op15) (w : World) (W : H.Wid w) (cv : CameV w av ll zl) (cc : CameV w ac lc zc) (fit : q.Fit) (hop : (reqP q).op = 2) :
    Calls Tryd.prog 7 #[.slice av ll cv', .slice ac lc cc', .agg q.cells] w fun e w' => e = .returned (.bool true) ∧ Below w.heap.size w w' := by
  obtain ⟨S, hS⟩ : ∃ S, laidS 2 (fldP ll zl) = S := ⟨_, rfl⟩
  have hSl : S.ws.length = 160 := by rw [← hS]; exact laid_len _ _
  have M0 := laid_m6 2 (fldP ll zl)
  rw [hS] at M0
  have kf := kd_lt q.fd 3 (by decide)
  obtain ⟨f, hf⟩ : ∃ f : Nat, kd q.fd 3 = (f : Int) := ⟨(kd q.fd 3).toNat, by omega⟩
  rw [hf] at kf
  have hf3 : f < 3 := by omega
  have km := kd_lt q.md 3 (by decide)
  obtain ⟨mk, hmk⟩ : ∃ m, kd q.md 3 = m := ⟨_, rfl⟩
  rw [hmk] at km
  obtain ⟨md, hmd⟩ : ∃ m, 5 + mk = m := ⟨_, rfl⟩
  have imd : IntKind.i64.wrap md = md := by rw [IntKind.wrap_i64]; omega
  have gx := good_valP q.x
  have gy := good_valP q.y
  obtain ⟨vx, hvx⟩ : ∃ v, valP q.x = v := ⟨_, rfl⟩
  obtain ⟨vy, hvy⟩ : ∃ v, valP q.y = v := ⟨_, rfl⟩
  rw [hvx] at gx
  rw [hvy] at gy
  obtain ⟨at0, hat0⟩ : ∃ a, (reqP q).at_ = a := ⟨_, rfl⟩
  obtain ⟨f0, hf0⟩ : ∃ a, (reqP q).fd = a := ⟨_, rfl⟩
  have hrq : (reqP q).cells = #[.int .i64 2, .int .i64 at0, .int .i64 f0, .int .i64 vx.k, .int .i64 vx.n, .int .i64 vy.k, .int .i64 vy.n] := by
    unfold Rq.cells
    rw [hop, hat0, hf0, show (reqP q).x = vx from hvx, show (reqP q).y = vy from hvy]
  obtain ⟨fx, hfx⟩ : ∃ b, (md == 8) = b := ⟨_, rfl⟩
  have hnew : Cw.new (Rq.mk 2 96 f vx vy) ⟨md, 0, 0⟩ = (Cw.hd (Rq.mk 2 96 f vx vy) false) := by
    unfold Cw.new
    rw [if_neg (by simp), if_neg (by simp only; omega)]
    rw [show (md == 8) = false by simp; omega]
  have okR : (Rq.mk 2 96 f vx vy).Ok := ⟨.inr (.inl rfl), by simp, by simp, by simp, by simp only; omega⟩
  have gu : Vl.Good (if f < lc then valP (zc f) else Vl.zero) := by split; exact good_valP _; exact good_zero
  obtain ⟨u, hu⟩ : ∃ u, (if f < lc then valP (zc f) else Vl.zero) = u := ⟨_, rfl⟩
  rw [hu] at gu
  have M1 := M0.storeC hf3 u.w
  obtain ⟨S1, hS1⟩ : ∃ s, S.store (113 + (f : Int)) u.w = s := ⟨_, rfl⟩
  rw [hS1] at M1
  obtain ⟨d, x', s', c', hd8, E, M', hwant, hV, hY⟩ := moved_ends (r := (Rq.mk 2 96 f vx vy)) (u := u) M1 hf3 (by simp) rfl rfl gu gx (by simp [updN])
  obtain ⟨wa, hwa⟩ : ∃ v, (fldP ll zl f).w = v := ⟨_, rfl⟩
  have hwd0 : S.word (97 + (f : Int)) = wa := by rw [M0.fa f hf3]; exact hwa
  have hwant' : c' f = vy.w := hwant.trans (if_pos (.inl rfl))
  have hyes : x'.o.y = false := hY.trans (decide_eq_false (by simp))
  clear hwant hV hY
  obtain ⟨hit', o', rfl⟩ := done_fin E.done
  have a0 : Below w.heap.size w (w.alloc (.cells q.cells 28)) := (Below.refl _ _).alloc (Nat.le_refl _) _
  have C0 : Blk w (w.alloc (.cells q.cells 28)) w.heap.size 28 q.cells := Blk.new (Nat.le_refl _) _ (by decide)
  go_enter Tryd.func7, Tryd.ntmps7
  unfold Op15.cells
  go_upto_region 1 with (fail)
  obtain ⟨ob, hob⟩ : ∃ ob, w.heap.size = ob := ⟨_, rfl⟩
  change Blk w (w.alloc (.cells q.cells 28)) w.heap.size 28 q.cells at C0
  rw [hob] at C0
  unfold Op15.cells at C0 a0
  rw [hob]
  have cv0 := cv.on a0
  generalize hw0 : w.alloc _ = wa0 at C0 a0 cv0 ⊢
  clear hw0
  go_upto_region 3 with (first
    | (go_at_call 8; refine (cShown _ (W.on a0)).mono ?_; rintro e w1 ⟨rfl, hb1'⟩; have hb1 := bel_trans a0 hb1'; have C1 := C0.below hb1'; have cv1 := cv0.on hb1'; clear hb1')
    | (go_at_call 9; refine (cLaid w1 (W.on hb1) cv1).mono ?_; rintro e w2 ⟨b, y, rfl, h2⟩; rw [hS] at h2; have C2 := C1.below h2.bel; have h3 : Two w w2 b y S S 18 := h2.lift hb1 W; clear h2))
  have d0 : w2.cell? ⟨ob, 0, none⟩ = some (.int .i64 q.ob) := C2.cell 0
  have d1 : w2.cell? ⟨ob, 1, none⟩ = some (.int .i64 q.fd) := C2.cell 1
  have d2 : w2.cell? ⟨ob, 2, none⟩ = some (.int .i64 q.ac) := C2.cell 2
  have d3 : w2.cell? ⟨ob, 3, none⟩ = some (.int .i64 q.md) := C2.cell 3
  have d4 : w2.cell? ⟨ob, 4, none⟩ = some (.int .i64 q.x.k) := C2.cell 4
  have d5 : w2.cell? ⟨ob, 5, none⟩ = some (.int .i64 q.x.n) := C2.cell 5
  have d6 : w2.cell? ⟨ob, 6, none⟩ = some (.int .i64 q.y.k) := C2.cell 6
  have d7 : w2.cell? ⟨ob, 7, none⟩ = some (.int .i64 q.y.n) := C2.cell 7
  have d8 : w2.cell? ⟨ob, 8, none⟩ = some (.int .i64 q.hS) := C2.cell 8
  have d9 : w2.cell? ⟨ob, 9, none⟩ = some (.int .i64 q.hC) := C2.cell 9
  have d10 : w2.cell? ⟨ob, 10, none⟩ = some (.int .i64 q.hN) := C2.cell 10
  have d11 : w2.cell? ⟨ob, 11, none⟩ = some (.int .i64 q.hM) := C2.cell 11
  have d12 : w2.cell? ⟨ob, 12, none⟩ = some (.int .i64 q.hG) := C2.cell 12
  have d13 : w2.cell? ⟨ob, 13, none⟩ = some (.int .i64 q.hT) := C2.cell 13
  have d14 : w2.cell? ⟨ob, 14, none⟩ = some (.int .i64 q.hL) := C2.cell 14
  go_upto_region 5 with (first
    | (go_at_call 10; refine (cKind _ q.fd 3 fit.fd.1 fit.fd.2 (by decide)).mono ?_; rintro e wk ⟨rfl, hwk⟩; rw [hwk, hf]; clear hwk wk)
    | (go_at_call 20; refine (cReq q fit _).mono ?_; rintro e w3 ⟨rfl, hb3⟩; rw [hrq]; have h4 := h3.below hb3; have C3 := C2.below hb3; clear hb3))
  clear d0 d1 d2 d3 d4 d5 d6 d7 d8 d9 d10 d11 d12 d13 d14
  have Q4b : Below w3.heap.size w3 (w3.alloc (.cells #[.int .i64 2, .int .i64 at0, .int .i64 f0, .int .i64 vx.k, .int .i64 vx.n, .int .i64 vy.k, .int .i64 vy.n] 40)) := (Below.refl _ _).alloc (Nat.le_refl _) _
  have Q4 : Blk w (w3.alloc (.cells #[.int .i64 2, .int .i64 at0, .int .i64 f0, .int .i64 vx.k, .int .i64 vx.n, .int .i64 vy.k, .int .i64 vy.n] 40)) w3.heap.size 40 #[.int .i64 2, .int .i64 at0, .int .i64 f0, .int .i64 vx.k, .int .i64 vx.n, .int .i64 vy.k, .int .i64 vy.n] := Blk.new h4.bel.size _ (by decide)
  have h5 := h4.below Q4b
  have C4 := C3.below Q4b
  generalize w3.alloc (.cells #[.int .i64 2, .int .i64 at0, .int .i64 f0, .int .i64 vx.k, .int .i64 vx.n, .int .i64 vy.k, .int .i64 vy.n] 40) = w4 at Q4 h5 C4 ⊢
  generalize w3.heap.size = rb at Q4 ⊢
  clear Q4b
  have e1 : w4.cell? ⟨rb, 1, none⟩ = some (.int .i64 at0) := Q4.cell 1
  have e2 : w4.cell? ⟨rb, 2, none⟩ = some (.int .i64 f0) := Q4.cell 2
  have ef1 := Q4.free 1
  have ef2 := Q4.free 2
  go_upto_region 7 with (fail)
  have KQ : Kept [rb] w4 ((w4.setCell ⟨rb, 1, none⟩ (.int .i64 96)).setCell ⟨rb, 2, none⟩ (.int .i64 f)) := (Kept.setCell [rb] _ _ _ (by simp)).trans (Kept.setCell [rb] _ _ _ (by simp)) (fun _ h => .inl h)
  have Q5 : Blk w ((w4.setCell ⟨rb, 1, none⟩ (.int .i64 96)).setCell ⟨rb, 2, none⟩ (.int .i64 f)) rb 40 #[.int .i64 2, .int .i64 96, .int .i64 f, .int .i64 vx.k, .int .i64 vx.n, .int .i64 vy.k, .int .i64 vy.n] := (Q4.set 1 _).set 2 _
  have h6 := to_twoB h5 KQ Q4
  have C5 := C4.oth (Oth.kept KQ) (by simpa using C4.ne Q4 (by decide))
  clear e1 e2 ef1 ef2
  generalize (w4.setCell ⟨rb, 1, none⟩ (.int .i64 96)).setCell ⟨rb, 2, none⟩ (.int .i64 f) = w5 at Q5 h6 C5 ⊢
  clear KQ
  have hbd : Below w5.heap.size w5 w5.drew := (Below.refl _ _).drew
  refine wp_region_noPanic ?_
  refine wp_region_held_drew (S := fun w' => w'.cell? ⟨rb, 0, none⟩ = some (.int .i64 2) ∧ w'.cell? ⟨rb, 1, none⟩ = some (.int .i64 96) ∧ w'.cell? ⟨rb, 2, none⟩ = some (.int .i64 f) ∧ w'.cell? ⟨rb, 3, none⟩ = some (.int .i64 vx.k) ∧ w'.cell? ⟨rb, 4, none⟩ = some (.int .i64 vx.n) ∧ w'.cell? ⟨rb, 5, none⟩ = some (.int .i64 vy.k) ∧ w'.cell? ⟨rb, 6, none⟩ = some (.int .i64 vy.n) ∧ w'.cell? ⟨ob, 3, none⟩ = some (.int .i64 q.md)) (by kernel_rfl) ⟨(Q5.below hbd).cell 0, (Q5.below hbd).cell 1, (Q5.below hbd).cell 2, (Q5.below hbd).cell 3, (Q5.below hbd).cell 4, (Q5.below hbd).cell 5, (Q5.below hbd).cell 6, (C5.below hbd).cell 3⟩ (fun hHeld => ?_)
  refine takeH (i := 0) 33 (.agg #[.int .i64 2, .int .i64 96, .int .i64 f, .int .i64 vx.k, .int .i64 vx.n, .int .i64 vy.k, .int .i64 vy.n]) rfl rfl (by kernel_rfl) (by kernel_rfl) (by kernel_rfl) (fun _ _ _ h => h) (by rfl) ?_ (by assumption) ?_
  · intro w hSw; (try dsimp only at hSw); go_simp
  simp only [List.setIfInBounds_toArray, List.set_cons_zero, List.set_cons_succ]
  refine takeH (i := 1) 34 (.pointer (some ⟨ob, 3, none⟩)) rfl rfl (by kernel_rfl) (by kernel_rfl) (by kernel_rfl) (fun _ _ _ h => h) (by rfl) ?_ (by assumption) ?_
  · intro w hSw; (try dsimp only at hSw); go_simp
  simp only [List.setIfInBounds_toArray, List.set_cons_zero, List.set_cons_succ]
  refine takeH (i := 2) 35 (.int .i64 q.md) rfl rfl (by kernel_rfl) (by kernel_rfl) (by kernel_rfl) (fun _ _ _ h => h) (by rfl) ?_ (by assumption) ?_
  · intro w hSw; (try dsimp only at hSw); go_simp
  simp only [List.setIfInBounds_toArray, List.set_cons_zero, List.set_cons_succ]
  refine wpAnyH_ready (rs := [3]) (by kernel_rfl) (by simp) ?_
  refine AllReadyH.cons rfl (fun K hK => ?_) AllReadyH.nil
  go_simp
  refine (cKind _ q.md 3 fit.md.1 fit.md.2 (by decide)).mono ?_
  rintro e wk ⟨rfl, hwk⟩
  rw [hwk, hmk]
  clear hwk wk
  refine hK.out _ _ ⟨(Q5.below hbd).cell 0, (Q5.below hbd).cell 1, (Q5.below hbd).cell 2, (Q5.below hbd).cell 3, (Q5.below hbd).cell 4, (Q5.below hbd).cell 5, (Q5.below hbd).cell 6, (C5.below hbd).cell 3⟩ (fun hHeld => ?_)
  clear hK K
  try simp only [Act.put, List.setIfInBounds_toArray, List.set_cons_zero, List.set_cons_succ]
  refine takeH (i := 4) 37 (.int .i64 md) rfl rfl (by kernel_rfl) (by kernel_rfl) (by kernel_rfl) (fun _ _ _ h => h) (by rfl) ?_ (by assumption) ?_
  · intro w hSw; (try dsimp only at hSw); go_simp
  simp only [List.setIfInBounds_toArray, List.set_cons_zero, List.set_cons_succ]
  refine takeH (i := 5) 38 (.agg #[.int .i64 md, .int .i64 0, .int .i64 0]) rfl rfl (by kernel_rfl) (by kernel_rfl) (by kernel_rfl) (fun _ _ _ h => h) (by rfl) ?_ (by assumption) ?_
  · intro w hSw; (try dsimp only at hSw); go_simp
  simp only [List.setIfInBounds_toArray, List.set_cons_zero, List.set_cons_succ]
  refine wpAnyH_ready (rs := [6]) (by kernel_rfl) (by simp) ?_
  refine AllReadyH.cons rfl (fun K hK => ?_) AllReadyH.nil
  go_simp
  refine (cNewC (Rq.mk 2 96 f vx vy) ⟨md, 0, 0⟩ _ okR).mono ?_
  rintro e w6 ⟨p, rfl, Mp⟩
  rw [hnew] at Mp
  have h7 := (h6.below hbd).below Mp.bel
  have m7 : Cm w w6 p (Cw.hd (Rq.mk 2 96 f vx vy) false) := Mp.cm (h6.below hbd).bel.size okR
  have Q6 := (Q5.below hbd).below Mp.bel
  have C6 := (C5.below hbd).below Mp.bel
  clear Mp
  refine hK.out _ _ ⟨Q6.cell 0, Q6.cell 1, Q6.cell 2, Q6.cell 3, Q6.cell 4, Q6.cell 5, Q6.cell 6, C6.cell 3⟩ (fun hHeld => ?_)
  clear hK K
  try simp only [Act.put, List.setIfInBounds_toArray, List.set_cons_zero, List.set_cons_succ]
  refine takeH (i := 7) 12 (pt p) rfl rfl (by kernel_rfl) (by kernel_rfl) (by kernel_rfl) (fun _ _ _ h => h) (by rfl) ?_ (by assumption) ?_
  · intro w hSw; (try dsimp only at hSw); go_simp
  simp only [List.setIfInBounds_toArray, List.set_cons_zero, List.set_cons_succ]
  refine wpAnyH_done (by kernel_rfl) ?_ _
  refine NoPanic.normal ?_
  clear h3 h4 h5 h6 C2 C3 C4 C5 Q4 Q5 hbd
  go_upto_region 11 with (fail)
  have U7b : Below w6.heap.size w6 (w6.alloc (.cells #[.int .i64 0, .int .i64 0] 24)) := (Below.refl _ _).alloc (Nat.le_refl _) _
  have U7 : Blk w (w6.alloc (.cells #[.int .i64 0, .int .i64 0] 24)) w6.heap.size 24 #[.int .i64 0, .int .i64 0] := Blk.new h7.bel.size _ (by decide)
  have h8 := h7.below U7b
  have m8 := m7.below U7b
  have Q7 := Q6.below U7b
  generalize w6.alloc (.cells #[.int .i64 0, .int .i64 0] 24) = w7 at U7 h8 m8 Q7 ⊢
  generalize w6.heap.size = ub at U7 ⊢
  clear U7b
  by_cases hin : f < lc
  · have cc1 := cc.on h8.bel
    obtain ⟨vb', off, rfl, hvb, hz⟩ : ∃ b off, ac = some ⟨b, off, none⟩ ∧ b < w7.heap.size ∧ ∀ j, j < lc → w7.cell? ⟨b, off + j * 2, none⟩ = some (.int .i64 (zc j).k) ∧ w7.cell? ⟨b, off + (j * 2 + 1), none⟩ = some (.int .i64 (zc j).n) ∧ (zc j).Fit := (cc1.resolve_left (by omega))
    obtain ⟨d0, d1, df⟩ := hz f hin
    obtain ⟨qv, hqv⟩ : ∃ qv, zc f = qv := ⟨_, rfl⟩
    rw [hqv] at d0 d1 df
    have hvu : valP qv = u := by rw [← hu, if_pos hin, hqv]
    have hini : (f : Int) < (lc : Int) := by omega
    rw [← Nat.add_assoc] at d1
    clear hz hqv
    go_upto_region 13 with (go_at_call 12; refine (cVal qv df _).mono ?_; rintro e w7b ⟨rfl, hb7⟩; rw [hvu]; have h8b := h8.below hb7; have m8b := m8.below hb7; have Q7b := Q7.below hb7; have U7b := U7.below hb7; have z0 : w7b.cell? ⟨ub, 0, none⟩ = some (.int .i64 0) := U7b.cell 0; have z1 : w7b.cell? ⟨ub, 1, none⟩ = some (.int .i64 0) := U7b.cell 1; have zf0 := U7b.free 0; have zf1 := U7b.free 1)
    have KU : Kept [ub] w7b ((w7b.setCell ⟨ub, 0, none⟩ (.int .i64 u.k)).setCell ⟨ub, 1, none⟩ (.int .i64 u.n)) := (Kept.setCell [ub] _ _ _ (by simp)).trans (Kept.setCell [ub] _ _ _ (by simp)) (fun _ h => .inl h)
    have h9 := to_twoB h8b KU U7b
    have U8 : Blk w ((w7b.setCell ⟨ub, 0, none⟩ (.int .i64 u.k)).setCell ⟨ub, 1, none⟩ (.int .i64 u.n)) ub 24 #[.int .i64 u.k, .int .i64 u.n] := (U7b.set 0 _).set 1 _
    have Q8 := Q7b.oth (Oth.kept KU) (by simpa using Q7b.ne U7b (by decide))
    obtain ⟨cxb, Bxb⟩ := m8b.blk
    have m9 := m8b.hd (Oth.kept KU) (by simpa using Bxb.ne U7b (by decide))
    clear z0 z1 zf0 zf1 d0 d1
    generalize (w7b.setCell ⟨ub, 0, none⟩ (.int .i64 u.k)).setCell ⟨ub, 1, none⟩ (.int .i64 u.n) = w8 at h9 U8 Q8 m9 ⊢
    have x0 : w8.cell? ⟨ub, 0, none⟩ = some (.int .i64 u.k) := U8.cell 0
    have x1 : w8.cell? ⟨ub, 1, none⟩ = some (.int .i64 u.n) := U8.cell 1
    have xl := U8.lt
    have i1 : IntKind.i64.wrap (113 + (f : Int)) = 113 + (f : Int) := by rw [IntKind.wrap_i64]; omega
    have hU2 := u64_word u.k u.n
    obtain ⟨wd2, hwd2⟩ : ∃ wd2, F.Plain.word u.k u.n = wd2 := ⟨_, rfl⟩
    rw [hwd2] at hU2
    go_wp2_with (first
      | (go_at_call 24; refine (F.rWord u.k u.n _).mono ?_; rintro e w10 ⟨rfl, m10, hw10⟩; rw [hwd2]; have hb10 : Below w8.heap.size w8 w10 := (by rw [hw10]; exact F.bdr ((Below.refl _ _).alloc (Nat.le_refl _) _) _); have h10 := h9.below hb10; have m11 := m9.below hb10; have Q10 := Q8.below hb10; have U10 := U8.below hb10; clear hw10 hb10)
      | (go_at_call 23; refine (tStore h10 (by omega) (113 + (f : Int)) hU2).mono ?_; rintro e w11 ⟨rfl, h11, o11⟩; rw [← hwd2, show F.Plain.word u.k u.n = u.w from rfl, hS1] at h11; have m12 := m11.oth0 o11; have Q11 := Q10.oth o11 (by simp); have U11 := U10.oth o11 (by simp); clear o11))
    go_loopw [14, 15] (fun dn i wr => ∃ j : Nat, j ≤ d ∧ i = .int .i64 j ∧ dn = .bool (runC (Cw.hd (Rq.mk 2 96 f vx vy) false) S1 j).1.done ∧ Two w wr b y (runC (Cw.hd (Rq.mk 2 96 f vx vy) false) S1 j).2 S (19 + j) ∧ Cm w wr p (runC (Cw.hd (Rq.mk 2 96 f vx vy) false) S1 j).1 ∧ Blk w wr rb 40 #[.int .i64 2, .int .i64 96, .int .i64 f, .int .i64 vx.k, .int .i64 vx.n, .int .i64 vy.k, .int .i64 vy.n] ∧ Blk w wr ub 24 #[.int .i64 u.k, .int .i64 u.n]) (fun _ i _ => 12 - (intOf i).toNat)
    case atStart => exact ⟨0, Nat.zero_le _, rfl, rfl, h11, m12, Q11, U11⟩
    case round =>
      obtain ⟨j, hj, rfl, rfl, k1, k2, k3, k9⟩ := hrel
      rcases Nat.lt_or_ge j d with hjd | hjd
      · have hdn : (runC (Cw.hd (Rq.mk 2 96 f vx vy) false) S1 j).1.done = false := E.not j hjd
        have hji : (j : Int) < 12 := by omega
        obtain ⟨XX, hX⟩ : ∃ X, (runC (Cw.hd (Rq.mk 2 96 f vx vy) false) S1 j).1 = X := ⟨_, rfl⟩
        obtain ⟨SX, hSX⟩ : ∃ X, (runC (Cw.hd (Rq.mk 2 96 f vx vy) false) S1 j).2 = X := ⟨_, rfl⟩
        rw [hX] at k2 hdn
        rw [hSX] at k1
        rw [hX, hdn]
        obtain ⟨cx, Bx'⟩ := k2.blk
        go_wp2_with (go_at_call 13; refine (tC k1 k2 (by omega)).mono ?_; rintro e w20 ⟨rfl, k4, k5, o6⟩; have k6 := k3.oth o6 (by simpa using k3.ne Bx' (by decide)); have k10 := k9.oth o6 (by simpa using k9.ne Bx' (by decide)))
        go_roundw
        case rel => exact ⟨j + 1, by omega, by go_num, by simp only [runC, hX, hSX], by simp only [runC, hX, hSX]; exact k4, by simp only [runC, hX, hSX]; exact k5, k6, k10⟩
        case measure => simp [intOf]; omega
      · obtain rfl : j = d := by omega
        have hdn : (runC (Cw.hd (Rq.mk 2 96 f vx vy) false) S1 j).1.done = true := by rw [E.at_]; rfl
        rw [hdn]
        rw [E.at_] at k1 k2
        have hji : (j : Int) < 12 := by omega
        have r3 : wr.cell? ⟨rb, 3, none⟩ = some (.int .i64 vx.k) := k3.cell 3
        have r4 : wr.cell? ⟨rb, 4, none⟩ = some (.int .i64 vx.n) := k3.cell 4
        have rl := k3.lt
        go_upto_region 20 with (fail)
        clear r3 r4 rl
        have hue' : ub ≠ wr.heap.size := by have := k9.lt; omega
        have E1b : Below wr.heap.size wr (wr.alloc (.cells #[.int .i64 vx.k, .int .i64 vx.n] 24)) := (Below.refl _ _).alloc (Nat.le_refl _) _
        have E1 : Blk w (wr.alloc (.cells #[.int .i64 vx.k, .int .i64 vx.n] 24)) wr.heap.size 24 #[.int .i64 vx.k, .int .i64 vx.n] := Blk.new k1.bel.size _ (by decide)
        have t1 := k1.below E1b
        have m1 := k2.below E1b
        have R1 := k3.below E1b
        have U1 := k9.below E1b
        generalize wr.alloc (.cells #[.int .i64 vx.k, .int .i64 vx.n] 24) = w21 at E1 t1 m1 R1 U1 ⊢
        generalize wr.heap.size = eb at E1 hue' ⊢
        clear E1b
        have u0 : w21.cell? ⟨ub, 0, none⟩ = some (.int .i64 u.k) := U1.cell 0
        have u1 : w21.cell? ⟨ub, 1, none⟩ = some (.int .i64 u.n) := U1.cell 1
        have ul := U1.lt
        go_upto_region 21 with (fail)
        clear u0 u1 ul
        have huw' : ub ≠ w21.heap.size := by have := U1.lt; omega
        have hew' : eb ≠ w21.heap.size := by have := E1.lt; omega
        have B2b : Below w21.heap.size w21 (w21.alloc (.cells #[.int .i64 u.k, .int .i64 u.n] 24)) := (Below.refl _ _).alloc (Nat.le_refl _) _
        have B2 : Blk w (w21.alloc (.cells #[.int .i64 u.k, .int .i64 u.n] 24)) w21.heap.size 24 #[.int .i64 u.k, .int .i64 u.n] := Blk.new t1.bel.size _ (by decide)
        have t2 := t1.below B2b
        have m2 := m1.below B2b
        have R2 := R1.below B2b
        have U2 := U1.below B2b
        have E2 := E1.below B2b
        generalize w21.alloc (.cells #[.int .i64 u.k, .int .i64 u.n] 24) = w22 at B2 t2 m2 R2 U2 E2 ⊢
        generalize w21.heap.size = wb at B2 huw' hew' ⊢
        clear B2b
        have x0 : w22.cell? ⟨eb, 0, none⟩ = some (.int .i64 vx.k) := E2.cell 0
        have x1 : w22.cell? ⟨eb, 1, none⟩ = some (.int .i64 vx.n) := E2.cell 1
        have xf := E2.free 1
        have xl := E2.lt
        obtain ⟨bb, hbb⟩ : ∃ bb, (vx.k == 1 && vx.n == 96) = bb := ⟨_, rfl⟩
        go_cut [87] from 80 (fun c wx => c = .bool bb ∧ wx = w22)
        case first =>
          rcases q1 : (vx.k == 1) with _ | _
          · have hb0 : bb = false := by rw [← hbb, q1]; rfl
            clear hbb
            go_wp2
            go_meet
            case rel => exact ⟨by rw [hb0], rfl⟩
          · rcases q2 : (vx.n == 96) with _ | _
            · have hb0 : bb = false := by rw [← hbb, q1, q2]; rfl
              clear hbb
              go_wp2
              go_meet
              case rel => exact ⟨by rw [hb0], rfl⟩
            · have hb0 : bb = true := by rw [← hbb, q1, q2]; rfl
              clear hbb
              go_wp2
              go_meet
              case rel => exact ⟨by rw [hb0], rfl⟩
        case rest =>
          obtain ⟨hc1, hc2⟩ := hcut
          rw [hc1, hc2]
          clear hc1 hc2 wc
          go_upto_if 87 with (fail)
          go_cut [] from 88 (fun wx => Two w wx b y s' S (19 + j) ∧ Cm w wx p (.fin hit' o') ∧ Blk w wx rb 40 #[.int .i64 2, .int .i64 96, .int .i64 f, .int .i64 vx.k, .int .i64 vx.n, .int .i64 vy.k, .int .i64 vy.n] ∧ Blk w wx ub 24 #[.int .i64 u.k, .int .i64 u.n] ∧ Blk w wx eb 24 #[.int .i64 (nrm vx).k, .int .i64 (nrm vx).n] ∧ Blk w wx wb 24 #[.int .i64 u.k, .int .i64 u.n])
          case first =>
            cases bb with
            | false =>
              have hnr : nrm vx = vx := by unfold nrm; rw [if_neg (fun h => by simp [h.1, h.2] at hbb)]
              clear hbb
              go_wp2
              go_meet
              case rel => exact ⟨t2, m2, R2, U2, by rw [hnr]; exact E2, B2⟩
            | true =>
              simp only [Bool.and_eq_true, beq_iff_eq] at hbb
              have hnr : nrm vx = ⟨vx.k, 112⟩ := by unfold nrm; rw [if_pos hbb, hbb.1]
              clear hbb
              go_wp2
              go_meet
              case rel =>
                have KX := (Kept.setCell [eb] w22 ⟨eb, 1, none⟩ (.int .i64 112) (by simp))
                obtain ⟨cx7, Bx7⟩ := (m2).blk
                exact ⟨to_twoB t2 KX E2, (m2).fin (Oth.kept KX) (by simpa using Bx7.ne E2 (by decide)), (R2).oth (Oth.kept KX) (by simpa using (R2).ne E2 (by decide)), (U2).oth (Oth.kept KX) (by simpa using hue'), by rw [hnr]; exact (E2).set 1 _, (B2).oth (Oth.kept KX) (by simpa using (Ne.symm hew'))⟩
          case rest =>
            clear x0 x1 xf xl hbb
            obtain ⟨t3, m3, R3, U3, E3, B3⟩ := hcut
            clear t2 m2 R2 U2 E2 B2 t1 m1 R1 U1 E1 k1 k2 k3 k9
            go_upto_region 23 with (fail)
            have x0 : wc.cell? ⟨wb, 0, none⟩ = some (.int .i64 u.k) := B3.cell 0
            have x1 : wc.cell? ⟨wb, 1, none⟩ = some (.int .i64 u.n) := B3.cell 1
            have xf := B3.free 1
            have xl := B3.lt
            obtain ⟨bb, hbb⟩ : ∃ bb, (u.k == 1 && u.n == 96) = bb := ⟨_, rfl⟩
            go_cut [96] from 89 (fun c wx => c = .bool bb ∧ wx = wc)
            case first =>
              rcases q1 : (u.k == 1) with _ | _
              · have hb0 : bb = false := by rw [← hbb, q1]; rfl
                clear hbb
                go_wp2
                go_meet
                case rel => exact ⟨by rw [hb0], rfl⟩
              · rcases q2 : (u.n == 96) with _ | _
                · have hb0 : bb = false := by rw [← hbb, q1, q2]; rfl
                  clear hbb
                  go_wp2
                  go_meet
                  case rel => exact ⟨by rw [hb0], rfl⟩
                · have hb0 : bb = true := by rw [← hbb, q1, q2]; rfl
                  clear hbb
                  go_wp2
                  go_meet
                  case rel => exact ⟨by rw [hb0], rfl⟩
            case rest =>
              obtain ⟨hc1, hc2⟩ := hcut
              rw [hc1, hc2]
              clear hc1 hc2 wc
              go_upto_if 96 with (fail)
              go_cut [] from 97 (fun wx => Two w wx b y s' S (19 + j) ∧ Cm w wx p (.fin hit' o') ∧ Blk w wx rb 40 #[.int .i64 2, .int .i64 96, .int .i64 f, .int .i64 vx.k, .int .i64 vx.n, .int .i64 vy.k, .int .i64 vy.n] ∧ Blk w wx ub 24 #[.int .i64 u.k, .int .i64 u.n] ∧ Blk w wx wb 24 #[.int .i64 (nrm u).k, .int .i64 (nrm u).n] ∧ Blk w wx eb 24 #[.int .i64 (nrm vx).k, .int .i64 (nrm vx).n])
              case first =>
                cases bb with
                | false =>
                  have hnr : nrm u = u := by unfold nrm; rw [if_neg (fun h => by simp [h.1, h.2] at hbb)]
                  clear hbb
                  go_wp2
                  go_meet
                  case rel => exact ⟨t3, m3, R3, U3, by rw [hnr]; exact B3, E3⟩
                | true =>
                  simp only [Bool.and_eq_true, beq_iff_eq] at hbb
                  have hnr : nrm u = ⟨u.k, 112⟩ := by unfold nrm; rw [if_pos hbb, hbb.1]
                  clear hbb
                  go_wp2
                  go_meet
                  case rel =>
                    have KX := (Kept.setCell [wb] wc ⟨wb, 1, none⟩ (.int .i64 112) (by simp))
                    obtain ⟨cx7, Bx7⟩ := (m3).blk
                    exact ⟨to_twoB t3 KX B3, (m3).fin (Oth.kept KX) (by simpa using Bx7.ne B3 (by decide)), (R3).oth (Oth.kept KX) (by simpa using (R3).ne B3 (by decide)), (U3).oth (Oth.kept KX) (by simpa using huw'), by rw [hnr]; exact (B3).set 1 _, (E3).oth (Oth.kept KX) (by simpa using hew')⟩
              case rest =>
                clear x0 x1 xf xl hbb
                obtain ⟨t4, m4, R4, U4, B4, E4⟩ := hcut
                clear t3 m3 R3 U3 E3 B3
                obtain ⟨w24, hw24⟩ : ∃ x, wc = x := ⟨_, rfl⟩
                rw [hw24] at t4 m4 R4 U4 B4 E4 ⊢
                clear hw24
                obtain ⟨ne, hne⟩ : ∃ v, nrm vx = v := ⟨_, rfl⟩
                obtain ⟨nu, hnu⟩ : ∃ v, nrm u = v := ⟨_, rfl⟩
                rw [hne] at E4
                rw [hnu] at B4
                have u0 : w24.cell? ⟨ub, 0, none⟩ = some (.int .i64 u.k) := U4.cell 0
                have u1 : w24.cell? ⟨ub, 1, none⟩ = some (.int .i64 u.n) := U4.cell 1
                have ul := U4.lt
                go_upto_region 26 with (fail)
                clear u0 u1 ul
                obtain ⟨g, cp, sn4⟩ := Two.seen t4
                have hun' : ub ≠ w24.heap.size := by have := U4.lt; omega
                have hen' : eb ≠ w24.heap.size := by have := E4.lt; omega
                have hwn' : wb ≠ w24.heap.size := by have := B4.lt; omega
                have N5b : Below w24.heap.size w24 (w24.alloc (.cells #[.int .i64 u.k, .int .i64 u.n] 24)) := (Below.refl _ _).alloc (Nat.le_refl _) _
                have N5 : Blk w (w24.alloc (.cells #[.int .i64 u.k, .int .i64 u.n] 24)) w24.heap.size 24 #[.int .i64 u.k, .int .i64 u.n] := Blk.new t4.bel.size _ (by decide)
                have t5 := t4.below N5b
                have m5 := m4.below N5b
                have R5 := R4.below N5b
                have U5 := U4.below N5b
                have E5 := E4.below N5b
                have B5 := B4.below N5b
                have sn5 := sn4.below N5b
                generalize w24.alloc (.cells #[.int .i64 u.k, .int .i64 u.n] 24) = w25 at N5 t5 m5 R5 U5 E5 B5 sn5 ⊢
                generalize w24.heap.size = nb at N5 hun' hen' hwn' ⊢
                clear N5b
                have r0 : w25.cell? ⟨rb, 0, none⟩ = some (.int .i64 2) := R5.cell 0
                have r1 : w25.cell? ⟨rb, 1, none⟩ = some (.int .i64 96) := R5.cell 1
                have r2 : w25.cell? ⟨rb, 2, none⟩ = some (.int .i64 f) := R5.cell 2
                have r3 : w25.cell? ⟨rb, 3, none⟩ = some (.int .i64 vx.k) := R5.cell 3
                have r4 : w25.cell? ⟨rb, 4, none⟩ = some (.int .i64 vx.n) := R5.cell 4
                have r5 : w25.cell? ⟨rb, 5, none⟩ = some (.int .i64 vy.k) := R5.cell 5
                have r6 : w25.cell? ⟨rb, 6, none⟩ = some (.int .i64 vy.n) := R5.cell 6
                have es0 : w25.cell? ⟨eb, 0, none⟩ = some (.int .i64 ne.k) := E5.cell 0
                have es1 : w25.cell? ⟨eb, 1, none⟩ = some (.int .i64 ne.n) := E5.cell 1
                have ws0 : w25.cell? ⟨wb, 0, none⟩ = some (.int .i64 nu.k) := B5.cell 0
                have ws1 : w25.cell? ⟨wb, 1, none⟩ = some (.int .i64 nu.n) := B5.cell 1
                have ns0 : w25.cell? ⟨nb, 0, none⟩ = some (.int .i64 u.k) := N5.cell 0
                have ns1 : w25.cell? ⟨nb, 1, none⟩ = some (.int .i64 u.n) := N5.cell 1
                have nf0 := N5.free 0
                have nf1 := N5.free 1
                have rl := R5.lt
                have el := E5.lt
                have wl' := B5.lt
                have nl := N5.lt
                go_upto_region 28 with (fail)
                clear r0 r1 r2 r3 r4 r5 r6 es0 es1 ws0 ws1 ns0 ns1 nf0 nf1 rl el wl' nl
                have KN : Kept [nb] w25 ((w25.setCell ⟨nb, 0, none⟩ (.int .i64 vy.k)).setCell ⟨nb, 1, none⟩ (.int .i64 vy.n)) := (Kept.setCell [nb] _ _ _ (by simp)).trans (Kept.setCell [nb] _ _ _ (by simp)) (fun _ h => .inl h)
                have t6 := to_twoB t5 KN N5
                have sn6 := seen_kept t5 sn5 KN N5
                have N6 : Blk w ((w25.setCell ⟨nb, 0, none⟩ (.int .i64 vy.k)).setCell ⟨nb, 1, none⟩ (.int .i64 vy.n)) nb 24 #[.int .i64 vy.k, .int .i64 vy.n] := (N5.set 0 _).set 1 _
                have R6 := R5.oth (Oth.kept KN) (by simpa using R5.ne N5 (by decide))
                have U6 := U5.oth (Oth.kept KN) (by simpa using hun')
                have E6 := E5.oth (Oth.kept KN) (by simpa using hen')
                have B6 := B5.oth (Oth.kept KN) (by simpa using hwn')
                obtain ⟨cx7, Bx7⟩ := m5.blk
                have m6 := m5.fin (Oth.kept KN) (by simpa using Bx7.ne N5 (by decide))
                generalize (w25.setCell ⟨nb, 0, none⟩ (.int .i64 vy.k)).setCell ⟨nb, 1, none⟩ (.int .i64 vy.n) = w26 at t6 sn6 N6 R6 U6 E6 B6 m6 ⊢
                clear KN Bx7
                obtain ⟨vyw, hvyw⟩ : ∃ v, vy.w = v := ⟨_, rfl⟩
                have hUw : U64 vyw := hvyw ▸ vy.u64
                have hkw : F.Plain.kind vyw = vy.k := by rw [← hvyw]; exact congrArg Vl.k gy.of
                have hnw : F.Plain.num vyw = vy.n := by rw [← hvyw]; exact congrArg Vl.n gy.of
                have hga : s'.got (97 + (f : Int)) = wa := by rw [M'.gota hf3]; exact hwa
                have hgc : (s'.load (97 + (f : Int))).got (113 + (f : Int)) = vyw := by rw [(M'.load (in_a hf3)).gotc hf3, hwant', hvyw]
                have i97 : IntKind.i64.wrap (97 + (f : Int)) = 97 + (f : Int) := by rw [IntKind.wrap_i64]; omega
                have i113 : IntKind.i64.wrap (113 + (f : Int)) = 113 + (f : Int) := by rw [IntKind.wrap_i64]; omega
                have ev := eqVal_t (a := vy) (b := vy) rfl
                have evu := eqVal_t (a := u) (b := u) rfl
                have fo := fOut1
                have fo2 := fOut2
                have bt := beqTT
                have bf := beqFF
                obtain ⟨oc, hoc⟩ : ∃ c, (Cw.fin hit' o').o.c = c := ⟨_, rfl⟩
                obtain ⟨ov, hov⟩ : ∃ c, (Cw.fin hit' o').o.v = c := ⟨_, rfl⟩
                have hoy : (Cw.fin hit' o').o.y = false := hyes
                have hres : (Cw.fin hit' o').o.val = .agg #[.int .i64 oc, .int .i64 ov.k, .int .i64 ov.n, .bool false] := by rw [← hov, ← hoc, ← hoy]; rfl
                have hbd : Below w26.heap.size w26 w26.drew := (Below.refl _ _).drew
                have TT0 : Two w w26.drew b y s' S _ := t6.below hbd
                have MM0 := m6.below hbd
                have SN0 := sn6.below hbd
                have NN0 := N6.below hbd
                have RR0 := R6.below hbd
                have UU0 := U6.below hbd
                have WW0 := B6.below hbd
                have EE0 := E6.below hbd
                refine wp_region_noPanic ?_
                refine wp_region_held_drew (S := fun w' => w'.cell? ⟨nb, 0, none⟩ = some (.int .i64 vy.k) ∧ w'.cell? ⟨nb, 1, none⟩ = some (.int .i64 vy.n) ∧ w'.cell? ⟨y, 0, none⟩ = some (.slice (some ⟨g, 0, none⟩) 160 cp) ∧ w'.cell? ⟨g, 97 + f, none⟩ = some (.int .u64 wa) ∧ w'.cell? ⟨rb, 0, none⟩ = some (.int .i64 2) ∧ w'.cell? ⟨ub, 0, none⟩ = some (.int .i64 u.k) ∧ w'.cell? ⟨ub, 1, none⟩ = some (.int .i64 u.n) ∧ w'.cell? ⟨wb, 0, none⟩ = some (.int .i64 nu.k) ∧ w'.cell? ⟨wb, 1, none⟩ = some (.int .i64 nu.n) ∧ w'.cell? ⟨eb, 0, none⟩ = some (.int .i64 ne.k) ∧ w'.cell? ⟨eb, 1, none⟩ = some (.int .i64 ne.n)) (by kernel_rfl) ⟨NN0.cell 0, NN0.cell 1, seen160 SN0 hSl, seen97 SN0 hSl hwd0, RR0.cell 0, UU0.cell 0, UU0.cell 1, WW0.cell 0, WW0.cell 1, EE0.cell 0, EE0.cell 1⟩ (fun hHeld => ?_)
                refine takeH (i := 0) 114 (.bool true) rfl rfl (by kernel_rfl) (by kernel_rfl) (by kernel_rfl) (fun _ _ _ h => h) (by rfl) ?_ (by assumption) ?_
                · intro w hSw; (try dsimp only at hSw); go_simp
                simp only [List.setIfInBounds_toArray, List.set_cons_zero, List.set_cons_succ]
                refine takeH (i := 1) 115 (.bool true) rfl rfl (by kernel_rfl) (by kernel_rfl) (by kernel_rfl) (fun _ _ _ h => h) (by rfl) ?_ (by assumption) ?_
                · intro w hSw; (try dsimp only at hSw); go_simp
                simp only [List.setIfInBounds_toArray, List.set_cons_zero, List.set_cons_succ]
                refine takeH (i := 2) 116 (pt b) rfl rfl (by kernel_rfl) (by kernel_rfl) (by kernel_rfl) (fun _ _ _ h => h) (by rfl) ?_ (by assumption) ?_
                · intro w hSw; (try dsimp only at hSw); go_simp
                simp only [List.setIfInBounds_toArray, List.set_cons_zero, List.set_cons_succ]
                refine takeH (i := 3) 117 (.int .i64 f) rfl rfl (by kernel_rfl) (by kernel_rfl) (by kernel_rfl) (fun _ _ _ h => h) (by rfl) ?_ (by assumption) ?_
                · intro w hSw; (try dsimp only at hSw); go_simp
                simp only [List.setIfInBounds_toArray, List.set_cons_zero, List.set_cons_succ]
                refine takeH (i := 4) 118 (.int .i64 (97 + f)) rfl rfl (by kernel_rfl) (by kernel_rfl) (by kernel_rfl) (fun _ _ _ h => h) (by rfl) ?_ (by assumption) ?_
                · intro w hSw; (try dsimp only at hSw); go_simp
                simp only [List.setIfInBounds_toArray, List.set_cons_zero, List.set_cons_succ]
                refine takeH (i := 6) 120 (pt y) rfl rfl (by kernel_rfl) (by kernel_rfl) (by kernel_rfl) (fun _ _ _ h => h) (by rfl) ?_ (by assumption) ?_
                · intro w hSw; (try dsimp only at hSw); go_simp
                simp only [List.setIfInBounds_toArray, List.set_cons_zero, List.set_cons_succ]
                refine takeH (i := 7) 121 (pt y) rfl rfl (by kernel_rfl) (by kernel_rfl) (by kernel_rfl) (fun _ _ _ h => h) (by rfl) ?_ (by assumption) ?_
                · intro w hSw; (try dsimp only at hSw); go_simp
                simp only [List.setIfInBounds_toArray, List.set_cons_zero, List.set_cons_succ]
                refine takeH (i := 8) 122 (pt y) rfl rfl (by kernel_rfl) (by kernel_rfl) (by kernel_rfl) (fun _ _ _ h => h) (by rfl) ?_ (by assumption) ?_
                · intro w hSw; (try dsimp only at hSw); go_simp
                simp only [List.setIfInBounds_toArray, List.set_cons_zero, List.set_cons_succ]
                refine takeH (i := 9) 123 (.slice (some ⟨g, 0, none⟩) 160 cp) rfl rfl (by kernel_rfl) (by kernel_rfl) (by kernel_rfl) (fun _ _ _ h => h) (by rfl) ?_ (by assumption) ?_
                · intro w hSw; (try dsimp only at hSw); go_simp
                simp only [List.setIfInBounds_toArray, List.set_cons_zero, List.set_cons_succ]
                refine takeH (i := 10) 124 (.int .i64 f) rfl rfl (by kernel_rfl) (by kernel_rfl) (by kernel_rfl) (fun _ _ _ h => h) (by rfl) ?_ (by assumption) ?_
                · intro w hSw; (try dsimp only at hSw); go_simp
                simp only [List.setIfInBounds_toArray, List.set_cons_zero, List.set_cons_succ]
                refine takeH (i := 11) 125 (.int .i64 (97 + f)) rfl rfl (by kernel_rfl) (by kernel_rfl) (by kernel_rfl) (fun _ _ _ h => h) (by rfl) ?_ (by assumption) ?_
                · intro w hSw; (try dsimp only at hSw); go_simp
                simp only [List.setIfInBounds_toArray, List.set_cons_zero, List.set_cons_succ]
                refine takeH (i := 12) 126 (.pointer (some ⟨g, 97 + f, none⟩)) rfl rfl (by kernel_rfl) (by kernel_rfl) (by kernel_rfl) (fun _ _ _ h => h) (by rfl) ?_ (by assumption) ?_
                · intro w hSw; (try dsimp only at hSw); go_simp; rw [if_pos (by omega)]; rw [show (97 + (f : Int)).toNat = 97 + f by omega]
                simp only [List.setIfInBounds_toArray, List.set_cons_zero, List.set_cons_succ]
                refine takeH (i := 13) 127 (.int .u64 wa) rfl rfl (by kernel_rfl) (by kernel_rfl) (by kernel_rfl) (fun _ _ _ h => h) (by rfl) ?_ (by assumption) ?_
                · intro w hSw; (try dsimp only at hSw); go_simp
                simp only [List.setIfInBounds_toArray, List.set_cons_zero, List.set_cons_succ]
                refine wpAnyH_ready (rs := [5]) (by kernel_rfl) (by simp) ?_
                refine AllReadyH.cons rfl (fun K hK => ?_) AllReadyH.nil
                go_simp
                refine (tLoadS TT0 SN0 (by omega) (97 + (f : Int))).mono ?_
                rintro e w31 ⟨rfl, TT1, o31, SN1⟩
                rw [hga]
                have MM1 := MM0.oth0 o31
                have NN1 := NN0.oth o31 (by simp)
                have RR1 := RR0.oth o31 (by simp)
                have UU1 := UU0.oth o31 (by simp)
                have WW1 := WW0.oth o31 (by simp)
                have EE1 := EE0.oth o31 (by simp)
                refine hK.out _ _ ⟨NN1.cell 0, NN1.cell 1, seen160 SN1 hSl, seen97 SN1 hSl hwd0, RR1.cell 0, UU1.cell 0, UU1.cell 1, WW1.cell 0, WW1.cell 1, EE1.cell 0, EE1.cell 1⟩ (fun hHeld => ?_)
                clear hK K
                try simp only [Act.put, List.setIfInBounds_toArray, List.set_cons_zero, List.set_cons_succ]
                refine takeH (i := 14) 128 (.bool true) rfl rfl (by kernel_rfl) (by kernel_rfl) (by kernel_rfl) (fun _ _ _ h => h) (by rfl) ?_ (by assumption) ?_
                · intro w hSw; (try dsimp only at hSw); go_simp
                simp only [List.setIfInBounds_toArray, List.set_cons_zero, List.set_cons_succ]
                refine takeH (i := 15) 129 (.bool true) rfl rfl (by kernel_rfl) (by kernel_rfl) (by kernel_rfl) (fun _ _ _ h => h) (by rfl) ?_ (by assumption) ?_
                · intro w hSw; (try dsimp only at hSw); go_simp
                simp only [List.setIfInBounds_toArray, List.set_cons_zero, List.set_cons_succ]
                refine takeH (i := 16) 130 (.bool true) rfl rfl (by kernel_rfl) (by kernel_rfl) (by kernel_rfl) (fun _ _ _ h => h) (by rfl) ?_ (by assumption) ?_
                · intro w hSw; (try dsimp only at hSw); go_simp
                simp only [List.setIfInBounds_toArray, List.set_cons_zero, List.set_cons_succ]
                refine takeH (i := 17) 131 (pt b) rfl rfl (by kernel_rfl) (by kernel_rfl) (by kernel_rfl) (fun _ _ _ h => h) (by rfl) ?_ (by assumption) ?_
                · intro w hSw; (try dsimp only at hSw); go_simp
                simp only [List.setIfInBounds_toArray, List.set_cons_zero, List.set_cons_succ]
                refine takeH (i := 18) 132 (.int .i64 f) rfl rfl (by kernel_rfl) (by kernel_rfl) (by kernel_rfl) (fun _ _ _ h => h) (by rfl) ?_ (by assumption) ?_
                · intro w hSw; (try dsimp only at hSw); go_simp
                simp only [List.setIfInBounds_toArray, List.set_cons_zero, List.set_cons_succ]
                refine takeH (i := 19) 133 (.int .i64 (113 + f)) rfl rfl (by kernel_rfl) (by kernel_rfl) (by kernel_rfl) (fun _ _ _ h => h) (by rfl) ?_ (by assumption) ?_
                · intro w hSw; (try dsimp only at hSw); go_simp
                simp only [List.setIfInBounds_toArray, List.set_cons_zero, List.set_cons_succ]
                refine takeH (i := 22) 136 (.agg #[.int .i64 vy.k, .int .i64 vy.n]) rfl rfl (by kernel_rfl) (by kernel_rfl) (by kernel_rfl) (fun _ _ _ h => h) (by rfl) ?_ (by assumption) ?_
                · intro w hSw; (try dsimp only at hSw); go_simp
                simp only [List.setIfInBounds_toArray, List.set_cons_zero, List.set_cons_succ]
                refine wpAnyH_ready (rs := [20]) (by kernel_rfl) (by simp) ?_
                refine AllReadyH.cons rfl (fun K hK => ?_) AllReadyH.nil
                go_simp
                refine (tLoadS TT1 SN1 (by omega) (113 + (f : Int))).mono ?_
                rintro e w32 ⟨rfl, TT2, o32, SN2⟩
                rw [hgc]
                have MM2 := MM1.oth0 o32
                have NN2 := NN1.oth o32 (by simp)
                have RR2 := RR1.oth o32 (by simp)
                have UU2 := UU1.oth o32 (by simp)
                have WW2 := WW1.oth o32 (by simp)
                have EE2 := EE1.oth o32 (by simp)
                refine hK.out _ _ ⟨NN2.cell 0, NN2.cell 1, seen160 SN2 hSl, seen97 SN2 hSl hwd0, RR2.cell 0, UU2.cell 0, UU2.cell 1, WW2.cell 0, WW2.cell 1, EE2.cell 0, EE2.cell 1⟩ (fun hHeld => ?_)
                clear hK K
                try simp only [Act.put, List.setIfInBounds_toArray, List.set_cons_zero, List.set_cons_succ]
                refine wpAnyH_ready (rs := [21]) (by kernel_rfl) (by simp) ?_
                refine AllReadyH.cons rfl (fun K hK => ?_) AllReadyH.nil
                go_simp
                refine (F.rOf vyw hUw.1 hUw.2 _).mono ?_
                rintro e w33 ⟨rfl, hw33⟩
                rw [hkw, hnw] at hw33 ⊢
                have hb33 : Below w32.heap.size w32 w33 := (by rw [hw33]; go_grown)
                have TT3 := TT2.below hb33
                have MM3 := MM2.below hb33
                have SN3 := SN2.below hb33
                have NN3 := NN2.below hb33
                have RR3 := RR2.below hb33
                have UU3 := UU2.below hb33
                have WW3 := WW2.below hb33
                have EE3 := EE2.below hb33
                clear hw33 hb33
                refine hK.out _ _ ⟨NN3.cell 0, NN3.cell 1, seen160 SN3 hSl, seen97 SN3 hSl hwd0, RR3.cell 0, UU3.cell 0, UU3.cell 1, WW3.cell 0, WW3.cell 1, EE3.cell 0, EE3.cell 1⟩ (fun hHeld => ?_)
                clear hK K
                try simp only [Act.put, List.setIfInBounds_toArray, List.set_cons_zero, List.set_cons_succ]
                refine takeH (i := 23) 137 (.bool true) rfl rfl (by kernel_rfl) (by kernel_rfl) (by kernel_rfl) (fun _ _ _ h => h) (by rfl) ?_ (by assumption) ?_
                · intro w hSw; (try dsimp only at hSw); go_simp
                simp only [List.setIfInBounds_toArray, List.set_cons_zero, List.set_cons_succ]
                refine takeH (i := 24) 138 (.bool true) rfl rfl (by kernel_rfl) (by kernel_rfl) (by kernel_rfl) (fun _ _ _ h => h) (by rfl) ?_ (by assumption) ?_
                · intro w hSw; (try dsimp only at hSw); go_simp
                simp only [List.setIfInBounds_toArray, List.set_cons_zero, List.set_cons_succ]
                refine takeH (i := 25) 139 (.bool true) rfl rfl (by kernel_rfl) (by kernel_rfl) (by kernel_rfl) (fun _ _ _ h => h) (by rfl) ?_ (by assumption) ?_
                · intro w hSw; (try dsimp only at hSw); go_simp
                simp only [List.setIfInBounds_toArray, List.set_cons_zero, List.set_cons_succ]
                refine takeH (i := 26) 140 (pt rb) rfl rfl (by kernel_rfl) (by kernel_rfl) (by kernel_rfl) (fun _ _ _ h => h) (by rfl) ?_ (by assumption) ?_
                · intro w hSw; (try dsimp only at hSw); go_simp
                simp only [List.setIfInBounds_toArray, List.set_cons_zero, List.set_cons_succ]
                refine takeH (i := 27) 141 (.int .i64 2) rfl rfl (by kernel_rfl) (by kernel_rfl) (by kernel_rfl) (fun _ _ _ h => h) (by rfl) ?_ (by assumption) ?_
                · intro w hSw; (try dsimp only at hSw); go_simp
                simp only [List.setIfInBounds_toArray, List.set_cons_zero, List.set_cons_succ]
                refine takeH (i := 28) 142 (.bool true) rfl rfl (by kernel_rfl) (by kernel_rfl) (by kernel_rfl) (fun _ _ _ h => h) (by rfl) ?_ (by assumption) ?_
                · intro w hSw; (try dsimp only at hSw); go_simp
                simp only [List.setIfInBounds_toArray, List.set_cons_zero, List.set_cons_succ]
                refine takeH (i := 29) 143 (.bool true) rfl rfl (by kernel_rfl) (by kernel_rfl) (by kernel_rfl) (fun _ _ _ h => h) (by rfl) ?_ (by assumption) ?_
                · intro w hSw; (try dsimp only at hSw); go_simp
                simp only [List.setIfInBounds_toArray, List.set_cons_zero, List.set_cons_succ]
                refine skipH (i := 30) 144 rfl rfl (by kernel_rfl) (by kernel_rfl) (by kernel_rfl) (fun _ _ _ h => h) (by rfl) (by assumption) ?_
                simp only [List.setIfInBounds_toArray, List.set_cons_zero, List.set_cons_succ]
                refine skipH (i := 31) 145 rfl rfl (by kernel_rfl) (by kernel_rfl) (by kernel_rfl) (fun _ _ _ h => h) (by rfl) (by assumption) ?_
                simp only [List.setIfInBounds_toArray, List.set_cons_zero, List.set_cons_succ]
                refine skipH (i := 32) 146 rfl rfl (by kernel_rfl) (by kernel_rfl) (by kernel_rfl) (fun _ _ _ h => h) (by rfl) (by assumption) ?_
                simp only [List.setIfInBounds_toArray, List.set_cons_zero, List.set_cons_succ]
                refine skipH (i := 33) 147 rfl rfl (by kernel_rfl) (by kernel_rfl) (by kernel_rfl) (fun _ _ _ h => h) (by rfl) (by assumption) ?_
                simp only [List.setIfInBounds_toArray, List.set_cons_zero, List.set_cons_succ]
                refine skipH (i := 34) 148 rfl rfl (by kernel_rfl) (by kernel_rfl) (by kernel_rfl) (fun _ _ _ h => h) (by rfl) (by assumption) ?_
                simp only [List.setIfInBounds_toArray, List.set_cons_zero, List.set_cons_succ]
                refine takeH (i := 35) 149 (.bool true) rfl rfl (by kernel_rfl) (by kernel_rfl) (by kernel_rfl) (fun _ _ _ h => h) (by rfl) ?_ (by assumption) ?_
                · intro w hSw; (try dsimp only at hSw); go_simp
                simp only [List.setIfInBounds_toArray, List.set_cons_zero, List.set_cons_succ]
                refine takeH (i := 36) 150 (.bool true) rfl rfl (by kernel_rfl) (by kernel_rfl) (by kernel_rfl) (fun _ _ _ h => h) (by rfl) ?_ (by assumption) ?_
                · intro w hSw; (try dsimp only at hSw); go_simp
                simp only [List.setIfInBounds_toArray, List.set_cons_zero, List.set_cons_succ]
                refine takeH (i := 37) 151 (.bool true) rfl rfl (by kernel_rfl) (by kernel_rfl) (by kernel_rfl) (fun _ _ _ h => h) (by rfl) ?_ (by assumption) ?_
                · intro w hSw; (try dsimp only at hSw); go_simp
                simp only [List.setIfInBounds_toArray, List.set_cons_zero, List.set_cons_succ]
                refine takeH (i := 38) 152 (pt p) rfl rfl (by kernel_rfl) (by kernel_rfl) (by kernel_rfl) (fun _ _ _ h => h) (by rfl) ?_ (by assumption) ?_
                · intro w hSw; (try dsimp only at hSw); go_simp
                simp only [List.setIfInBounds_toArray, List.set_cons_zero, List.set_cons_succ]
                refine takeH (i := 41) 155 (pt rb) rfl rfl (by kernel_rfl) (by kernel_rfl) (by kernel_rfl) (fun _ _ _ h => h) (by rfl) ?_ (by assumption) ?_
                · intro w hSw; (try dsimp only at hSw); go_simp
                simp only [List.setIfInBounds_toArray, List.set_cons_zero, List.set_cons_succ]
                refine takeH (i := 42) 156 (.int .i64 2) rfl rfl (by kernel_rfl) (by kernel_rfl) (by kernel_rfl) (fun _ _ _ h => h) (by rfl) ?_ (by assumption) ?_
                · intro w hSw; (try dsimp only at hSw); go_simp
                simp only [List.setIfInBounds_toArray, List.set_cons_zero, List.set_cons_succ]
                refine takeH (i := 43) 157 (.bool false) rfl rfl (by kernel_rfl) (by kernel_rfl) (by kernel_rfl) (fun _ _ _ h => h) (by rfl) ?_ (by assumption) ?_
                · intro w hSw; (try dsimp only at hSw); go_simp
                simp only [List.setIfInBounds_toArray, List.set_cons_zero, List.set_cons_succ]
                refine wpAnyH_ready (rs := [39]) (by kernel_rfl) (by simp) ?_
                refine AllReadyH.cons rfl (fun K hK => ?_) AllReadyH.nil
                go_simp
                refine (cCResult MM3).mono ?_
                rintro e w34 ⟨rfl, hb34⟩
                rw [hres]
                have TT4 := TT3.below hb34
                have MM4 := MM3.below hb34
                have SN4 := SN3.below hb34
                have NN4 := NN3.below hb34
                have RR4 := RR3.below hb34
                have UU4 := UU3.below hb34
                have WW4 := WW3.below hb34
                have EE4 := EE3.below hb34
                refine hK.out _ _ ⟨NN4.cell 0, NN4.cell 1, seen160 SN4 hSl, seen97 SN4 hSl hwd0, RR4.cell 0, UU4.cell 0, UU4.cell 1, WW4.cell 0, WW4.cell 1, EE4.cell 0, EE4.cell 1⟩ (fun hHeld => ?_)
                clear hK K
                try simp only [Act.put, List.setIfInBounds_toArray, List.set_cons_zero, List.set_cons_succ]
                refine takeH (i := 40) 154 (.bool false) rfl rfl (by kernel_rfl) (by kernel_rfl) (by kernel_rfl) (fun _ _ _ h => h) (by rfl) ?_ (by assumption) ?_
                · intro w hSw; (try dsimp only at hSw); go_simp
                simp only [List.setIfInBounds_toArray, List.set_cons_zero, List.set_cons_succ]
                refine takeH (i := 44) 158 (.bool false) rfl rfl (by kernel_rfl) (by kernel_rfl) (by kernel_rfl) (fun _ _ _ h => h) (by rfl) ?_ (by assumption) ?_
                · intro w hSw; (try dsimp only at hSw); go_simp
                simp only [List.setIfInBounds_toArray, List.set_cons_zero, List.set_cons_succ]
                refine skipH (i := 45) 159 rfl rfl (by kernel_rfl) (by kernel_rfl) (by kernel_rfl) (fun _ _ _ h => h) (by rfl) (by assumption) ?_
                simp only [List.setIfInBounds_toArray, List.set_cons_zero, List.set_cons_succ]
                refine skipH (i := 46) 160 rfl rfl (by kernel_rfl) (by kernel_rfl) (by kernel_rfl) (fun _ _ _ h => h) (by rfl) (by assumption) ?_
                simp only [List.setIfInBounds_toArray, List.set_cons_zero, List.set_cons_succ]
                refine skipH (i := 47) 161 rfl rfl (by kernel_rfl) (by kernel_rfl) (by kernel_rfl) (fun _ _ _ h => h) (by rfl) (by assumption) ?_
                simp only [List.setIfInBounds_toArray, List.set_cons_zero, List.set_cons_succ]
                refine takeH (i := 48) 162 (.bool false) rfl rfl (by kernel_rfl) (by kernel_rfl) (by kernel_rfl) (fun _ _ _ h => h) (by rfl) ?_ (by assumption) ?_
                · intro w hSw; (try dsimp only at hSw); go_simp
                simp only [List.setIfInBounds_toArray, List.set_cons_zero, List.set_cons_succ]
                refine takeH (i := 49) 163 (.bool true) rfl rfl (by kernel_rfl) (by kernel_rfl) (by kernel_rfl) (fun _ _ _ h => h) (by rfl) ?_ (by assumption) ?_
                · intro w hSw; (try dsimp only at hSw); go_simp
                simp only [List.setIfInBounds_toArray, List.set_cons_zero, List.set_cons_succ]
                refine takeH (i := 50) 164 (.bool true) rfl rfl (by kernel_rfl) (by kernel_rfl) (by kernel_rfl) (fun _ _ _ h => h) (by rfl) ?_ (by assumption) ?_
                · intro w hSw; (try dsimp only at hSw); go_simp
                simp only [List.setIfInBounds_toArray, List.set_cons_zero, List.set_cons_succ]
                refine takeH (i := 51) 6 (.bool true) rfl rfl (by kernel_rfl) (by kernel_rfl) (by kernel_rfl) (fun _ _ _ h => h) (by rfl) ?_ (by assumption) ?_
                · intro w hSw; (try dsimp only at hSw); go_simp
                simp only [List.setIfInBounds_toArray, List.set_cons_zero, List.set_cons_succ]
                refine wpAnyH_done (by kernel_rfl) ?_ _
                refine NoPanic.normal ?_
                go_wp2
                go_ret
                exact ⟨rfl, TT4.bel⟩
  · have hini : ¬ (f : Int) < (lc : Int) := by omega
    have hu0 : Vl.zero = u := by rw [← hu, if_neg hin]
    have U8 : Blk w w7 ub 24 #[.int .i64 u.k, .int .i64 u.n] := by rw [← hu0]; exact U7
    have h9 := h8
    have m9 := m8
    have Q8 := Q7
    go_upto_region 13 with (fail)
    have x0 : w7.cell? ⟨ub, 0, none⟩ = some (.int .i64 u.k) := U8.cell 0
    have x1 : w7.cell? ⟨ub, 1, none⟩ = some (.int .i64 u.n) := U8.cell 1
    have xl := U8.lt
    have i1 : IntKind.i64.wrap (113 + (f : Int)) = 113 + (f : Int) := by rw [IntKind.wrap_i64]; omega
    have hU2 := u64_word u.k u.n
    obtain ⟨wd2, hwd2⟩ : ∃ wd2, F.Plain.word u.k u.n = wd2 := ⟨_, rfl⟩
    rw [hwd2] at hU2
    go_wp2_with (first
      | (go_at_call 24; refine (F.rWord u.k u.n _).mono ?_; rintro e w10 ⟨rfl, m10, hw10⟩; rw [hwd2]; have hb10 : Below w7.heap.size w7 w10 := (by rw [hw10]; exact F.bdr ((Below.refl _ _).alloc (Nat.le_refl _) _) _); have h10 := h9.below hb10; have m11 := m9.below hb10; have Q10 := Q8.below hb10; have U10 := U8.below hb10; clear hw10 hb10)
      | (go_at_call 23; refine (tStore h10 (by omega) (113 + (f : Int)) hU2).mono ?_; rintro e w11 ⟨rfl, h11, o11⟩; rw [← hwd2, show F.Plain.word u.k u.n = u.w from rfl, hS1] at h11; have m12 := m11.oth0 o11; have Q11 := Q10.oth o11 (by simp); have U11 := U10.oth o11 (by simp); clear o11))
    go_loopw [14, 15] (fun dn i wr => ∃ j : Nat, j ≤ d ∧ i = .int .i64 j ∧ dn = .bool (runC (Cw.hd (Rq.mk 2 96 f vx vy) false) S1 j).1.done ∧ Two w wr b y (runC (Cw.hd (Rq.mk 2 96 f vx vy) false) S1 j).2 S (19 + j) ∧ Cm w wr p (runC (Cw.hd (Rq.mk 2 96 f vx vy) false) S1 j).1 ∧ Blk w wr rb 40 #[.int .i64 2, .int .i64 96, .int .i64 f, .int .i64 vx.k, .int .i64 vx.n, .int .i64 vy.k, .int .i64 vy.n] ∧ Blk w wr ub 24 #[.int .i64 u.k, .int .i64 u.n]) (fun _ i _ => 12 - (intOf i).toNat)
    case atStart => exact ⟨0, Nat.zero_le _, rfl, rfl, h11, m12, Q11, U11⟩
    case round =>
      obtain ⟨j, hj, rfl, rfl, k1, k2, k3, k9⟩ := hrel
      rcases Nat.lt_or_ge j d with hjd | hjd
      · have hdn : (runC (Cw.hd (Rq.mk 2 96 f vx vy) false) S1 j).1.done = false := E.not j hjd
        have hji : (j : Int) < 12 := by omega
        obtain ⟨XX, hX⟩ : ∃ X, (runC (Cw.hd (Rq.mk 2 96 f vx vy) false) S1 j).1 = X := ⟨_, rfl⟩
        obtain ⟨SX, hSX⟩ : ∃ X, (runC (Cw.hd (Rq.mk 2 96 f vx vy) false) S1 j).2 = X := ⟨_, rfl⟩
        rw [hX] at k2 hdn
        rw [hSX] at k1
        rw [hX, hdn]
        obtain ⟨cx, Bx'⟩ := k2.blk
        go_wp2_with (go_at_call 13; refine (tC k1 k2 (by omega)).mono ?_; rintro e w20 ⟨rfl, k4, k5, o6⟩; have k6 := k3.oth o6 (by simpa using k3.ne Bx' (by decide)); have k10 := k9.oth o6 (by simpa using k9.ne Bx' (by decide)))
        go_roundw
        case rel => exact ⟨j + 1, by omega, by go_num, by simp only [runC, hX, hSX], by simp only [runC, hX, hSX]; exact k4, by simp only [runC, hX, hSX]; exact k5, k6, k10⟩
        case measure => simp [intOf]; omega
      · obtain rfl : j = d := by omega
        have hdn : (runC (Cw.hd (Rq.mk 2 96 f vx vy) false) S1 j).1.done = true := by rw [E.at_]; rfl
        rw [hdn]
        rw [E.at_] at k1 k2
        have hji : (j : Int) < 12 := by omega
        have r3 : wr.cell? ⟨rb, 3, none⟩ = some (.int .i64 vx.k) := k3.cell 3
        have r4 : wr.cell? ⟨rb, 4, none⟩ = some (.int .i64 vx.n) := k3.cell 4
        have rl := k3.lt
        go_upto_region 20 with (fail)
        clear r3 r4 rl
        have hue' : ub ≠ wr.heap.size := by have := k9.lt; omega
        have E1b : Below wr.heap.size wr (wr.alloc (.cells #[.int .i64 vx.k, .int .i64 vx.n] 24)) := (Below.refl _ _).alloc (Nat.le_refl _) _
        have E1 : Blk w (wr.alloc (.cells #[.int .i64 vx.k, .int .i64 vx.n] 24)) wr.heap.size 24 #[.int .i64 vx.k, .int .i64 vx.n] := Blk.new k1.bel.size _ (by decide)
        have t1 := k1.below E1b
        have m1 := k2.below E1b
        have R1 := k3.below E1b
        have U1 := k9.below E1b
        generalize wr.alloc (.cells #[.int .i64 vx.k, .int .i64 vx.n] 24) = w21 at E1 t1 m1 R1 U1 ⊢
        generalize wr.heap.size = eb at E1 hue' ⊢
        clear E1b
        have u0 : w21.cell? ⟨ub, 0, none⟩ = some (.int .i64 u.k) := U1.cell 0
        have u1 : w21.cell? ⟨ub, 1, none⟩ = some (.int .i64 u.n) := U1.cell 1
        have ul := U1.lt
        go_upto_region 21 with (fail)
        clear u0 u1 ul
        have huw' : ub ≠ w21.heap.size := by have := U1.lt; omega
        have hew' : eb ≠ w21.heap.size := by have := E1.lt; omega
        have B2b : Below w21.heap.size w21 (w21.alloc (.cells #[.int .i64 u.k, .int .i64 u.n] 24)) := (Below.refl _ _).alloc (Nat.le_refl _) _
        have B2 : Blk w (w21.alloc (.cells #[.int .i64 u.k, .int .i64 u.n] 24)) w21.heap.size 24 #[.int .i64 u.k, .int .i64 u.n] := Blk.new t1.bel.size _ (by decide)
        have t2 := t1.below B2b
        have m2 := m1.below B2b
        have R2 := R1.below B2b
        have U2 := U1.below B2b
        have E2 := E1.below B2b
        generalize w21.alloc (.cells #[.int .i64 u.k, .int .i64 u.n] 24) = w22 at B2 t2 m2 R2 U2 E2 ⊢
        generalize w21.heap.size = wb at B2 huw' hew' ⊢
        clear B2b
        have x0 : w22.cell? ⟨eb, 0, none⟩ = some (.int .i64 vx.k) := E2.cell 0
        have x1 : w22.cell? ⟨eb, 1, none⟩ = some (.int .i64 vx.n) := E2.cell 1
        have xf := E2.free 1
        have xl := E2.lt
        obtain ⟨bb, hbb⟩ : ∃ bb, (vx.k == 1 && vx.n == 96) = bb := ⟨_, rfl⟩
        go_cut [87] from 80 (fun c wx => c = .bool bb ∧ wx = w22)
        case first =>
          rcases q1 : (vx.k == 1) with _ | _
          · have hb0 : bb = false := by rw [← hbb, q1]; rfl
            clear hbb
            go_wp2
            go_meet
            case rel => exact ⟨by rw [hb0], rfl⟩
          · rcases q2 : (vx.n == 96) with _ | _
            · have hb0 : bb = false := by rw [← hbb, q1, q2]; rfl
              clear hbb
              go_wp2
              go_meet
              case rel => exact ⟨by rw [hb0], rfl⟩
            · have hb0 : bb = true := by rw [← hbb, q1, q2]; rfl
              clear hbb
              go_wp2
              go_meet
              case rel => exact ⟨by rw [hb0], rfl⟩
        case rest =>
          obtain ⟨hc1, hc2⟩ := hcut
          rw [hc1, hc2]
          clear hc1 hc2 wc
          go_upto_if 87 with (fail)
          go_cut [] from 88 (fun wx => Two w wx b y s' S (19 + j) ∧ Cm w wx p (.fin hit' o') ∧ Blk w wx rb 40 #[.int .i64 2, .int .i64 96, .int .i64 f, .int .i64 vx.k, .int .i64 vx.n, .int .i64 vy.k, .int .i64 vy.n] ∧ Blk w wx ub 24 #[.int .i64 u.k, .int .i64 u.n] ∧ Blk w wx eb 24 #[.int .i64 (nrm vx).k, .int .i64 (nrm vx).n] ∧ Blk w wx wb 24 #[.int .i64 u.k, .int .i64 u.n])
          case first =>
            cases bb with
            | false =>
              have hnr : nrm vx = vx := by unfold nrm; rw [if_neg (fun h => by simp [h.1, h.2] at hbb)]
              clear hbb
              go_wp2
              go_meet
              case rel => exact ⟨t2, m2, R2, U2, by rw [hnr]; exact E2, B2⟩
            | true =>
              simp only [Bool.and_eq_true, beq_iff_eq] at hbb
              have hnr : nrm vx = ⟨vx.k, 112⟩ := by unfold nrm; rw [if_pos hbb, hbb.1]
              clear hbb
              go_wp2
              go_meet
              case rel =>
                have KX := (Kept.setCell [eb] w22 ⟨eb, 1, none⟩ (.int .i64 112) (by simp))
                obtain ⟨cx7, Bx7⟩ := (m2).blk
                exact ⟨to_twoB t2 KX E2, (m2).fin (Oth.kept KX) (by simpa using Bx7.ne E2 (by decide)), (R2).oth (Oth.kept KX) (by simpa using (R2).ne E2 (by decide)), (U2).oth (Oth.kept KX) (by simpa using hue'), by rw [hnr]; exact (E2).set 1 _, (B2).oth (Oth.kept KX) (by simpa using (Ne.symm hew'))⟩
          case rest =>
            clear x0 x1 xf xl hbb
            obtain ⟨t3, m3, R3, U3, E3, B3⟩ := hcut
            clear t2 m2 R2 U2 E2 B2 t1 m1 R1 U1 E1 k1 k2 k3 k9
            go_upto_region 23 with (fail)
            have x0 : wc.cell? ⟨wb, 0, none⟩ = some (.int .i64 u.k) := B3.cell 0
            have x1 : wc.cell? ⟨wb, 1, none⟩ = some (.int .i64 u.n) := B3.cell 1
            have xf := B3.free 1
            have xl := B3.lt
            obtain ⟨bb, hbb⟩ : ∃ bb, (u.k == 1 && u.n == 96) = bb := ⟨_, rfl⟩
            go_cut [96] from 89 (fun c wx => c = .bool bb ∧ wx = wc)
            case first =>
              rcases q1 : (u.k == 1) with _ | _
              · have hb0 : bb = false := by rw [← hbb, q1]; rfl
                clear hbb
                go_wp2
                go_meet
                case rel => exact ⟨by rw [hb0], rfl⟩
              · rcases q2 : (u.n == 96) with _ | _
                · have hb0 : bb = false := by rw [← hbb, q1, q2]; rfl
                  clear hbb
                  go_wp2
                  go_meet
                  case rel => exact ⟨by rw [hb0], rfl⟩
                · have hb0 : bb = true := by rw [← hbb, q1, q2]; rfl
                  clear hbb
                  go_wp2
                  go_meet
                  case rel => exact ⟨by rw [hb0], rfl⟩
            case rest =>
              obtain ⟨hc1, hc2⟩ := hcut
              rw [hc1, hc2]
              clear hc1 hc2 wc
              go_upto_if 96 with (fail)
              go_cut [] from 97 (fun wx => Two w wx b y s' S (19 + j) ∧ Cm w wx p (.fin hit' o') ∧ Blk w wx rb 40 #[.int .i64 2, .int .i64 96, .int .i64 f, .int .i64 vx.k, .int .i64 vx.n, .int .i64 vy.k, .int .i64 vy.n] ∧ Blk w wx ub 24 #[.int .i64 u.k, .int .i64 u.n] ∧ Blk w wx wb 24 #[.int .i64 (nrm u).k, .int .i64 (nrm u).n] ∧ Blk w wx eb 24 #[.int .i64 (nrm vx).k, .int .i64 (nrm vx).n])
              case first =>
                cases bb with
                | false =>
                  have hnr : nrm u = u := by unfold nrm; rw [if_neg (fun h => by simp [h.1, h.2] at hbb)]
                  clear hbb
                  go_wp2
                  go_meet
                  case rel => exact ⟨t3, m3, R3, U3, by rw [hnr]; exact B3, E3⟩
                | true =>
                  simp only [Bool.and_eq_true, beq_iff_eq] at hbb
                  have hnr : nrm u = ⟨u.k, 112⟩ := by unfold nrm; rw [if_pos hbb, hbb.1]
                  clear hbb
                  go_wp2
                  go_meet
                  case rel =>
                    have KX := (Kept.setCell [wb] wc ⟨wb, 1, none⟩ (.int .i64 112) (by simp))
                    obtain ⟨cx7, Bx7⟩ := (m3).blk
                    exact ⟨to_twoB t3 KX B3, (m3).fin (Oth.kept KX) (by simpa using Bx7.ne B3 (by decide)), (R3).oth (Oth.kept KX) (by simpa using (R3).ne B3 (by decide)), (U3).oth (Oth.kept KX) (by simpa using huw'), by rw [hnr]; exact (B3).set 1 _, (E3).oth (Oth.kept KX) (by simpa using hew')⟩
              case rest =>
                clear x0 x1 xf xl hbb
                obtain ⟨t4, m4, R4, U4, B4, E4⟩ := hcut
                clear t3 m3 R3 U3 E3 B3
                obtain ⟨w24, hw24⟩ : ∃ x, wc = x := ⟨_, rfl⟩
                rw [hw24] at t4 m4 R4 U4 B4 E4 ⊢
                clear hw24
                obtain ⟨ne, hne⟩ : ∃ v, nrm vx = v := ⟨_, rfl⟩
                obtain ⟨nu, hnu⟩ : ∃ v, nrm u = v := ⟨_, rfl⟩
                rw [hne] at E4
                rw [hnu] at B4
                have u0 : w24.cell? ⟨ub, 0, none⟩ = some (.int .i64 u.k) := U4.cell 0
                have u1 : w24.cell? ⟨ub, 1, none⟩ = some (.int .i64 u.n) := U4.cell 1
                have ul := U4.lt
                go_upto_region 26 with (fail)
                clear u0 u1 ul
                obtain ⟨g, cp, sn4⟩ := Two.seen t4
                have hun' : ub ≠ w24.heap.size := by have := U4.lt; omega
                have hen' : eb ≠ w24.heap.size := by have := E4.lt; omega
                have hwn' : wb ≠ w24.heap.size := by have := B4.lt; omega
                have N5b : Below w24.heap.size w24 (w24.alloc (.cells #[.int .i64 u.k, .int .i64 u.n] 24)) := (Below.refl _ _).alloc (Nat.le_refl _) _
                have N5 : Blk w (w24.alloc (.cells #[.int .i64 u.k, .int .i64 u.n] 24)) w24.heap.size 24 #[.int .i64 u.k, .int .i64 u.n] := Blk.new t4.bel.size _ (by decide)
                have t5 := t4.below N5b
                have m5 := m4.below N5b
                have R5 := R4.below N5b
                have U5 := U4.below N5b
                have E5 := E4.below N5b
                have B5 := B4.below N5b
                have sn5 := sn4.below N5b
                generalize w24.alloc (.cells #[.int .i64 u.k, .int .i64 u.n] 24) = w25 at N5 t5 m5 R5 U5 E5 B5 sn5 ⊢
                generalize w24.heap.size = nb at N5 hun' hen' hwn' ⊢
                clear N5b
                have r0 : w25.cell? ⟨rb, 0, none⟩ = some (.int .i64 2) := R5.cell 0
                have r1 : w25.cell? ⟨rb, 1, none⟩ = some (.int .i64 96) := R5.cell 1
                have r2 : w25.cell? ⟨rb, 2, none⟩ = some (.int .i64 f) := R5.cell 2
                have r3 : w25.cell? ⟨rb, 3, none⟩ = some (.int .i64 vx.k) := R5.cell 3
                have r4 : w25.cell? ⟨rb, 4, none⟩ = some (.int .i64 vx.n) := R5.cell 4
                have r5 : w25.cell? ⟨rb, 5, none⟩ = some (.int .i64 vy.k) := R5.cell 5
                have r6 : w25.cell? ⟨rb, 6, none⟩ = some (.int .i64 vy.n) := R5.cell 6
                have es0 : w25.cell? ⟨eb, 0, none⟩ = some (.int .i64 ne.k) := E5.cell 0
                have es1 : w25.cell? ⟨eb, 1, none⟩ = some (.int .i64 ne.n) := E5.cell 1
                have ws0 : w25.cell? ⟨wb, 0, none⟩ = some (.int .i64 nu.k) := B5.cell 0
                have ws1 : w25.cell? ⟨wb, 1, none⟩ = some (.int .i64 nu.n) := B5.cell 1
                have ns0 : w25.cell? ⟨nb, 0, none⟩ = some (.int .i64 u.k) := N5.cell 0
                have ns1 : w25.cell? ⟨nb, 1, none⟩ = some (.int .i64 u.n) := N5.cell 1
                have nf0 := N5.free 0
                have nf1 := N5.free 1
                have rl := R5.lt
                have el := E5.lt
                have wl' := B5.lt
                have nl := N5.lt
                go_upto_region 28 with (fail)
                clear r0 r1 r2 r3 r4 r5 r6 es0 es1 ws0 ws1 ns0 ns1 nf0 nf1 rl el wl' nl
                have KN : Kept [nb] w25 ((w25.setCell ⟨nb, 0, none⟩ (.int .i64 vy.k)).setCell ⟨nb, 1, none⟩ (.int .i64 vy.n)) := (Kept.setCell [nb] _ _ _ (by simp)).trans (Kept.setCell [nb] _ _ _ (by simp)) (fun _ h => .inl h)
                have t6 := to_twoB t5 KN N5
                have sn6 := seen_kept t5 sn5 KN N5
                have N6 : Blk w ((w25.setCell ⟨nb, 0, none⟩ (.int .i64 vy.k)).setCell ⟨nb, 1, none⟩ (.int .i64 vy.n)) nb 24 #[.int .i64 vy.k, .int .i64 vy.n] := (N5.set 0 _).set 1 _
                have R6 := R5.oth (Oth.kept KN) (by simpa using R5.ne N5 (by decide))
                have U6 := U5.oth (Oth.kept KN) (by simpa using hun')
                have E6 := E5.oth (Oth.kept KN) (by simpa using hen')
                have B6 := B5.oth (Oth.kept KN) (by simpa using hwn')
                obtain ⟨cx7, Bx7⟩ := m5.blk
                have m6 := m5.fin (Oth.kept KN) (by simpa using Bx7.ne N5 (by decide))
                generalize (w25.setCell ⟨nb, 0, none⟩ (.int .i64 vy.k)).setCell ⟨nb, 1, none⟩ (.int .i64 vy.n) = w26 at t6 sn6 N6 R6 U6 E6 B6 m6 ⊢
                clear KN Bx7
                obtain ⟨vyw, hvyw⟩ : ∃ v, vy.w = v := ⟨_, rfl⟩
                have hUw : U64 vyw := hvyw ▸ vy.u64
                have hkw : F.Plain.kind vyw = vy.k := by rw [← hvyw]; exact congrArg Vl.k gy.of
                have hnw : F.Plain.num vyw = vy.n := by rw [← hvyw]; exact congrArg Vl.n gy.of
                have hga : s'.got (97 + (f : Int)) = wa := by rw [M'.gota hf3]; exact hwa
                have hgc : (s'.load (97 + (f : Int))).got (113 + (f : Int)) = vyw := by rw [(M'.load (in_a hf3)).gotc hf3, hwant', hvyw]
                have i97 : IntKind.i64.wrap (97 + (f : Int)) = 97 + (f : Int) := by rw [IntKind.wrap_i64]; omega
                have i113 : IntKind.i64.wrap (113 + (f : Int)) = 113 + (f : Int) := by rw [IntKind.wrap_i64]; omega
                have ev := eqVal_t (a := vy) (b := vy) rfl
                have evu := eqVal_t (a := u) (b := u) rfl
                have fo := fOut1
                have fo2 := fOut2
                have bt := beqTT
                have bf := beqFF
                obtain ⟨oc, hoc⟩ : ∃ c, (Cw.fin hit' o').o.c = c := ⟨_, rfl⟩
                obtain ⟨ov, hov⟩ : ∃ c, (Cw.fin hit' o').o.v = c := ⟨_, rfl⟩
                have hoy : (Cw.fin hit' o').o.y = false := hyes
                have hres : (Cw.fin hit' o').o.val = .agg #[.int .i64 oc, .int .i64 ov.k, .int .i64 ov.n, .bool false] := by rw [← hov, ← hoc, ← hoy]; rfl
                have hbd : Below w26.heap.size w26 w26.drew := (Below.refl _ _).drew
                have TT0 : Two w w26.drew b y s' S _ := t6.below hbd
                have MM0 := m6.below hbd
                have SN0 := sn6.below hbd
                have NN0 := N6.below hbd
                have RR0 := R6.below hbd
                have UU0 := U6.below hbd
                have WW0 := B6.below hbd
                have EE0 := E6.below hbd
                refine wp_region_noPanic ?_
                refine wp_region_held_drew (S := fun w' => w'.cell? ⟨nb, 0, none⟩ = some (.int .i64 vy.k) ∧ w'.cell? ⟨nb, 1, none⟩ = some (.int .i64 vy.n) ∧ w'.cell? ⟨y, 0, none⟩ = some (.slice (some ⟨g, 0, none⟩) 160 cp) ∧ w'.cell? ⟨g, 97 + f, none⟩ = some (.int .u64 wa) ∧ w'.cell? ⟨rb, 0, none⟩ = some (.int .i64 2) ∧ w'.cell? ⟨ub, 0, none⟩ = some (.int .i64 u.k) ∧ w'.cell? ⟨ub, 1, none⟩ = some (.int .i64 u.n) ∧ w'.cell? ⟨wb, 0, none⟩ = some (.int .i64 nu.k) ∧ w'.cell? ⟨wb, 1, none⟩ = some (.int .i64 nu.n) ∧ w'.cell? ⟨eb, 0, none⟩ = some (.int .i64 ne.k) ∧ w'.cell? ⟨eb, 1, none⟩ = some (.int .i64 ne.n)) (by kernel_rfl) ⟨NN0.cell 0, NN0.cell 1, seen160 SN0 hSl, seen97 SN0 hSl hwd0, RR0.cell 0, UU0.cell 0, UU0.cell 1, WW0.cell 0, WW0.cell 1, EE0.cell 0, EE0.cell 1⟩ (fun hHeld => ?_)
                refine takeH (i := 0) 114 (.bool true) rfl rfl (by kernel_rfl) (by kernel_rfl) (by kernel_rfl) (fun _ _ _ h => h) (by rfl) ?_ (by assumption) ?_
                · intro w hSw; (try dsimp only at hSw); go_simp
                simp only [List.setIfInBounds_toArray, List.set_cons_zero, List.set_cons_succ]
                refine takeH (i := 1) 115 (.bool true) rfl rfl (by kernel_rfl) (by kernel_rfl) (by kernel_rfl) (fun _ _ _ h => h) (by rfl) ?_ (by assumption) ?_
                · intro w hSw; (try dsimp only at hSw); go_simp
                simp only [List.setIfInBounds_toArray, List.set_cons_zero, List.set_cons_succ]
                refine takeH (i := 2) 116 (pt b) rfl rfl (by kernel_rfl) (by kernel_rfl) (by kernel_rfl) (fun _ _ _ h => h) (by rfl) ?_ (by assumption) ?_
                · intro w hSw; (try dsimp only at hSw); go_simp
                simp only [List.setIfInBounds_toArray, List.set_cons_zero, List.set_cons_succ]
                refine takeH (i := 3) 117 (.int .i64 f) rfl rfl (by kernel_rfl) (by kernel_rfl) (by kernel_rfl) (fun _ _ _ h => h) (by rfl) ?_ (by assumption) ?_
                · intro w hSw; (try dsimp only at hSw); go_simp
                simp only [List.setIfInBounds_toArray, List.set_cons_zero, List.set_cons_succ]
                refine takeH (i := 4) 118 (.int .i64 (97 + f)) rfl rfl (by kernel_rfl) (by kernel_rfl) (by kernel_rfl) (fun _ _ _ h => h) (by rfl) ?_ (by assumption) ?_
                · intro w hSw; (try dsimp only at hSw); go_simp
                simp only [List.setIfInBounds_toArray, List.set_cons_zero, List.set_cons_succ]
                refine takeH (i := 6) 120 (pt y) rfl rfl (by kernel_rfl) (by kernel_rfl) (by kernel_rfl) (fun _ _ _ h => h) (by rfl) ?_ (by assumption) ?_
                · intro w hSw; (try dsimp only at hSw); go_simp
                simp only [List.setIfInBounds_toArray, List.set_cons_zero, List.set_cons_succ]
                refine takeH (i := 7) 121 (pt y) rfl rfl (by kernel_rfl) (by kernel_rfl) (by kernel_rfl) (fun _ _ _ h => h) (by rfl) ?_ (by assumption) ?_
                · intro w hSw; (try dsimp only at hSw); go_simp
                simp only [List.setIfInBounds_toArray, List.set_cons_zero, List.set_cons_succ]
                refine takeH (i := 8) 122 (pt y) rfl rfl (by kernel_rfl) (by kernel_rfl) (by kernel_rfl) (fun _ _ _ h => h) (by rfl) ?_ (by assumption) ?_
                · intro w hSw; (try dsimp only at hSw); go_simp
                simp only [List.setIfInBounds_toArray, List.set_cons_zero, List.set_cons_succ]
                refine takeH (i := 9) 123 (.slice (some ⟨g, 0, none⟩) 160 cp) rfl rfl (by kernel_rfl) (by kernel_rfl) (by kernel_rfl) (fun _ _ _ h => h) (by rfl) ?_ (by assumption) ?_
                · intro w hSw; (try dsimp only at hSw); go_simp
                simp only [List.setIfInBounds_toArray, List.set_cons_zero, List.set_cons_succ]
                refine takeH (i := 10) 124 (.int .i64 f) rfl rfl (by kernel_rfl) (by kernel_rfl) (by kernel_rfl) (fun _ _ _ h => h) (by rfl) ?_ (by assumption) ?_
                · intro w hSw; (try dsimp only at hSw); go_simp
                simp only [List.setIfInBounds_toArray, List.set_cons_zero, List.set_cons_succ]
                refine takeH (i := 11) 125 (.int .i64 (97 + f)) rfl rfl (by kernel_rfl) (by kernel_rfl) (by kernel_rfl) (fun _ _ _ h => h) (by rfl) ?_ (by assumption) ?_
                · intro w hSw; (try dsimp only at hSw); go_simp
                simp only [List.setIfInBounds_toArray, List.set_cons_zero, List.set_cons_succ]
                refine takeH (i := 12) 126 (.pointer (some ⟨g, 97 + f, none⟩)) rfl rfl (by kernel_rfl) (by kernel_rfl) (by kernel_rfl) (fun _ _ _ h => h) (by rfl) ?_ (by assumption) ?_
                · intro w hSw; (try dsimp only at hSw); go_simp; rw [if_pos (by omega)]; rw [show (97 + (f : Int)).toNat = 97 + f by omega]
                simp only [List.setIfInBounds_toArray, List.set_cons_zero, List.set_cons_succ]
                refine takeH (i := 13) 127 (.int .u64 wa) rfl rfl (by kernel_rfl) (by kernel_rfl) (by kernel_rfl) (fun _ _ _ h => h) (by rfl) ?_ (by assumption) ?_
                · intro w hSw; (try dsimp only at hSw); go_simp
                simp only [List.setIfInBounds_toArray, List.set_cons_zero, List.set_cons_succ]
                refine wpAnyH_ready (rs := [5]) (by kernel_rfl) (by simp) ?_
                refine AllReadyH.cons rfl (fun K hK => ?_) AllReadyH.nil
                go_simp
                refine (tLoadS TT0 SN0 (by omega) (97 + (f : Int))).mono ?_
                rintro e w31 ⟨rfl, TT1, o31, SN1⟩
                rw [hga]
                have MM1 := MM0.oth0 o31
                have NN1 := NN0.oth o31 (by simp)
                have RR1 := RR0.oth o31 (by simp)
                have UU1 := UU0.oth o31 (by simp)
                have WW1 := WW0.oth o31 (by simp)
                have EE1 := EE0.oth o31 (by simp)
                refine hK.out _ _ ⟨NN1.cell 0, NN1.cell 1, seen160 SN1 hSl, seen97 SN1 hSl hwd0, RR1.cell 0, UU1.cell 0, UU1.cell 1, WW1.cell 0, WW1.cell 1, EE1.cell 0, EE1.cell 1⟩ (fun hHeld => ?_)
                clear hK K
                try simp only [Act.put, List.setIfInBounds_toArray, List.set_cons_zero, List.set_cons_succ]
                refine takeH (i := 14) 128 (.bool true) rfl rfl (by kernel_rfl) (by kernel_rfl) (by kernel_rfl) (fun _ _ _ h => h) (by rfl) ?_ (by assumption) ?_
                · intro w hSw; (try dsimp only at hSw); go_simp
                simp only [List.setIfInBounds_toArray, List.set_cons_zero, List.set_cons_succ]
                refine takeH (i := 15) 129 (.bool true) rfl rfl (by kernel_rfl) (by kernel_rfl) (by kernel_rfl) (fun _ _ _ h => h) (by rfl) ?_ (by assumption) ?_
                · intro w hSw; (try dsimp only at hSw); go_simp
                simp only [List.setIfInBounds_toArray, List.set_cons_zero, List.set_cons_succ]
                refine takeH (i := 16) 130 (.bool true) rfl rfl (by kernel_rfl) (by kernel_rfl) (by kernel_rfl) (fun _ _ _ h => h) (by rfl) ?_ (by assumption) ?_
                · intro w hSw; (try dsimp only at hSw); go_simp
                simp only [List.setIfInBounds_toArray, List.set_cons_zero, List.set_cons_succ]
                refine takeH (i := 17) 131 (pt b) rfl rfl (by kernel_rfl) (by kernel_rfl) (by kernel_rfl) (fun _ _ _ h => h) (by rfl) ?_ (by assumption) ?_
                · intro w hSw; (try dsimp only at hSw); go_simp
                simp only [List.setIfInBounds_toArray, List.set_cons_zero, List.set_cons_succ]
                refine takeH (i := 18) 132 (.int .i64 f) rfl rfl (by kernel_rfl) (by kernel_rfl) (by kernel_rfl) (fun _ _ _ h => h) (by rfl) ?_ (by assumption) ?_
                · intro w hSw; (try dsimp only at hSw); go_simp
                simp only [List.setIfInBounds_toArray, List.set_cons_zero, List.set_cons_succ]
                refine takeH (i := 19) 133 (.int .i64 (113 + f)) rfl rfl (by kernel_rfl) (by kernel_rfl) (by kernel_rfl) (fun _ _ _ h => h) (by rfl) ?_ (by assumption) ?_
                · intro w hSw; (try dsimp only at hSw); go_simp
                simp only [List.setIfInBounds_toArray, List.set_cons_zero, List.set_cons_succ]
                refine takeH (i := 22) 136 (.agg #[.int .i64 vy.k, .int .i64 vy.n]) rfl rfl (by kernel_rfl) (by kernel_rfl) (by kernel_rfl) (fun _ _ _ h => h) (by rfl) ?_ (by assumption) ?_
                · intro w hSw; (try dsimp only at hSw); go_simp
                simp only [List.setIfInBounds_toArray, List.set_cons_zero, List.set_cons_succ]
                refine wpAnyH_ready (rs := [20]) (by kernel_rfl) (by simp) ?_
                refine AllReadyH.cons rfl (fun K hK => ?_) AllReadyH.nil
                go_simp
                refine (tLoadS TT1 SN1 (by omega) (113 + (f : Int))).mono ?_
                rintro e w32 ⟨rfl, TT2, o32, SN2⟩
                rw [hgc]
                have MM2 := MM1.oth0 o32
                have NN2 := NN1.oth o32 (by simp)
                have RR2 := RR1.oth o32 (by simp)
                have UU2 := UU1.oth o32 (by simp)
                have WW2 := WW1.oth o32 (by simp)
                have EE2 := EE1.oth o32 (by simp)
                refine hK.out _ _ ⟨NN2.cell 0, NN2.cell 1, seen160 SN2 hSl, seen97 SN2 hSl hwd0, RR2.cell 0, UU2.cell 0, UU2.cell 1, WW2.cell 0, WW2.cell 1, EE2.cell 0, EE2.cell 1⟩ (fun hHeld => ?_)
                clear hK K
                try simp only [Act.put, List.setIfInBounds_toArray, List.set_cons_zero, List.set_cons_succ]
                refine wpAnyH_ready (rs := [21]) (by kernel_rfl) (by simp) ?_
                refine AllReadyH.cons rfl (fun K hK => ?_) AllReadyH.nil
                go_simp
                refine (F.rOf vyw hUw.1 hUw.2 _).mono ?_
                rintro e w33 ⟨rfl, hw33⟩
                rw [hkw, hnw] at hw33 ⊢
                have hb33 : Below w32.heap.size w32 w33 := (by rw [hw33]; go_grown)
                have TT3 := TT2.below hb33
                have MM3 := MM2.below hb33
                have SN3 := SN2.below hb33
                have NN3 := NN2.below hb33
                have RR3 := RR2.below hb33
                have UU3 := UU2.below hb33
                have WW3 := WW2.below hb33
                have EE3 := EE2.below hb33
                clear hw33 hb33
                refine hK.out _ _ ⟨NN3.cell 0, NN3.cell 1, seen160 SN3 hSl, seen97 SN3 hSl hwd0, RR3.cell 0, UU3.cell 0, UU3.cell 1, WW3.cell 0, WW3.cell 1, EE3.cell 0, EE3.cell 1⟩ (fun hHeld => ?_)
                clear hK K
                try simp only [Act.put, List.setIfInBounds_toArray, List.set_cons_zero, List.set_cons_succ]
                refine takeH (i := 23) 137 (.bool true) rfl rfl (by kernel_rfl) (by kernel_rfl) (by kernel_rfl) (fun _ _ _ h => h) (by rfl) ?_ (by assumption) ?_
                · intro w hSw; (try dsimp only at hSw); go_simp
                simp only [List.setIfInBounds_toArray, List.set_cons_zero, List.set_cons_succ]
                refine takeH (i := 24) 138 (.bool true) rfl rfl (by kernel_rfl) (by kernel_rfl) (by kernel_rfl) (fun _ _ _ h => h) (by rfl) ?_ (by assumption) ?_
                · intro w hSw; (try dsimp only at hSw); go_simp
                simp only [List.setIfInBounds_toArray, List.set_cons_zero, List.set_cons_succ]
                refine takeH (i := 25) 139 (.bool true) rfl rfl (by kernel_rfl) (by kernel_rfl) (by kernel_rfl) (fun _ _ _ h => h) (by rfl) ?_ (by assumption) ?_
                · intro w hSw; (try dsimp only at hSw); go_simp
                simp only [List.setIfInBounds_toArray, List.set_cons_zero, List.set_cons_succ]
                refine takeH (i := 26) 140 (pt rb) rfl rfl (by kernel_rfl) (by kernel_rfl) (by kernel_rfl) (fun _ _ _ h => h) (by rfl) ?_ (by assumption) ?_
                · intro w hSw; (try dsimp only at hSw); go_simp
                simp only [List.setIfInBounds_toArray, List.set_cons_zero, List.set_cons_succ]
                refine takeH (i := 27) 141 (.int .i64 2) rfl rfl (by kernel_rfl) (by kernel_rfl) (by kernel_rfl) (fun _ _ _ h => h) (by rfl) ?_ (by assumption) ?_
                · intro w hSw; (try dsimp only at hSw); go_simp
                simp only [List.setIfInBounds_toArray, List.set_cons_zero, List.set_cons_succ]
                refine takeH (i := 28) 142 (.bool true) rfl rfl (by kernel_rfl) (by kernel_rfl) (by kernel_rfl) (fun _ _ _ h => h) (by rfl) ?_ (by assumption) ?_
                · intro w hSw; (try dsimp only at hSw); go_simp
                simp only [List.setIfInBounds_toArray, List.set_cons_zero, List.set_cons_succ]
                refine takeH (i := 29) 143 (.bool true) rfl rfl (by kernel_rfl) (by kernel_rfl) (by kernel_rfl) (fun _ _ _ h => h) (by rfl) ?_ (by assumption) ?_
                · intro w hSw; (try dsimp only at hSw); go_simp
                simp only [List.setIfInBounds_toArray, List.set_cons_zero, List.set_cons_succ]
                refine skipH (i := 30) 144 rfl rfl (by kernel_rfl) (by kernel_rfl) (by kernel_rfl) (fun _ _ _ h => h) (by rfl) (by assumption) ?_
                simp only [List.setIfInBounds_toArray, List.set_cons_zero, List.set_cons_succ]
                refine skipH (i := 31) 145 rfl rfl (by kernel_rfl) (by kernel_rfl) (by kernel_rfl) (fun _ _ _ h => h) (by rfl) (by assumption) ?_
                simp only [List.setIfInBounds_toArray, List.set_cons_zero, List.set_cons_succ]
                refine skipH (i := 32) 146 rfl rfl (by kernel_rfl) (by kernel_rfl) (by kernel_rfl) (fun _ _ _ h => h) (by rfl) (by assumption) ?_
                simp only [List.setIfInBounds_toArray, List.set_cons_zero, List.set_cons_succ]
                refine skipH (i := 33) 147 rfl rfl (by kernel_rfl) (by kernel_rfl) (by kernel_rfl) (fun _ _ _ h => h) (by rfl) (by assumption) ?_
                simp only [List.setIfInBounds_toArray, List.set_cons_zero, List.set_cons_succ]
                refine skipH (i := 34) 148 rfl rfl (by kernel_rfl) (by kernel_rfl) (by kernel_rfl) (fun _ _ _ h => h) (by rfl) (by assumption) ?_
                simp only [List.setIfInBounds_toArray, List.set_cons_zero, List.set_cons_succ]
                refine takeH (i := 35) 149 (.bool true) rfl rfl (by kernel_rfl) (by kernel_rfl) (by kernel_rfl) (fun _ _ _ h => h) (by rfl) ?_ (by assumption) ?_
                · intro w hSw; (try dsimp only at hSw); go_simp
                simp only [List.setIfInBounds_toArray, List.set_cons_zero, List.set_cons_succ]
                refine takeH (i := 36) 150 (.bool true) rfl rfl (by kernel_rfl) (by kernel_rfl) (by kernel_rfl) (fun _ _ _ h => h) (by rfl) ?_ (by assumption) ?_
                · intro w hSw; (try dsimp only at hSw); go_simp
                simp only [List.setIfInBounds_toArray, List.set_cons_zero, List.set_cons_succ]
                refine takeH (i := 37) 151 (.bool true) rfl rfl (by kernel_rfl) (by kernel_rfl) (by kernel_rfl) (fun _ _ _ h => h) (by rfl) ?_ (by assumption) ?_
                · intro w hSw; (try dsimp only at hSw); go_simp
                simp only [List.setIfInBounds_toArray, List.set_cons_zero, List.set_cons_succ]
                refine takeH (i := 38) 152 (pt p) rfl rfl (by kernel_rfl) (by kernel_rfl) (by kernel_rfl) (fun _ _ _ h => h) (by rfl) ?_ (by assumption) ?_
                · intro w hSw; (try dsimp only at hSw); go_simp
                simp only [List.setIfInBounds_toArray, List.set_cons_zero, List.set_cons_succ]
                refine takeH (i := 41) 155 (pt rb) rfl rfl (by kernel_rfl) (by kernel_rfl) (by kernel_rfl) (fun _ _ _ h => h) (by rfl) ?_ (by assumption) ?_
                · intro w hSw; (try dsimp only at hSw); go_simp
                simp only [List.setIfInBounds_toArray, List.set_cons_zero, List.set_cons_succ]
                refine takeH (i := 42) 156 (.int .i64 2) rfl rfl (by kernel_rfl) (by kernel_rfl) (by kernel_rfl) (fun _ _ _ h => h) (by rfl) ?_ (by assumption) ?_
                · intro w hSw; (try dsimp only at hSw); go_simp
                simp only [List.setIfInBounds_toArray, List.set_cons_zero, List.set_cons_succ]
                refine takeH (i := 43) 157 (.bool false) rfl rfl (by kernel_rfl) (by kernel_rfl) (by kernel_rfl) (fun _ _ _ h => h) (by rfl) ?_ (by assumption) ?_
                · intro w hSw; (try dsimp only at hSw); go_simp
                simp only [List.setIfInBounds_toArray, List.set_cons_zero, List.set_cons_succ]
                refine wpAnyH_ready (rs := [39]) (by kernel_rfl) (by simp) ?_
                refine AllReadyH.cons rfl (fun K hK => ?_) AllReadyH.nil
                go_simp
                refine (cCResult MM3).mono ?_
                rintro e w34 ⟨rfl, hb34⟩
                rw [hres]
                have TT4 := TT3.below hb34
                have MM4 := MM3.below hb34
                have SN4 := SN3.below hb34
                have NN4 := NN3.below hb34
                have RR4 := RR3.below hb34
                have UU4 := UU3.below hb34
                have WW4 := WW3.below hb34
                have EE4 := EE3.below hb34
                refine hK.out _ _ ⟨NN4.cell 0, NN4.cell 1, seen160 SN4 hSl, seen97 SN4 hSl hwd0, RR4.cell 0, UU4.cell 0, UU4.cell 1, WW4.cell 0, WW4.cell 1, EE4.cell 0, EE4.cell 1⟩ (fun hHeld => ?_)
                clear hK K
                try simp only [Act.put, List.setIfInBounds_toArray, List.set_cons_zero, List.set_cons_succ]
                refine takeH (i := 40) 154 (.bool false) rfl rfl (by kernel_rfl) (by kernel_rfl) (by kernel_rfl) (fun _ _ _ h => h) (by rfl) ?_ (by assumption) ?_
                · intro w hSw; (try dsimp only at hSw); go_simp
                simp only [List.setIfInBounds_toArray, List.set_cons_zero, List.set_cons_succ]
                refine takeH (i := 44) 158 (.bool false) rfl rfl (by kernel_rfl) (by kernel_rfl) (by kernel_rfl) (fun _ _ _ h => h) (by rfl) ?_ (by assumption) ?_
                · intro w hSw; (try dsimp only at hSw); go_simp
                simp only [List.setIfInBounds_toArray, List.set_cons_zero, List.set_cons_succ]
                refine skipH (i := 45) 159 rfl rfl (by kernel_rfl) (by kernel_rfl) (by kernel_rfl) (fun _ _ _ h => h) (by rfl) (by assumption) ?_
                simp only [List.setIfInBounds_toArray, List.set_cons_zero, List.set_cons_succ]
                refine skipH (i := 46) 160 rfl rfl (by kernel_rfl) (by kernel_rfl) (by kernel_rfl) (fun _ _ _ h => h) (by rfl) (by assumption) ?_
                simp only [List.setIfInBounds_toArray, List.set_cons_zero, List.set_cons_succ]
                refine skipH (i := 47) 161 rfl rfl (by kernel_rfl) (by kernel_rfl) (by kernel_rfl) (fun _ _ _ h => h) (by rfl) (by assumption) ?_
                simp only [List.setIfInBounds_toArray, List.set_cons_zero, List.set_cons_succ]
                refine takeH (i := 48) 162 (.bool false) rfl rfl (by kernel_rfl) (by kernel_rfl) (by kernel_rfl) (fun _ _ _ h => h) (by rfl) ?_ (by assumption) ?_
                · intro w hSw; (try dsimp only at hSw); go_simp
                simp only [List.setIfInBounds_toArray, List.set_cons_zero, List.set_cons_succ]
                refine takeH (i := 49) 163 (.bool true) rfl rfl (by kernel_rfl) (by kernel_rfl) (by kernel_rfl) (fun _ _ _ h => h) (by rfl) ?_ (by assumption) ?_
                · intro w hSw; (try dsimp only at hSw); go_simp
                simp only [List.setIfInBounds_toArray, List.set_cons_zero, List.set_cons_succ]
                refine takeH (i := 50) 164 (.bool true) rfl rfl (by kernel_rfl) (by kernel_rfl) (by kernel_rfl) (fun _ _ _ h => h) (by rfl) ?_ (by assumption) ?_
                · intro w hSw; (try dsimp only at hSw); go_simp
                simp only [List.setIfInBounds_toArray, List.set_cons_zero, List.set_cons_succ]
                refine takeH (i := 51) 6 (.bool true) rfl rfl (by kernel_rfl) (by kernel_rfl) (by kernel_rfl) (fun _ _ _ h => h) (by rfl) ?_ (by assumption) ?_
                · intro w hSw; (try dsimp only at hSw); go_simp
                simp only [List.setIfInBounds_toArray, List.set_cons_zero, List.set_cons_succ]
                refine wpAnyH_done (by kernel_rfl) ?_ _
                refine NoPanic.normal ?_
                go_wp2
                go_ret
                exact ⟨rfl, TT4.bel⟩
end Go.Proofs.YtahafmglidlcnaaDoor
