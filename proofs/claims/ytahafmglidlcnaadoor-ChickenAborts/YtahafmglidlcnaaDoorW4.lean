/-
  The walk of the law on an access of a tagged object, alone.
-/
import Derived.Test.YtahafmglidlcnaaDoorCnw
import Derived.Test.YtahafmglidlcnaaDoorCg
import Derived.Test.YtahafmglidlcnaaDoorCq
namespace Go.Proofs.YtahafmglidlcnaaDoor
set_option linter.unusedVariables false
set_option linter.unusedSimpArgs false
set_option maxRecDepth 100000
open Go.ChangeShapes Go.WideShapes Go.RowKit
open H.Plain (hw pS pC pN pM pG pT pL mv)

set_option maxHeartbeats 8000000 in
theorem waborts1 (av : Option Addr) (ll cv' : Nat) (zl : Nat → Vl) (q : Op15) (w : World) (W : H.Wid w) (cv : CameV w av ll zl) (fit : q.Fit) (hop : (reqP q).op = 1) :
    Calls Tryd.prog 6 #[.slice av ll cv', .agg q.cells] w fun e w' => e = .returned (.bool true) ∧ Below w.heap.size w w' := by
  obtain ⟨S, hS⟩ : ∃ S, laidS 1 (fldP ll zl) = S := ⟨_, rfl⟩
  have hSl : S.ws.length = 160 := by rw [← hS]; exact laid_len _ _
  have M0 := laid_m6 1 (fldP ll zl)
  rw [hS] at M0
  have kf := kd_lt q.fd 3 (by decide)
  obtain ⟨f, hf⟩ : ∃ f : Nat, kd q.fd 3 = (f : Int) := ⟨(kd q.fd 3).toNat, by omega⟩
  rw [hf] at kf
  have hf3 : f < 3 := by omega
  have km := kd_lt q.md 4 (by decide)
  obtain ⟨mk, hmk⟩ : ∃ m, kd q.md 4 = m := ⟨_, rfl⟩
  rw [hmk] at km
  obtain ⟨md, hmd⟩ : ∃ m, 5 + mk = m := ⟨_, rfl⟩
  have imd : IntKind.i64.wrap md = md := by rw [IntKind.wrap_i64]; omega
  have gx := good_valP q.x
  have gy := good_valP q.y
  obtain ⟨vx, hvx⟩ : ∃ v, valP q.x = v := ⟨_, rfl⟩
  obtain ⟨vy, hvy⟩ : ∃ v, valP q.y = v := ⟨_, rfl⟩
  rw [hvx] at gx
  rw [hvy] at gy
  obtain ⟨at0, hat0⟩ : ∃ a, (reqP q).at_ = a := ⟨_, rfl⟩
  obtain ⟨f0, hf0⟩ : ∃ a, (reqP q).fd = a := ⟨_, rfl⟩
  have hrq : (reqP q).cells = #[.int .i64 1, .int .i64 at0, .int .i64 f0, .int .i64 vx.k, .int .i64 vx.n, .int .i64 vy.k, .int .i64 vy.n] := by
    unfold Rq.cells
    rw [hop, hat0, hf0, show (reqP q).x = vx from hvx, show (reqP q).y = vy from hvy]
  obtain ⟨fx, hfx⟩ : ∃ b, (md == 8) = b := ⟨_, rfl⟩
  have hnew : Cw.new (Rq.mk 1 96 f vx vy) ⟨md, 0, 0⟩ = (Cw.hd (Rq.mk 1 96 f vx vy) fx) := by
    unfold Cw.new
    rw [if_neg (by simp), if_neg (by simp only; omega)]
    rw [hfx]
  have okR : (Rq.mk 1 96 f vx vy).Ok := ⟨.inl rfl, by simp, by simp, by simp, by simp only; omega⟩
  have gu := good_fldP ll zl f
  obtain ⟨u, hu⟩ : ∃ u, fldP ll zl f = u := ⟨_, rfl⟩
  rw [hu] at gu
  obtain ⟨d, x', s', a', hd8, E, M', hwant, hV⟩ := abort_ends (r := (Rq.mk 1 96 f vx vy)) (u := u) M0 hf3 (by simp) rfl rfl fx gu gx (by simp only [hu])
  have hwd0 : S.word (97 + (f : Int)) = u.w := by rw [M0.fa f hf3]; simp only [hu]
  have M2 : M6 s' (HT 1) a' (fun _ => 0) := by simpa using M'
  have hwant' : a' f = u.w := hwant.trans (if_neg (by simp))
  have hVu : Hid (x'.o.v = u) := hV rfl
  clear hwant hV M'
  have M' := M2
  clear M2
  obtain ⟨hit', o', rfl⟩ := done_fin E.done
  have a0 : Below w.heap.size w (w.alloc (.cells q.cells 28)) := (Below.refl _ _).alloc (Nat.le_refl _) _
  have C0 : Blk w (w.alloc (.cells q.cells 28)) w.heap.size 28 q.cells := Blk.new (Nat.le_refl _) _ (by decide)
  go_enter Tryd.func6, Tryd.ntmps6
  unfold Op15.cells
  go_upto_region 1 with (fail)
  obtain ⟨ob, hob⟩ : ∃ ob, w.heap.size = ob := ⟨_, rfl⟩
  change Blk w (w.alloc (.cells q.cells 28)) w.heap.size 28 q.cells at C0
  rw [hob] at C0
  unfold Op15.cells at C0 a0
  rw [hob]
  have cv0 := cv.on a0
  generalize hw0 : w.alloc _ = wa0 at C0 a0 cv0 ⊢
  clear hw0
  go_upto_region 3 with (first
    | (go_at_call 8; refine (cShown _ (W.on a0)).mono ?_; rintro e w1 ⟨rfl, hb1'⟩; have hb1 := bel_trans a0 hb1'; have C1 := C0.below hb1'; have cv1 := cv0.on hb1'; clear hb1')
    | (go_at_call 9; refine (cLaid w1 (W.on hb1) cv1).mono ?_; rintro e w2 ⟨b, y, rfl, h2⟩; rw [hS] at h2; have C2 := C1.below h2.bel; have h3 : Two w w2 b y S S 18 := h2.lift hb1 W; clear h2))
  have d0 : w2.cell? ⟨ob, 0, none⟩ = some (.int .i64 q.ob) := C2.cell 0
  have d1 : w2.cell? ⟨ob, 1, none⟩ = some (.int .i64 q.fd) := C2.cell 1
  have d2 : w2.cell? ⟨ob, 2, none⟩ = some (.int .i64 q.ac) := C2.cell 2
  have d3 : w2.cell? ⟨ob, 3, none⟩ = some (.int .i64 q.md) := C2.cell 3
  have d4 : w2.cell? ⟨ob, 4, none⟩ = some (.int .i64 q.x.k) := C2.cell 4
  have d5 : w2.cell? ⟨ob, 5, none⟩ = some (.int .i64 q.x.n) := C2.cell 5
  have d6 : w2.cell? ⟨ob, 6, none⟩ = some (.int .i64 q.y.k) := C2.cell 6
  have d7 : w2.cell? ⟨ob, 7, none⟩ = some (.int .i64 q.y.n) := C2.cell 7
  have d8 : w2.cell? ⟨ob, 8, none⟩ = some (.int .i64 q.hS) := C2.cell 8
  have d9 : w2.cell? ⟨ob, 9, none⟩ = some (.int .i64 q.hC) := C2.cell 9
  have d10 : w2.cell? ⟨ob, 10, none⟩ = some (.int .i64 q.hN) := C2.cell 10
  have d11 : w2.cell? ⟨ob, 11, none⟩ = some (.int .i64 q.hM) := C2.cell 11
  have d12 : w2.cell? ⟨ob, 12, none⟩ = some (.int .i64 q.hG) := C2.cell 12
  have d13 : w2.cell? ⟨ob, 13, none⟩ = some (.int .i64 q.hT) := C2.cell 13
  have d14 : w2.cell? ⟨ob, 14, none⟩ = some (.int .i64 q.hL) := C2.cell 14
  go_upto_region 5 with (first
    | (go_at_call 10; refine (cKind _ q.fd 3 fit.fd.1 fit.fd.2 (by decide)).mono ?_; rintro e wk ⟨rfl, hwk⟩; rw [hwk, hf]; clear hwk wk)
    | (go_at_call 20; refine (cReq q fit _).mono ?_; rintro e w3 ⟨rfl, hb3⟩; rw [hrq]; have h4 := h3.below hb3; have C3 := C2.below hb3; clear hb3))
  clear d0 d1 d2 d3 d4 d5 d6 d7 d8 d9 d10 d11 d12 d13 d14
  have Q4b : Below w3.heap.size w3 (w3.alloc (.cells #[.int .i64 1, .int .i64 at0, .int .i64 f0, .int .i64 vx.k, .int .i64 vx.n, .int .i64 vy.k, .int .i64 vy.n] 40)) := (Below.refl _ _).alloc (Nat.le_refl _) _
  have Q4 : Blk w (w3.alloc (.cells #[.int .i64 1, .int .i64 at0, .int .i64 f0, .int .i64 vx.k, .int .i64 vx.n, .int .i64 vy.k, .int .i64 vy.n] 40)) w3.heap.size 40 #[.int .i64 1, .int .i64 at0, .int .i64 f0, .int .i64 vx.k, .int .i64 vx.n, .int .i64 vy.k, .int .i64 vy.n] := Blk.new h4.bel.size _ (by decide)
  have h5 := h4.below Q4b
  have C4 := C3.below Q4b
  generalize w3.alloc (.cells #[.int .i64 1, .int .i64 at0, .int .i64 f0, .int .i64 vx.k, .int .i64 vx.n, .int .i64 vy.k, .int .i64 vy.n] 40) = w4 at Q4 h5 C4 ⊢
  generalize w3.heap.size = rb at Q4 ⊢
  clear Q4b
  have e1 : w4.cell? ⟨rb, 1, none⟩ = some (.int .i64 at0) := Q4.cell 1
  have e2 : w4.cell? ⟨rb, 2, none⟩ = some (.int .i64 f0) := Q4.cell 2
  have ef1 := Q4.free 1
  have ef2 := Q4.free 2
  go_upto_region 7 with (fail)
  have KQ : Kept [rb] w4 ((w4.setCell ⟨rb, 1, none⟩ (.int .i64 96)).setCell ⟨rb, 2, none⟩ (.int .i64 f)) := (Kept.setCell [rb] _ _ _ (by simp)).trans (Kept.setCell [rb] _ _ _ (by simp)) (fun _ h => .inl h)
  have Q5 : Blk w ((w4.setCell ⟨rb, 1, none⟩ (.int .i64 96)).setCell ⟨rb, 2, none⟩ (.int .i64 f)) rb 40 #[.int .i64 1, .int .i64 96, .int .i64 f, .int .i64 vx.k, .int .i64 vx.n, .int .i64 vy.k, .int .i64 vy.n] := (Q4.set 1 _).set 2 _
  have h6 := to_twoB h5 KQ Q4
  have C5 := C4.oth (Oth.kept KQ) (by simpa using C4.ne Q4 (by decide))
  clear e1 e2 ef1 ef2
  generalize (w4.setCell ⟨rb, 1, none⟩ (.int .i64 96)).setCell ⟨rb, 2, none⟩ (.int .i64 f) = w5 at Q5 h6 C5 ⊢
  clear KQ
  have hbd : Below w5.heap.size w5 w5.drew := (Below.refl _ _).drew
  refine wp_region_noPanic ?_
  refine wp_region_held_drew (S := fun w' => w'.cell? ⟨rb, 0, none⟩ = some (.int .i64 1) ∧ w'.cell? ⟨rb, 1, none⟩ = some (.int .i64 96) ∧ w'.cell? ⟨rb, 2, none⟩ = some (.int .i64 f) ∧ w'.cell? ⟨rb, 3, none⟩ = some (.int .i64 vx.k) ∧ w'.cell? ⟨rb, 4, none⟩ = some (.int .i64 vx.n) ∧ w'.cell? ⟨rb, 5, none⟩ = some (.int .i64 vy.k) ∧ w'.cell? ⟨rb, 6, none⟩ = some (.int .i64 vy.n) ∧ w'.cell? ⟨ob, 3, none⟩ = some (.int .i64 q.md)) (by kernel_rfl) ⟨(Q5.below hbd).cell 0, (Q5.below hbd).cell 1, (Q5.below hbd).cell 2, (Q5.below hbd).cell 3, (Q5.below hbd).cell 4, (Q5.below hbd).cell 5, (Q5.below hbd).cell 6, (C5.below hbd).cell 3⟩ (fun hHeld => ?_)
  refine takeH (i := 0) 31 (.agg #[.int .i64 1, .int .i64 96, .int .i64 f, .int .i64 vx.k, .int .i64 vx.n, .int .i64 vy.k, .int .i64 vy.n]) rfl rfl (by kernel_rfl) (by kernel_rfl) (by kernel_rfl) (fun _ _ _ h => h) (by rfl) ?_ (by assumption) ?_
  · intro w hSw; (try dsimp only at hSw); go_simp
  simp only [List.setIfInBounds_toArray, List.set_cons_zero, List.set_cons_succ]
  refine takeH (i := 1) 32 (.pointer (some ⟨ob, 3, none⟩)) rfl rfl (by kernel_rfl) (by kernel_rfl) (by kernel_rfl) (fun _ _ _ h => h) (by rfl) ?_ (by assumption) ?_
  · intro w hSw; (try dsimp only at hSw); go_simp
  simp only [List.setIfInBounds_toArray, List.set_cons_zero, List.set_cons_succ]
  refine takeH (i := 2) 33 (.int .i64 q.md) rfl rfl (by kernel_rfl) (by kernel_rfl) (by kernel_rfl) (fun _ _ _ h => h) (by rfl) ?_ (by assumption) ?_
  · intro w hSw; (try dsimp only at hSw); go_simp
  simp only [List.setIfInBounds_toArray, List.set_cons_zero, List.set_cons_succ]
  refine wpAnyH_ready (rs := [3]) (by kernel_rfl) (by simp) ?_
  refine AllReadyH.cons rfl (fun K hK => ?_) AllReadyH.nil
  go_simp
  refine (cKind _ q.md 4 fit.md.1 fit.md.2 (by decide)).mono ?_
  rintro e wk ⟨rfl, hwk⟩
  rw [hwk, hmk]
  clear hwk wk
  refine hK.out _ _ ⟨(Q5.below hbd).cell 0, (Q5.below hbd).cell 1, (Q5.below hbd).cell 2, (Q5.below hbd).cell 3, (Q5.below hbd).cell 4, (Q5.below hbd).cell 5, (Q5.below hbd).cell 6, (C5.below hbd).cell 3⟩ (fun hHeld => ?_)
  clear hK K
  try simp only [Act.put, List.setIfInBounds_toArray, List.set_cons_zero, List.set_cons_succ]
  refine takeH (i := 4) 35 (.int .i64 md) rfl rfl (by kernel_rfl) (by kernel_rfl) (by kernel_rfl) (fun _ _ _ h => h) (by rfl) ?_ (by assumption) ?_
  · intro w hSw; (try dsimp only at hSw); go_simp
  simp only [List.setIfInBounds_toArray, List.set_cons_zero, List.set_cons_succ]
  refine takeH (i := 5) 36 (.agg #[.int .i64 md, .int .i64 0, .int .i64 0]) rfl rfl (by kernel_rfl) (by kernel_rfl) (by kernel_rfl) (fun _ _ _ h => h) (by rfl) ?_ (by assumption) ?_
  · intro w hSw; (try dsimp only at hSw); go_simp
  simp only [List.setIfInBounds_toArray, List.set_cons_zero, List.set_cons_succ]
  refine wpAnyH_ready (rs := [6]) (by kernel_rfl) (by simp) ?_
  refine AllReadyH.cons rfl (fun K hK => ?_) AllReadyH.nil
  go_simp
  refine (cNewC (Rq.mk 1 96 f vx vy) ⟨md, 0, 0⟩ _ okR).mono ?_
  rintro e w6 ⟨p, rfl, Mp⟩
  rw [hnew] at Mp
  have h7 := (h6.below hbd).below Mp.bel
  have m7 : Cm w w6 p (Cw.hd (Rq.mk 1 96 f vx vy) fx) := Mp.cm (h6.below hbd).bel.size okR
  have Q6 := (Q5.below hbd).below Mp.bel
  have C6 := (C5.below hbd).below Mp.bel
  clear Mp
  refine hK.out _ _ ⟨Q6.cell 0, Q6.cell 1, Q6.cell 2, Q6.cell 3, Q6.cell 4, Q6.cell 5, Q6.cell 6, C6.cell 3⟩ (fun hHeld => ?_)
  clear hK K
  try simp only [Act.put, List.setIfInBounds_toArray, List.set_cons_zero, List.set_cons_succ]
  refine takeH (i := 7) 10 (pt p) rfl rfl (by kernel_rfl) (by kernel_rfl) (by kernel_rfl) (fun _ _ _ h => h) (by rfl) ?_ (by assumption) ?_
  · intro w hSw; (try dsimp only at hSw); go_simp
  simp only [List.setIfInBounds_toArray, List.set_cons_zero, List.set_cons_succ]
  refine wpAnyH_done (by kernel_rfl) ?_ _
  refine NoPanic.normal ?_
  clear h3 h4 h5 h6 C2 C3 C4 C5 Q4 Q5 hbd
  go_wp2_with (fail)
  go_loopw [11, 12] (fun dn i wr => ∃ j : Nat, j ≤ d ∧ i = .int .i64 j ∧ dn = .bool (runC (Cw.hd (Rq.mk 1 96 f vx vy) fx) S j).1.done ∧ Two w wr b y (runC (Cw.hd (Rq.mk 1 96 f vx vy) fx) S j).2 S (18 + j) ∧ Cm w wr p (runC (Cw.hd (Rq.mk 1 96 f vx vy) fx) S j).1 ∧ Blk w wr rb 40 #[.int .i64 1, .int .i64 96, .int .i64 f, .int .i64 vx.k, .int .i64 vx.n, .int .i64 vy.k, .int .i64 vy.n]) (fun _ i _ => 12 - (intOf i).toNat)
  case atStart => exact ⟨0, Nat.zero_le _, rfl, rfl, h7, m7, Q6⟩
  case round =>
    obtain ⟨j, hj, rfl, rfl, k1, k2, k3⟩ := hrel
    rcases Nat.lt_or_ge j d with hjd | hjd
    · have hdn : (runC (Cw.hd (Rq.mk 1 96 f vx vy) fx) S j).1.done = false := E.not j hjd
      have hji : (j : Int) < 12 := by omega
      obtain ⟨XX, hX⟩ : ∃ X, (runC (Cw.hd (Rq.mk 1 96 f vx vy) fx) S j).1 = X := ⟨_, rfl⟩
      obtain ⟨SX, hSX⟩ : ∃ X, (runC (Cw.hd (Rq.mk 1 96 f vx vy) fx) S j).2 = X := ⟨_, rfl⟩
      rw [hX] at k2 hdn
      rw [hSX] at k1
      rw [hX, hdn]
      obtain ⟨cx, Bx'⟩ := k2.blk
      go_wp2_with (go_at_call 13; refine (tC k1 k2 (by omega)).mono ?_; rintro e w20 ⟨rfl, k4, k5, o6⟩; have k6 := k3.oth o6 (by simpa using k3.ne Bx' (by decide)))
      go_roundw
      case rel => exact ⟨j + 1, by omega, by go_num, by simp only [runC, hX, hSX], by simp only [runC, hX, hSX]; exact k4, by simp only [runC, hX, hSX]; exact k5, k6⟩
      case measure => simp [intOf]; omega
    · obtain rfl : j = d := by omega
      have hdn : (runC (Cw.hd (Rq.mk 1 96 f vx vy) fx) S j).1.done = true := by rw [E.at_]; rfl
      rw [hdn]
      rw [E.at_] at k1 k2
      have hji : (j : Int) < 12 := by omega
      obtain ⟨g, cp, sn⟩ := Two.seen k1
      obtain ⟨hx0, hhx⟩ : ∃ h, HT 1 = h := ⟨_, rfl⟩
      have hgx : s'.got 96 = hx0 := by rw [M'.got96, ← hhx]
      have hUx : U64 hx0 := hhx ▸ u64_hw _ _ _ _ _ _ _
      have hq5 : pT hx0 = 1 := by rw [← hhx]; decide
      obtain ⟨q0, e0⟩ : ∃ q, pS hx0 = q := ⟨_, rfl⟩
      obtain ⟨q1, e1⟩ : ∃ q, pC hx0 = q := ⟨_, rfl⟩
      obtain ⟨q2, e2⟩ : ∃ q, pN hx0 = q := ⟨_, rfl⟩
      obtain ⟨q3, e3⟩ : ∃ q, pM hx0 = q := ⟨_, rfl⟩
      obtain ⟨q4, e4⟩ : ∃ q, pG hx0 = q := ⟨_, rfl⟩
      obtain ⟨q6, e6⟩ : ∃ q, pL hx0 = q := ⟨_, rfl⟩
      go_upto_region 16 with (first
        | (go_at_call 22; refine (tLoadS k1 sn (by omega) 96).mono ?_; rintro e w21 ⟨rfl, t1, o21, sn1⟩; rw [hgx]; have m1 := k2.oth0 o21; have R1 := k3.oth o21 (by simp); clear o21)
        | (go_at_call 21; refine (H.rOf hx0 hUx.1 hUx.2 _).mono ?_; rintro e w22 ⟨rfl, hw22⟩; rw [e0, e1, e2, e3, e4, hq5, e6] at hw22 ⊢; have hb22 : Below w21.heap.size w21 w22 := (by rw [hw22]; go_grown); have t2 := t1.below hb22; have m2 := m1.below hb22; have R2 := R1.below hb22; have sn2 := sn1.below hb22; clear hw22 hb22))
      have H3b : Below w22.heap.size w22 (w22.alloc (.cells #[.int .i64 q0, .int .i64 q1, .int .i64 q2, .int .i64 q3, .int .i64 q4, .int .i64 1, .int .i64 q6] 26)) := (Below.refl _ _).alloc (Nat.le_refl _) _
      have H3 : Blk w (w22.alloc (.cells #[.int .i64 q0, .int .i64 q1, .int .i64 q2, .int .i64 q3, .int .i64 q4, .int .i64 1, .int .i64 q6] 26)) w22.heap.size 26 #[.int .i64 q0, .int .i64 q1, .int .i64 q2, .int .i64 q3, .int .i64 q4, .int .i64 1, .int .i64 q6] := Blk.new t2.bel.size _ (by decide)
      have t3 := t2.below H3b
      have m3 := m2.below H3b
      have R3 := R2.below H3b
      have sn3 := sn2.below H3b
      generalize w22.alloc (.cells #[.int .i64 q0, .int .i64 q1, .int .i64 q2, .int .i64 q3, .int .i64 q4, .int .i64 1, .int .i64 q6] 26) = w23 at H3 t3 m3 R3 sn3 ⊢
      generalize w22.heap.size = hb at H3 ⊢
      clear H3b
      obtain ⟨ix, hix⟩ : ∃ ix, 97 + f = ix := ⟨_, rfl⟩
      have i1 : 97 + (f : Int) = (ix : Int) := by omega
      have i5 : IntKind.i64.wrap (ix : Int) = (ix : Int) := by rw [IntKind.wrap_i64]; omega
      have hixi : (ix : Int) < 160 := by omega
      have c0 := sn3.c0
      rw [hSl] at c0
      have cw := sn3.at hSl ix (by omega)
      rw [← i1, hwd0] at cw
      have hUu := u.u64
      have hku : F.Plain.kind u.w = u.k := congrArg Vl.k gu.of
      have hnu : F.Plain.num u.w = u.n := congrArg Vl.n gu.of
      obtain ⟨uw, huw⟩ : ∃ v, u.w = v := ⟨_, rfl⟩
      rw [huw] at cw hUu hku hnu
      have ly := sn3.ly
      have lg := sn3.lg
      go_upto_region 17 with (go_at_call 15; refine (F.rOf uw hUu.1 hUu.2 _).mono ?_; rintro e w24 ⟨rfl, hw24⟩; rw [hku, hnu] at hw24 ⊢; have hb24 : Below w23.heap.size w23 w24 := (by rw [hw24]; go_grown); have t4 := t3.below hb24; have m4 := m3.below hb24; have R4 := R3.below hb24; have sn4 := sn3.below hb24; have H4 := H3.below hb24; clear hw24 hb24)
      have U5b : Below w24.heap.size w24 (w24.alloc (.cells #[.int .i64 u.k, .int .i64 u.n] 24)) := (Below.refl _ _).alloc (Nat.le_refl _) _
      have U5 : Blk w (w24.alloc (.cells #[.int .i64 u.k, .int .i64 u.n] 24)) w24.heap.size 24 #[.int .i64 u.k, .int .i64 u.n] := Blk.new t4.bel.size _ (by decide)
      have t5 := t4.below U5b
      have m5 := m4.below U5b
      have R5 := R4.below U5b
      have sn5 := sn4.below U5b
      have H5 := H4.below U5b
      generalize w24.alloc (.cells #[.int .i64 u.k, .int .i64 u.n] 24) = w25 at U5 t5 m5 R5 sn5 H5 ⊢
      generalize w24.heap.size = ub at U5 ⊢
      clear U5b
      clear c0 cw ly lg i1 i5 hixi hix
      have g0 : w25.cell? ⟨ub, 0, none⟩ = some (.int .i64 u.k) := U5.cell 0
      have g1 : w25.cell? ⟨ub, 1, none⟩ = some (.int .i64 u.n) := U5.cell 1
      have gl := U5.lt
      go_upto_region 18 with (fail)
      clear g0 g1 gl
      have hun' : ub ≠ w25.heap.size := by have := U5.lt; omega
      have N6b : Below w25.heap.size w25 (w25.alloc (.cells #[.int .i64 u.k, .int .i64 u.n] 24)) := (Below.refl _ _).alloc (Nat.le_refl _) _
      have N6 : Blk w (w25.alloc (.cells #[.int .i64 u.k, .int .i64 u.n] 24)) w25.heap.size 24 #[.int .i64 u.k, .int .i64 u.n] := Blk.new t5.bel.size _ (by decide)
      have t6 := t5.below N6b
      have m6 := m5.below N6b
      have R6 := R5.below N6b
      have sn6 := sn5.below N6b
      have H6 := H5.below N6b
      have U6 := U5.below N6b
      generalize w25.alloc (.cells #[.int .i64 u.k, .int .i64 u.n] 24) = w26 at N6 t6 m6 R6 sn6 H6 U6 ⊢
      generalize w25.heap.size = nb at N6 hun' ⊢
      have hun : ub ≠ nb := hun'
      clear N6b
      have hS113 : S.word (113 + (f : Int)) = 0 := M0.fc f hf3
      have r0 : w26.cell? ⟨rb, 0, none⟩ = some (.int .i64 1) := R6.cell 0
      have r1 : w26.cell? ⟨rb, 1, none⟩ = some (.int .i64 96) := R6.cell 1
      have r2 : w26.cell? ⟨rb, 2, none⟩ = some (.int .i64 f) := R6.cell 2
      have r3 : w26.cell? ⟨rb, 3, none⟩ = some (.int .i64 vx.k) := R6.cell 3
      have r4 : w26.cell? ⟨rb, 4, none⟩ = some (.int .i64 vx.n) := R6.cell 4
      have r5 : w26.cell? ⟨rb, 5, none⟩ = some (.int .i64 vy.k) := R6.cell 5
      have r6 : w26.cell? ⟨rb, 6, none⟩ = some (.int .i64 vy.n) := R6.cell 6
      have us0 : w26.cell? ⟨ub, 0, none⟩ = some (.int .i64 u.k) := U6.cell 0
      have usf0 := U6.free 0
      have us1 : w26.cell? ⟨ub, 1, none⟩ = some (.int .i64 u.n) := U6.cell 1
      have usf1 := U6.free 1
      have ns0 : w26.cell? ⟨nb, 0, none⟩ = some (.int .i64 u.k) := N6.cell 0
      have nsf0 := N6.free 0
      have ns1 : w26.cell? ⟨nb, 1, none⟩ = some (.int .i64 u.n) := N6.cell 1
      have nsf1 := N6.free 1
      have rl := R6.lt
      have ul := U6.lt
      have nl := N6.lt
      go_upto_region 23 with (fail)
      clear r0 r1 r2 r3 r4 r5 r6 us0 usf0 us1 usf1 ns0 nsf0 ns1 nsf1 rl ul nl
      have hUw : U64 uw := huw ▸ u.u64
      have hkw : F.Plain.kind uw = u.k := by rw [← huw]; exact congrArg Vl.k gu.of
      have hnw : F.Plain.num uw = u.n := by rw [← huw]; exact congrArg Vl.n gu.of
      have hgf : (s'.load 96).got (97 + (f : Int)) = uw := by rw [(M'.load in96).gota hf3, hwant', huw]
      have hgc : ((s'.load 96).load (97 + (f : Int))).got (113 + (f : Int)) = 0 := ((M'.load in96).load (in_a hf3)).gotc hf3
      have i97 : IntKind.i64.wrap (97 + (f : Int)) = 97 + (f : Int) := by rw [IntKind.wrap_i64]; omega
      have i113 : IntKind.i64.wrap (113 + (f : Int)) = 113 + (f : Int) := by rw [IntKind.wrap_i64]; omega
      have ev := eqVal_t (a := u) (b := u) rfl
      have evu := eqVal_t (a := u) (b := u) rfl
      have fo := fOut1
      obtain ⟨oc, hoc⟩ : ∃ c, (Cw.fin hit' o').o.c = c := ⟨_, rfl⟩
      obtain ⟨oy, hoy⟩ : ∃ c, (Cw.fin hit' o').o.y = c := ⟨_, rfl⟩
      have hov : (Cw.fin hit' o').o.v = u := hVu.out
      have hbd : Below w26.heap.size w26 w26.drew := (Below.refl _ _).drew
      have TT0 : Two w w26.drew b y (s'.load 96) S _ := t6.below hbd
      have MM0 := m6.below hbd
      have SN0 := sn6.below hbd
      have HH0 := H6.below hbd
      have NN0 := N6.below hbd
      have RR0 := R6.below hbd
      have UU0 := U6.below hbd
      refine wp_region_noPanic ?_
      refine wp_region_held_drew (S := fun w' => w'.cell? ⟨hb, 5, none⟩ = some (.int .i64 1) ∧ w'.cell? ⟨nb, 0, none⟩ = some (.int .i64 u.k) ∧ w'.cell? ⟨nb, 1, none⟩ = some (.int .i64 u.n) ∧ w'.cell? ⟨y, 0, none⟩ = some (.slice (some ⟨g, 0, none⟩) 160 cp) ∧ w'.cell? ⟨g, 113 + f, none⟩ = some (.int .u64 0) ∧ w'.cell? ⟨rb, 0, none⟩ = some (.int .i64 1) ∧ w'.cell? ⟨ub, 0, none⟩ = some (.int .i64 u.k) ∧ w'.cell? ⟨ub, 1, none⟩ = some (.int .i64 u.n)) (by kernel_rfl) ⟨HH0.cell 5, NN0.cell 0, NN0.cell 1, seen160 SN0 hSl, seen113 SN0 hSl hS113, RR0.cell 0, UU0.cell 0, UU0.cell 1⟩ (fun hHeld => ?_)
      refine takeH (i := 0) 91 (.bool true) rfl rfl (by kernel_rfl) (by kernel_rfl) (by kernel_rfl) (fun _ _ _ h => h) (by rfl) ?_ (by assumption) ?_
      · intro w hSw; (try dsimp only at hSw); go_simp
      simp only [List.setIfInBounds_toArray, List.set_cons_zero, List.set_cons_succ]
      refine takeH (i := 1) 92 (.bool true) rfl rfl (by kernel_rfl) (by kernel_rfl) (by kernel_rfl) (fun _ _ _ h => h) (by rfl) ?_ (by assumption) ?_
      · intro w hSw; (try dsimp only at hSw); go_simp
      simp only [List.setIfInBounds_toArray, List.set_cons_zero, List.set_cons_succ]
      refine takeH (i := 2) 93 (.pointer (some ⟨hb, 5, none⟩)) rfl rfl (by kernel_rfl) (by kernel_rfl) (by kernel_rfl) (fun _ _ _ h => h) (by rfl) ?_ (by assumption) ?_
      · intro w hSw; (try dsimp only at hSw); go_simp
      simp only [List.setIfInBounds_toArray, List.set_cons_zero, List.set_cons_succ]
      refine takeH (i := 3) 94 (.int .i64 1) rfl rfl (by kernel_rfl) (by kernel_rfl) (by kernel_rfl) (fun _ _ _ h => h) (by rfl) ?_ (by assumption) ?_
      · intro w hSw; (try dsimp only at hSw); go_simp
      simp only [List.setIfInBounds_toArray, List.set_cons_zero, List.set_cons_succ]
      refine takeH (i := 4) 95 (.int .i64 1) rfl rfl (by kernel_rfl) (by kernel_rfl) (by kernel_rfl) (fun _ _ _ h => h) (by rfl) ?_ (by assumption) ?_
      · intro w hSw; (try dsimp only at hSw); go_simp
      simp only [List.setIfInBounds_toArray, List.set_cons_zero, List.set_cons_succ]
      refine takeH (i := 5) 96 (.bool true) rfl rfl (by kernel_rfl) (by kernel_rfl) (by kernel_rfl) (fun _ _ _ h => h) (by rfl) ?_ (by assumption) ?_
      · intro w hSw; (try dsimp only at hSw); go_simp
      simp only [List.setIfInBounds_toArray, List.set_cons_zero, List.set_cons_succ]
      refine takeH (i := 6) 97 (.bool true) rfl rfl (by kernel_rfl) (by kernel_rfl) (by kernel_rfl) (fun _ _ _ h => h) (by rfl) ?_ (by assumption) ?_
      · intro w hSw; (try dsimp only at hSw); go_simp
      simp only [List.setIfInBounds_toArray, List.set_cons_zero, List.set_cons_succ]
      refine takeH (i := 7) 98 (.bool true) rfl rfl (by kernel_rfl) (by kernel_rfl) (by kernel_rfl) (fun _ _ _ h => h) (by rfl) ?_ (by assumption) ?_
      · intro w hSw; (try dsimp only at hSw); go_simp
      simp only [List.setIfInBounds_toArray, List.set_cons_zero, List.set_cons_succ]
      refine takeH (i := 8) 99 (pt b) rfl rfl (by kernel_rfl) (by kernel_rfl) (by kernel_rfl) (fun _ _ _ h => h) (by rfl) ?_ (by assumption) ?_
      · intro w hSw; (try dsimp only at hSw); go_simp
      simp only [List.setIfInBounds_toArray, List.set_cons_zero, List.set_cons_succ]
      refine takeH (i := 9) 100 (.int .i64 f) rfl rfl (by kernel_rfl) (by kernel_rfl) (by kernel_rfl) (fun _ _ _ h => h) (by rfl) ?_ (by assumption) ?_
      · intro w hSw; (try dsimp only at hSw); go_simp
      simp only [List.setIfInBounds_toArray, List.set_cons_zero, List.set_cons_succ]
      refine takeH (i := 10) 101 (.int .i64 (97 + f)) rfl rfl (by kernel_rfl) (by kernel_rfl) (by kernel_rfl) (fun _ _ _ h => h) (by rfl) ?_ (by assumption) ?_
      · intro w hSw; (try dsimp only at hSw); go_simp
      simp only [List.setIfInBounds_toArray, List.set_cons_zero, List.set_cons_succ]
      refine takeH (i := 13) 104 (.agg #[.int .i64 u.k, .int .i64 u.n]) rfl rfl (by kernel_rfl) (by kernel_rfl) (by kernel_rfl) (fun _ _ _ h => h) (by rfl) ?_ (by assumption) ?_
      · intro w hSw; (try dsimp only at hSw); go_simp
      simp only [List.setIfInBounds_toArray, List.set_cons_zero, List.set_cons_succ]
      refine wpAnyH_ready (rs := [11]) (by kernel_rfl) (by simp) ?_
      refine AllReadyH.cons rfl (fun K hK => ?_) AllReadyH.nil
      go_simp
      refine (tLoadS TT0 SN0 (by omega) (97 + (f : Int))).mono ?_
      rintro e w31 ⟨rfl, TT1, o31, SN1⟩
      rw [hgf]
      have MM1 := MM0.oth0 o31
      have HH1 := HH0.oth o31 (by simp)
      have NN1 := NN0.oth o31 (by simp)
      have RR1 := RR0.oth o31 (by simp)
      have UU1 := UU0.oth o31 (by simp)
      refine hK.out _ _ ⟨HH1.cell 5, NN1.cell 0, NN1.cell 1, seen160 SN1 hSl, seen113 SN1 hSl hS113, RR1.cell 0, UU1.cell 0, UU1.cell 1⟩ (fun hHeld => ?_)
      clear hK K
      try simp only [Act.put, List.setIfInBounds_toArray, List.set_cons_zero, List.set_cons_succ]
      refine wpAnyH_ready (rs := [12]) (by kernel_rfl) (by simp) ?_
      refine AllReadyH.cons rfl (fun K hK => ?_) AllReadyH.nil
      go_simp
      refine (F.rOf uw hUw.1 hUw.2 _).mono ?_
      rintro e w32 ⟨rfl, hw32⟩
      rw [hkw, hnw] at hw32 ⊢
      have hb32 : Below w31.heap.size w31 w32 := (by rw [hw32]; go_grown)
      have TT2 := TT1.below hb32
      have MM2 := MM1.below hb32
      have SN2 := SN1.below hb32
      have HH2 := HH1.below hb32
      have NN2 := NN1.below hb32
      have RR2 := RR1.below hb32
      have UU2 := UU1.below hb32
      clear hw32 hb32
      refine hK.out _ _ ⟨HH2.cell 5, NN2.cell 0, NN2.cell 1, seen160 SN2 hSl, seen113 SN2 hSl hS113, RR2.cell 0, UU2.cell 0, UU2.cell 1⟩ (fun hHeld => ?_)
      clear hK K
      try simp only [Act.put, List.setIfInBounds_toArray, List.set_cons_zero, List.set_cons_succ]
      refine takeH (i := 14) 105 (.bool true) rfl rfl (by kernel_rfl) (by kernel_rfl) (by kernel_rfl) (fun _ _ _ h => h) (by rfl) ?_ (by assumption) ?_
      · intro w hSw; (try dsimp only at hSw); go_simp
      simp only [List.setIfInBounds_toArray, List.set_cons_zero, List.set_cons_succ]
      refine takeH (i := 15) 106 (.bool true) rfl rfl (by kernel_rfl) (by kernel_rfl) (by kernel_rfl) (fun _ _ _ h => h) (by rfl) ?_ (by assumption) ?_
      · intro w hSw; (try dsimp only at hSw); go_simp
      simp only [List.setIfInBounds_toArray, List.set_cons_zero, List.set_cons_succ]
      refine takeH (i := 16) 107 (.bool true) rfl rfl (by kernel_rfl) (by kernel_rfl) (by kernel_rfl) (fun _ _ _ h => h) (by rfl) ?_ (by assumption) ?_
      · intro w hSw; (try dsimp only at hSw); go_simp
      simp only [List.setIfInBounds_toArray, List.set_cons_zero, List.set_cons_succ]
      refine takeH (i := 17) 108 (pt b) rfl rfl (by kernel_rfl) (by kernel_rfl) (by kernel_rfl) (fun _ _ _ h => h) (by rfl) ?_ (by assumption) ?_
      · intro w hSw; (try dsimp only at hSw); go_simp
      simp only [List.setIfInBounds_toArray, List.set_cons_zero, List.set_cons_succ]
      refine takeH (i := 18) 109 (.int .i64 f) rfl rfl (by kernel_rfl) (by kernel_rfl) (by kernel_rfl) (fun _ _ _ h => h) (by rfl) ?_ (by assumption) ?_
      · intro w hSw; (try dsimp only at hSw); go_simp
      simp only [List.setIfInBounds_toArray, List.set_cons_zero, List.set_cons_succ]
      refine takeH (i := 19) 110 (.int .i64 (113 + f)) rfl rfl (by kernel_rfl) (by kernel_rfl) (by kernel_rfl) (fun _ _ _ h => h) (by rfl) ?_ (by assumption) ?_
      · intro w hSw; (try dsimp only at hSw); go_simp
      simp only [List.setIfInBounds_toArray, List.set_cons_zero, List.set_cons_succ]
      refine takeH (i := 21) 112 (pt y) rfl rfl (by kernel_rfl) (by kernel_rfl) (by kernel_rfl) (fun _ _ _ h => h) (by rfl) ?_ (by assumption) ?_
      · intro w hSw; (try dsimp only at hSw); go_simp
      simp only [List.setIfInBounds_toArray, List.set_cons_zero, List.set_cons_succ]
      refine takeH (i := 22) 113 (pt y) rfl rfl (by kernel_rfl) (by kernel_rfl) (by kernel_rfl) (fun _ _ _ h => h) (by rfl) ?_ (by assumption) ?_
      · intro w hSw; (try dsimp only at hSw); go_simp
      simp only [List.setIfInBounds_toArray, List.set_cons_zero, List.set_cons_succ]
      refine takeH (i := 23) 114 (pt y) rfl rfl (by kernel_rfl) (by kernel_rfl) (by kernel_rfl) (fun _ _ _ h => h) (by rfl) ?_ (by assumption) ?_
      · intro w hSw; (try dsimp only at hSw); go_simp
      simp only [List.setIfInBounds_toArray, List.set_cons_zero, List.set_cons_succ]
      refine takeH (i := 24) 115 (.slice (some ⟨g, 0, none⟩) 160 cp) rfl rfl (by kernel_rfl) (by kernel_rfl) (by kernel_rfl) (fun _ _ _ h => h) (by rfl) ?_ (by assumption) ?_
      · intro w hSw; (try dsimp only at hSw); go_simp
      simp only [List.setIfInBounds_toArray, List.set_cons_zero, List.set_cons_succ]
      refine takeH (i := 25) 116 (.int .i64 f) rfl rfl (by kernel_rfl) (by kernel_rfl) (by kernel_rfl) (fun _ _ _ h => h) (by rfl) ?_ (by assumption) ?_
      · intro w hSw; (try dsimp only at hSw); go_simp
      simp only [List.setIfInBounds_toArray, List.set_cons_zero, List.set_cons_succ]
      refine takeH (i := 26) 117 (.int .i64 (113 + f)) rfl rfl (by kernel_rfl) (by kernel_rfl) (by kernel_rfl) (fun _ _ _ h => h) (by rfl) ?_ (by assumption) ?_
      · intro w hSw; (try dsimp only at hSw); go_simp
      simp only [List.setIfInBounds_toArray, List.set_cons_zero, List.set_cons_succ]
      refine takeH (i := 27) 118 (.pointer (some ⟨g, 113 + f, none⟩)) rfl rfl (by kernel_rfl) (by kernel_rfl) (by kernel_rfl) (fun _ _ _ h => h) (by rfl) ?_ (by assumption) ?_
      · intro w hSw; (try dsimp only at hSw); go_simp; rw [if_pos (by omega)]; rw [show (113 + (f : Int)).toNat = 113 + f by omega]
      simp only [List.setIfInBounds_toArray, List.set_cons_zero, List.set_cons_succ]
      refine takeH (i := 28) 119 (.int .u64 0) rfl rfl (by kernel_rfl) (by kernel_rfl) (by kernel_rfl) (fun _ _ _ h => h) (by rfl) ?_ (by assumption) ?_
      · intro w hSw; (try dsimp only at hSw); go_simp
      simp only [List.setIfInBounds_toArray, List.set_cons_zero, List.set_cons_succ]
      refine wpAnyH_ready (rs := [20]) (by kernel_rfl) (by simp) ?_
      refine AllReadyH.cons rfl (fun K hK => ?_) AllReadyH.nil
      go_simp
      refine (tLoadS TT2 SN2 (by omega) (113 + (f : Int))).mono ?_
      rintro e w33 ⟨rfl, TT3, o33, SN3⟩
      rw [hgc]
      have MM3 := MM2.oth0 o33
      have HH3 := HH2.oth o33 (by simp)
      have NN3 := NN2.oth o33 (by simp)
      have RR3 := RR2.oth o33 (by simp)
      have UU3 := UU2.oth o33 (by simp)
      refine hK.out _ _ ⟨HH3.cell 5, NN3.cell 0, NN3.cell 1, seen160 SN3 hSl, seen113 SN3 hSl hS113, RR3.cell 0, UU3.cell 0, UU3.cell 1⟩ (fun hHeld => ?_)
      clear hK K
      try simp only [Act.put, List.setIfInBounds_toArray, List.set_cons_zero, List.set_cons_succ]
      refine takeH (i := 29) 120 (.bool true) rfl rfl (by kernel_rfl) (by kernel_rfl) (by kernel_rfl) (fun _ _ _ h => h) (by rfl) ?_ (by assumption) ?_
      · intro w hSw; (try dsimp only at hSw); go_simp
      simp only [List.setIfInBounds_toArray, List.set_cons_zero, List.set_cons_succ]
      refine takeH (i := 30) 121 (.bool true) rfl rfl (by kernel_rfl) (by kernel_rfl) (by kernel_rfl) (fun _ _ _ h => h) (by rfl) ?_ (by assumption) ?_
      · intro w hSw; (try dsimp only at hSw); go_simp
      simp only [List.setIfInBounds_toArray, List.set_cons_zero, List.set_cons_succ]
      refine takeH (i := 31) 122 (.bool true) rfl rfl (by kernel_rfl) (by kernel_rfl) (by kernel_rfl) (fun _ _ _ h => h) (by rfl) ?_ (by assumption) ?_
      · intro w hSw; (try dsimp only at hSw); go_simp
      simp only [List.setIfInBounds_toArray, List.set_cons_zero, List.set_cons_succ]
      refine takeH (i := 32) 123 (pt rb) rfl rfl (by kernel_rfl) (by kernel_rfl) (by kernel_rfl) (fun _ _ _ h => h) (by rfl) ?_ (by assumption) ?_
      · intro w hSw; (try dsimp only at hSw); go_simp
      simp only [List.setIfInBounds_toArray, List.set_cons_zero, List.set_cons_succ]
      refine takeH (i := 33) 124 (.int .i64 1) rfl rfl (by kernel_rfl) (by kernel_rfl) (by kernel_rfl) (fun _ _ _ h => h) (by rfl) ?_ (by assumption) ?_
      · intro w hSw; (try dsimp only at hSw); go_simp
      simp only [List.setIfInBounds_toArray, List.set_cons_zero, List.set_cons_succ]
      refine takeH (i := 34) 125 (.bool false) rfl rfl (by kernel_rfl) (by kernel_rfl) (by kernel_rfl) (fun _ _ _ h => h) (by rfl) ?_ (by assumption) ?_
      · intro w hSw; (try dsimp only at hSw); go_simp
      simp only [List.setIfInBounds_toArray, List.set_cons_zero, List.set_cons_succ]
      refine takeH (i := 35) 126 (.bool false) rfl rfl (by kernel_rfl) (by kernel_rfl) (by kernel_rfl) (fun _ _ _ h => h) (by rfl) ?_ (by assumption) ?_
      · intro w hSw; (try dsimp only at hSw); go_simp
      simp only [List.setIfInBounds_toArray, List.set_cons_zero, List.set_cons_succ]
      refine takeH (i := 36) 127 (pt p) rfl rfl (by kernel_rfl) (by kernel_rfl) (by kernel_rfl) (fun _ _ _ h => h) (by rfl) ?_ (by assumption) ?_
      · intro w hSw; (try dsimp only at hSw); go_simp
      simp only [List.setIfInBounds_toArray, List.set_cons_zero, List.set_cons_succ]
      refine takeH (i := 39) 130 (.agg #[.int .i64 u.k, .int .i64 u.n]) rfl rfl (by kernel_rfl) (by kernel_rfl) (by kernel_rfl) (fun _ _ _ h => h) (by rfl) ?_ (by assumption) ?_
      · intro w hSw; (try dsimp only at hSw); go_simp
      simp only [List.setIfInBounds_toArray, List.set_cons_zero, List.set_cons_succ]
      refine wpAnyH_ready (rs := [37]) (by kernel_rfl) (by simp) ?_
      refine AllReadyH.cons rfl (fun K hK => ?_) AllReadyH.nil
      go_simp
      refine (cCResult MM3).mono ?_
      rintro e w34 ⟨rfl, hb34⟩
      rw [show (Cw.fin hit' o').o.val = .agg #[.int .i64 oc, .int .i64 u.k, .int .i64 u.n, .bool oy] by rw [← hov, ← hoc, ← hoy]; rfl]
      have TT4 := TT3.below hb34
      have SN4 := SN3.below hb34
      have HH4 := HH3.below hb34
      have NN4 := NN3.below hb34
      have RR4 := RR3.below hb34
      have UU4 := UU3.below hb34
      refine hK.out _ _ ⟨HH4.cell 5, NN4.cell 0, NN4.cell 1, seen160 SN4 hSl, seen113 SN4 hSl hS113, RR4.cell 0, UU4.cell 0, UU4.cell 1⟩ (fun hHeld => ?_)
      clear hK K
      try simp only [Act.put, List.setIfInBounds_toArray, List.set_cons_zero, List.set_cons_succ]
      refine takeH (i := 38) 129 (.agg #[.int .i64 u.k, .int .i64 u.n]) rfl rfl (by kernel_rfl) (by kernel_rfl) (by kernel_rfl) (fun _ _ _ h => h) (by rfl) ?_ (by assumption) ?_
      · intro w hSw; (try dsimp only at hSw); go_simp
      simp only [List.setIfInBounds_toArray, List.set_cons_zero, List.set_cons_succ]
      refine takeH (i := 40) 131 (.bool true) rfl rfl (by kernel_rfl) (by kernel_rfl) (by kernel_rfl) (fun _ _ _ h => h) (by rfl) ?_ (by assumption) ?_
      · intro w hSw; (try dsimp only at hSw); go_simp
      simp only [List.setIfInBounds_toArray, List.set_cons_zero, List.set_cons_succ]
      refine takeH (i := 41) 132 (.bool true) rfl rfl (by kernel_rfl) (by kernel_rfl) (by kernel_rfl) (fun _ _ _ h => h) (by rfl) ?_ (by assumption) ?_
      · intro w hSw; (try dsimp only at hSw); go_simp
      simp only [List.setIfInBounds_toArray, List.set_cons_zero, List.set_cons_succ]
      refine takeH (i := 42) 133 (.bool true) rfl rfl (by kernel_rfl) (by kernel_rfl) (by kernel_rfl) (fun _ _ _ h => h) (by rfl) ?_ (by assumption) ?_
      · intro w hSw; (try dsimp only at hSw); go_simp
      simp only [List.setIfInBounds_toArray, List.set_cons_zero, List.set_cons_succ]
      refine takeH (i := 43) 4 (.bool true) rfl rfl (by kernel_rfl) (by kernel_rfl) (by kernel_rfl) (fun _ _ _ h => h) (by rfl) ?_ (by assumption) ?_
      · intro w hSw; (try dsimp only at hSw); go_simp
      simp only [List.setIfInBounds_toArray, List.set_cons_zero, List.set_cons_succ]
      refine wpAnyH_done (by kernel_rfl) ?_ _
      refine NoPanic.normal ?_
      go_wp2
      go_ret
      exact ⟨rfl, TT4.bel⟩
set_option maxHeartbeats 8000000 in
theorem waborts2 (av : Option Addr) (ll cv' : Nat) (zl : Nat → Vl) (q : Op15) (w : World) (W : H.Wid w) (cv : CameV w av ll zl) (fit : q.Fit) (hop : (reqP q).op = 2) :
    Calls Tryd.prog 6 #[.slice av ll cv', .agg q.cells] w fun e w' => e = .returned (.bool true) ∧ Below w.heap.size w w' := by
  obtain ⟨S, hS⟩ : ∃ S, laidS 1 (fldP ll zl) = S := ⟨_, rfl⟩
  have hSl : S.ws.length = 160 := by rw [← hS]; exact laid_len _ _
  have M0 := laid_m6 1 (fldP ll zl)
  rw [hS] at M0
  have kf := kd_lt q.fd 3 (by decide)
  obtain ⟨f, hf⟩ : ∃ f : Nat, kd q.fd 3 = (f : Int) := ⟨(kd q.fd 3).toNat, by omega⟩
  rw [hf] at kf
  have hf3 : f < 3 := by omega
  have km := kd_lt q.md 4 (by decide)
  obtain ⟨mk, hmk⟩ : ∃ m, kd q.md 4 = m := ⟨_, rfl⟩
  rw [hmk] at km
  obtain ⟨md, hmd⟩ : ∃ m, 5 + mk = m := ⟨_, rfl⟩
  have imd : IntKind.i64.wrap md = md := by rw [IntKind.wrap_i64]; omega
  have gx := good_valP q.x
  have gy := good_valP q.y
  obtain ⟨vx, hvx⟩ : ∃ v, valP q.x = v := ⟨_, rfl⟩
  obtain ⟨vy, hvy⟩ : ∃ v, valP q.y = v := ⟨_, rfl⟩
  rw [hvx] at gx
  rw [hvy] at gy
  obtain ⟨at0, hat0⟩ : ∃ a, (reqP q).at_ = a := ⟨_, rfl⟩
  obtain ⟨f0, hf0⟩ : ∃ a, (reqP q).fd = a := ⟨_, rfl⟩
  have hrq : (reqP q).cells = #[.int .i64 2, .int .i64 at0, .int .i64 f0, .int .i64 vx.k, .int .i64 vx.n, .int .i64 vy.k, .int .i64 vy.n] := by
    unfold Rq.cells
    rw [hop, hat0, hf0, show (reqP q).x = vx from hvx, show (reqP q).y = vy from hvy]
  obtain ⟨fx, hfx⟩ : ∃ b, (md == 8) = b := ⟨_, rfl⟩
  have hnew : Cw.new (Rq.mk 2 96 f vx vy) ⟨md, 0, 0⟩ = (Cw.hd (Rq.mk 2 96 f vx vy) fx) := by
    unfold Cw.new
    rw [if_neg (by simp), if_neg (by simp only; omega)]
    rw [hfx]
  have okR : (Rq.mk 2 96 f vx vy).Ok := ⟨.inr (.inl rfl), by simp, by simp, by simp, by simp only; omega⟩
  have gu := good_fldP ll zl f
  obtain ⟨u, hu⟩ : ∃ u, fldP ll zl f = u := ⟨_, rfl⟩
  rw [hu] at gu
  obtain ⟨d, x', s', a', hd8, E, M', hwant, hV⟩ := abort_ends (r := (Rq.mk 2 96 f vx vy)) (u := u) M0 hf3 (by simp) rfl rfl fx gu gx (by simp only [hu])
  have hwd0 : S.word (97 + (f : Int)) = u.w := by rw [M0.fa f hf3]; simp only [hu]
  have M2 : M6 s' H0 a' (fun _ => 0) := by simpa using M'
  have hwant' : a' f = vy.w := hwant.trans (if_pos (.inl rfl))
  clear hwant hV M'
  have M' := M2
  clear M2
  obtain ⟨hit', o', rfl⟩ := done_fin E.done
  have a0 : Below w.heap.size w (w.alloc (.cells q.cells 28)) := (Below.refl _ _).alloc (Nat.le_refl _) _
  have C0 : Blk w (w.alloc (.cells q.cells 28)) w.heap.size 28 q.cells := Blk.new (Nat.le_refl _) _ (by decide)
  go_enter Tryd.func6, Tryd.ntmps6
  unfold Op15.cells
  go_upto_region 1 with (fail)
  obtain ⟨ob, hob⟩ : ∃ ob, w.heap.size = ob := ⟨_, rfl⟩
  change Blk w (w.alloc (.cells q.cells 28)) w.heap.size 28 q.cells at C0
  rw [hob] at C0
  unfold Op15.cells at C0 a0
  rw [hob]
  have cv0 := cv.on a0
  generalize hw0 : w.alloc _ = wa0 at C0 a0 cv0 ⊢
  clear hw0
  go_upto_region 3 with (first
    | (go_at_call 8; refine (cShown _ (W.on a0)).mono ?_; rintro e w1 ⟨rfl, hb1'⟩; have hb1 := bel_trans a0 hb1'; have C1 := C0.below hb1'; have cv1 := cv0.on hb1'; clear hb1')
    | (go_at_call 9; refine (cLaid w1 (W.on hb1) cv1).mono ?_; rintro e w2 ⟨b, y, rfl, h2⟩; rw [hS] at h2; have C2 := C1.below h2.bel; have h3 : Two w w2 b y S S 18 := h2.lift hb1 W; clear h2))
  have d0 : w2.cell? ⟨ob, 0, none⟩ = some (.int .i64 q.ob) := C2.cell 0
  have d1 : w2.cell? ⟨ob, 1, none⟩ = some (.int .i64 q.fd) := C2.cell 1
  have d2 : w2.cell? ⟨ob, 2, none⟩ = some (.int .i64 q.ac) := C2.cell 2
  have d3 : w2.cell? ⟨ob, 3, none⟩ = some (.int .i64 q.md) := C2.cell 3
  have d4 : w2.cell? ⟨ob, 4, none⟩ = some (.int .i64 q.x.k) := C2.cell 4
  have d5 : w2.cell? ⟨ob, 5, none⟩ = some (.int .i64 q.x.n) := C2.cell 5
  have d6 : w2.cell? ⟨ob, 6, none⟩ = some (.int .i64 q.y.k) := C2.cell 6
  have d7 : w2.cell? ⟨ob, 7, none⟩ = some (.int .i64 q.y.n) := C2.cell 7
  have d8 : w2.cell? ⟨ob, 8, none⟩ = some (.int .i64 q.hS) := C2.cell 8
  have d9 : w2.cell? ⟨ob, 9, none⟩ = some (.int .i64 q.hC) := C2.cell 9
  have d10 : w2.cell? ⟨ob, 10, none⟩ = some (.int .i64 q.hN) := C2.cell 10
  have d11 : w2.cell? ⟨ob, 11, none⟩ = some (.int .i64 q.hM) := C2.cell 11
  have d12 : w2.cell? ⟨ob, 12, none⟩ = some (.int .i64 q.hG) := C2.cell 12
  have d13 : w2.cell? ⟨ob, 13, none⟩ = some (.int .i64 q.hT) := C2.cell 13
  have d14 : w2.cell? ⟨ob, 14, none⟩ = some (.int .i64 q.hL) := C2.cell 14
  go_upto_region 5 with (first
    | (go_at_call 10; refine (cKind _ q.fd 3 fit.fd.1 fit.fd.2 (by decide)).mono ?_; rintro e wk ⟨rfl, hwk⟩; rw [hwk, hf]; clear hwk wk)
    | (go_at_call 20; refine (cReq q fit _).mono ?_; rintro e w3 ⟨rfl, hb3⟩; rw [hrq]; have h4 := h3.below hb3; have C3 := C2.below hb3; clear hb3))
  clear d0 d1 d2 d3 d4 d5 d6 d7 d8 d9 d10 d11 d12 d13 d14
  have Q4b : Below w3.heap.size w3 (w3.alloc (.cells #[.int .i64 2, .int .i64 at0, .int .i64 f0, .int .i64 vx.k, .int .i64 vx.n, .int .i64 vy.k, .int .i64 vy.n] 40)) := (Below.refl _ _).alloc (Nat.le_refl _) _
  have Q4 : Blk w (w3.alloc (.cells #[.int .i64 2, .int .i64 at0, .int .i64 f0, .int .i64 vx.k, .int .i64 vx.n, .int .i64 vy.k, .int .i64 vy.n] 40)) w3.heap.size 40 #[.int .i64 2, .int .i64 at0, .int .i64 f0, .int .i64 vx.k, .int .i64 vx.n, .int .i64 vy.k, .int .i64 vy.n] := Blk.new h4.bel.size _ (by decide)
  have h5 := h4.below Q4b
  have C4 := C3.below Q4b
  generalize w3.alloc (.cells #[.int .i64 2, .int .i64 at0, .int .i64 f0, .int .i64 vx.k, .int .i64 vx.n, .int .i64 vy.k, .int .i64 vy.n] 40) = w4 at Q4 h5 C4 ⊢
  generalize w3.heap.size = rb at Q4 ⊢
  clear Q4b
  have e1 : w4.cell? ⟨rb, 1, none⟩ = some (.int .i64 at0) := Q4.cell 1
  have e2 : w4.cell? ⟨rb, 2, none⟩ = some (.int .i64 f0) := Q4.cell 2
  have ef1 := Q4.free 1
  have ef2 := Q4.free 2
  go_upto_region 7 with (fail)
  have KQ : Kept [rb] w4 ((w4.setCell ⟨rb, 1, none⟩ (.int .i64 96)).setCell ⟨rb, 2, none⟩ (.int .i64 f)) := (Kept.setCell [rb] _ _ _ (by simp)).trans (Kept.setCell [rb] _ _ _ (by simp)) (fun _ h => .inl h)
  have Q5 : Blk w ((w4.setCell ⟨rb, 1, none⟩ (.int .i64 96)).setCell ⟨rb, 2, none⟩ (.int .i64 f)) rb 40 #[.int .i64 2, .int .i64 96, .int .i64 f, .int .i64 vx.k, .int .i64 vx.n, .int .i64 vy.k, .int .i64 vy.n] := (Q4.set 1 _).set 2 _
  have h6 := to_twoB h5 KQ Q4
  have C5 := C4.oth (Oth.kept KQ) (by simpa using C4.ne Q4 (by decide))
  clear e1 e2 ef1 ef2
  generalize (w4.setCell ⟨rb, 1, none⟩ (.int .i64 96)).setCell ⟨rb, 2, none⟩ (.int .i64 f) = w5 at Q5 h6 C5 ⊢
  clear KQ
  have hbd : Below w5.heap.size w5 w5.drew := (Below.refl _ _).drew
  refine wp_region_noPanic ?_
  refine wp_region_held_drew (S := fun w' => w'.cell? ⟨rb, 0, none⟩ = some (.int .i64 2) ∧ w'.cell? ⟨rb, 1, none⟩ = some (.int .i64 96) ∧ w'.cell? ⟨rb, 2, none⟩ = some (.int .i64 f) ∧ w'.cell? ⟨rb, 3, none⟩ = some (.int .i64 vx.k) ∧ w'.cell? ⟨rb, 4, none⟩ = some (.int .i64 vx.n) ∧ w'.cell? ⟨rb, 5, none⟩ = some (.int .i64 vy.k) ∧ w'.cell? ⟨rb, 6, none⟩ = some (.int .i64 vy.n) ∧ w'.cell? ⟨ob, 3, none⟩ = some (.int .i64 q.md)) (by kernel_rfl) ⟨(Q5.below hbd).cell 0, (Q5.below hbd).cell 1, (Q5.below hbd).cell 2, (Q5.below hbd).cell 3, (Q5.below hbd).cell 4, (Q5.below hbd).cell 5, (Q5.below hbd).cell 6, (C5.below hbd).cell 3⟩ (fun hHeld => ?_)
  refine takeH (i := 0) 31 (.agg #[.int .i64 2, .int .i64 96, .int .i64 f, .int .i64 vx.k, .int .i64 vx.n, .int .i64 vy.k, .int .i64 vy.n]) rfl rfl (by kernel_rfl) (by kernel_rfl) (by kernel_rfl) (fun _ _ _ h => h) (by rfl) ?_ (by assumption) ?_
  · intro w hSw; (try dsimp only at hSw); go_simp
  simp only [List.setIfInBounds_toArray, List.set_cons_zero, List.set_cons_succ]
  refine takeH (i := 1) 32 (.pointer (some ⟨ob, 3, none⟩)) rfl rfl (by kernel_rfl) (by kernel_rfl) (by kernel_rfl) (fun _ _ _ h => h) (by rfl) ?_ (by assumption) ?_
  · intro w hSw; (try dsimp only at hSw); go_simp
  simp only [List.setIfInBounds_toArray, List.set_cons_zero, List.set_cons_succ]
  refine takeH (i := 2) 33 (.int .i64 q.md) rfl rfl (by kernel_rfl) (by kernel_rfl) (by kernel_rfl) (fun _ _ _ h => h) (by rfl) ?_ (by assumption) ?_
  · intro w hSw; (try dsimp only at hSw); go_simp
  simp only [List.setIfInBounds_toArray, List.set_cons_zero, List.set_cons_succ]
  refine wpAnyH_ready (rs := [3]) (by kernel_rfl) (by simp) ?_
  refine AllReadyH.cons rfl (fun K hK => ?_) AllReadyH.nil
  go_simp
  refine (cKind _ q.md 4 fit.md.1 fit.md.2 (by decide)).mono ?_
  rintro e wk ⟨rfl, hwk⟩
  rw [hwk, hmk]
  clear hwk wk
  refine hK.out _ _ ⟨(Q5.below hbd).cell 0, (Q5.below hbd).cell 1, (Q5.below hbd).cell 2, (Q5.below hbd).cell 3, (Q5.below hbd).cell 4, (Q5.below hbd).cell 5, (Q5.below hbd).cell 6, (C5.below hbd).cell 3⟩ (fun hHeld => ?_)
  clear hK K
  try simp only [Act.put, List.setIfInBounds_toArray, List.set_cons_zero, List.set_cons_succ]
  refine takeH (i := 4) 35 (.int .i64 md) rfl rfl (by kernel_rfl) (by kernel_rfl) (by kernel_rfl) (fun _ _ _ h => h) (by rfl) ?_ (by assumption) ?_
  · intro w hSw; (try dsimp only at hSw); go_simp
  simp only [List.setIfInBounds_toArray, List.set_cons_zero, List.set_cons_succ]
  refine takeH (i := 5) 36 (.agg #[.int .i64 md, .int .i64 0, .int .i64 0]) rfl rfl (by kernel_rfl) (by kernel_rfl) (by kernel_rfl) (fun _ _ _ h => h) (by rfl) ?_ (by assumption) ?_
  · intro w hSw; (try dsimp only at hSw); go_simp
  simp only [List.setIfInBounds_toArray, List.set_cons_zero, List.set_cons_succ]
  refine wpAnyH_ready (rs := [6]) (by kernel_rfl) (by simp) ?_
  refine AllReadyH.cons rfl (fun K hK => ?_) AllReadyH.nil
  go_simp
  refine (cNewC (Rq.mk 2 96 f vx vy) ⟨md, 0, 0⟩ _ okR).mono ?_
  rintro e w6 ⟨p, rfl, Mp⟩
  rw [hnew] at Mp
  have h7 := (h6.below hbd).below Mp.bel
  have m7 : Cm w w6 p (Cw.hd (Rq.mk 2 96 f vx vy) fx) := Mp.cm (h6.below hbd).bel.size okR
  have Q6 := (Q5.below hbd).below Mp.bel
  have C6 := (C5.below hbd).below Mp.bel
  clear Mp
  refine hK.out _ _ ⟨Q6.cell 0, Q6.cell 1, Q6.cell 2, Q6.cell 3, Q6.cell 4, Q6.cell 5, Q6.cell 6, C6.cell 3⟩ (fun hHeld => ?_)
  clear hK K
  try simp only [Act.put, List.setIfInBounds_toArray, List.set_cons_zero, List.set_cons_succ]
  refine takeH (i := 7) 10 (pt p) rfl rfl (by kernel_rfl) (by kernel_rfl) (by kernel_rfl) (fun _ _ _ h => h) (by rfl) ?_ (by assumption) ?_
  · intro w hSw; (try dsimp only at hSw); go_simp
  simp only [List.setIfInBounds_toArray, List.set_cons_zero, List.set_cons_succ]
  refine wpAnyH_done (by kernel_rfl) ?_ _
  refine NoPanic.normal ?_
  clear h3 h4 h5 h6 C2 C3 C4 C5 Q4 Q5 hbd
  go_wp2_with (fail)
  go_loopw [11, 12] (fun dn i wr => ∃ j : Nat, j ≤ d ∧ i = .int .i64 j ∧ dn = .bool (runC (Cw.hd (Rq.mk 2 96 f vx vy) fx) S j).1.done ∧ Two w wr b y (runC (Cw.hd (Rq.mk 2 96 f vx vy) fx) S j).2 S (18 + j) ∧ Cm w wr p (runC (Cw.hd (Rq.mk 2 96 f vx vy) fx) S j).1 ∧ Blk w wr rb 40 #[.int .i64 2, .int .i64 96, .int .i64 f, .int .i64 vx.k, .int .i64 vx.n, .int .i64 vy.k, .int .i64 vy.n]) (fun _ i _ => 12 - (intOf i).toNat)
  case atStart => exact ⟨0, Nat.zero_le _, rfl, rfl, h7, m7, Q6⟩
  case round =>
    obtain ⟨j, hj, rfl, rfl, k1, k2, k3⟩ := hrel
    rcases Nat.lt_or_ge j d with hjd | hjd
    · have hdn : (runC (Cw.hd (Rq.mk 2 96 f vx vy) fx) S j).1.done = false := E.not j hjd
      have hji : (j : Int) < 12 := by omega
      obtain ⟨XX, hX⟩ : ∃ X, (runC (Cw.hd (Rq.mk 2 96 f vx vy) fx) S j).1 = X := ⟨_, rfl⟩
      obtain ⟨SX, hSX⟩ : ∃ X, (runC (Cw.hd (Rq.mk 2 96 f vx vy) fx) S j).2 = X := ⟨_, rfl⟩
      rw [hX] at k2 hdn
      rw [hSX] at k1
      rw [hX, hdn]
      obtain ⟨cx, Bx'⟩ := k2.blk
      go_wp2_with (go_at_call 13; refine (tC k1 k2 (by omega)).mono ?_; rintro e w20 ⟨rfl, k4, k5, o6⟩; have k6 := k3.oth o6 (by simpa using k3.ne Bx' (by decide)))
      go_roundw
      case rel => exact ⟨j + 1, by omega, by go_num, by simp only [runC, hX, hSX], by simp only [runC, hX, hSX]; exact k4, by simp only [runC, hX, hSX]; exact k5, k6⟩
      case measure => simp [intOf]; omega
    · obtain rfl : j = d := by omega
      have hdn : (runC (Cw.hd (Rq.mk 2 96 f vx vy) fx) S j).1.done = true := by rw [E.at_]; rfl
      rw [hdn]
      rw [E.at_] at k1 k2
      have hji : (j : Int) < 12 := by omega
      obtain ⟨g, cp, sn⟩ := Two.seen k1
      obtain ⟨hx0, hhx⟩ : ∃ h, H0 = h := ⟨_, rfl⟩
      have hgx : s'.got 96 = hx0 := by rw [M'.got96, ← hhx]
      have hUx : U64 hx0 := hhx ▸ u64_hw _ _ _ _ _ _ _
      have hq5 : pT hx0 = 0 := by rw [← hhx]; decide
      obtain ⟨q0, e0⟩ : ∃ q, pS hx0 = q := ⟨_, rfl⟩
      obtain ⟨q1, e1⟩ : ∃ q, pC hx0 = q := ⟨_, rfl⟩
      obtain ⟨q2, e2⟩ : ∃ q, pN hx0 = q := ⟨_, rfl⟩
      obtain ⟨q3, e3⟩ : ∃ q, pM hx0 = q := ⟨_, rfl⟩
      obtain ⟨q4, e4⟩ : ∃ q, pG hx0 = q := ⟨_, rfl⟩
      obtain ⟨q6, e6⟩ : ∃ q, pL hx0 = q := ⟨_, rfl⟩
      go_upto_region 16 with (first
        | (go_at_call 22; refine (tLoadS k1 sn (by omega) 96).mono ?_; rintro e w21 ⟨rfl, t1, o21, sn1⟩; rw [hgx]; have m1 := k2.oth0 o21; have R1 := k3.oth o21 (by simp); clear o21)
        | (go_at_call 21; refine (H.rOf hx0 hUx.1 hUx.2 _).mono ?_; rintro e w22 ⟨rfl, hw22⟩; rw [e0, e1, e2, e3, e4, hq5, e6] at hw22 ⊢; have hb22 : Below w21.heap.size w21 w22 := (by rw [hw22]; go_grown); have t2 := t1.below hb22; have m2 := m1.below hb22; have R2 := R1.below hb22; have sn2 := sn1.below hb22; clear hw22 hb22))
      have H3b : Below w22.heap.size w22 (w22.alloc (.cells #[.int .i64 q0, .int .i64 q1, .int .i64 q2, .int .i64 q3, .int .i64 q4, .int .i64 0, .int .i64 q6] 26)) := (Below.refl _ _).alloc (Nat.le_refl _) _
      have H3 : Blk w (w22.alloc (.cells #[.int .i64 q0, .int .i64 q1, .int .i64 q2, .int .i64 q3, .int .i64 q4, .int .i64 0, .int .i64 q6] 26)) w22.heap.size 26 #[.int .i64 q0, .int .i64 q1, .int .i64 q2, .int .i64 q3, .int .i64 q4, .int .i64 0, .int .i64 q6] := Blk.new t2.bel.size _ (by decide)
      have t3 := t2.below H3b
      have m3 := m2.below H3b
      have R3 := R2.below H3b
      have sn3 := sn2.below H3b
      generalize w22.alloc (.cells #[.int .i64 q0, .int .i64 q1, .int .i64 q2, .int .i64 q3, .int .i64 q4, .int .i64 0, .int .i64 q6] 26) = w23 at H3 t3 m3 R3 sn3 ⊢
      generalize w22.heap.size = hb at H3 ⊢
      clear H3b
      obtain ⟨ix, hix⟩ : ∃ ix, 97 + f = ix := ⟨_, rfl⟩
      have i1 : 97 + (f : Int) = (ix : Int) := by omega
      have i5 : IntKind.i64.wrap (ix : Int) = (ix : Int) := by rw [IntKind.wrap_i64]; omega
      have hixi : (ix : Int) < 160 := by omega
      have c0 := sn3.c0
      rw [hSl] at c0
      have cw := sn3.at hSl ix (by omega)
      rw [← i1, hwd0] at cw
      have hUu := u.u64
      have hku : F.Plain.kind u.w = u.k := congrArg Vl.k gu.of
      have hnu : F.Plain.num u.w = u.n := congrArg Vl.n gu.of
      obtain ⟨uw, huw⟩ : ∃ v, u.w = v := ⟨_, rfl⟩
      rw [huw] at cw hUu hku hnu
      have ly := sn3.ly
      have lg := sn3.lg
      go_upto_region 17 with (go_at_call 15; refine (F.rOf uw hUu.1 hUu.2 _).mono ?_; rintro e w24 ⟨rfl, hw24⟩; rw [hku, hnu] at hw24 ⊢; have hb24 : Below w23.heap.size w23 w24 := (by rw [hw24]; go_grown); have t4 := t3.below hb24; have m4 := m3.below hb24; have R4 := R3.below hb24; have sn4 := sn3.below hb24; have H4 := H3.below hb24; clear hw24 hb24)
      have U5b : Below w24.heap.size w24 (w24.alloc (.cells #[.int .i64 u.k, .int .i64 u.n] 24)) := (Below.refl _ _).alloc (Nat.le_refl _) _
      have U5 : Blk w (w24.alloc (.cells #[.int .i64 u.k, .int .i64 u.n] 24)) w24.heap.size 24 #[.int .i64 u.k, .int .i64 u.n] := Blk.new t4.bel.size _ (by decide)
      have t5 := t4.below U5b
      have m5 := m4.below U5b
      have R5 := R4.below U5b
      have sn5 := sn4.below U5b
      have H5 := H4.below U5b
      generalize w24.alloc (.cells #[.int .i64 u.k, .int .i64 u.n] 24) = w25 at U5 t5 m5 R5 sn5 H5 ⊢
      generalize w24.heap.size = ub at U5 ⊢
      clear U5b
      clear c0 cw ly lg i1 i5 hixi hix
      have g0 : w25.cell? ⟨ub, 0, none⟩ = some (.int .i64 u.k) := U5.cell 0
      have g1 : w25.cell? ⟨ub, 1, none⟩ = some (.int .i64 u.n) := U5.cell 1
      have gl := U5.lt
      go_upto_region 18 with (fail)
      clear g0 g1 gl
      have hun' : ub ≠ w25.heap.size := by have := U5.lt; omega
      have N6b : Below w25.heap.size w25 (w25.alloc (.cells #[.int .i64 u.k, .int .i64 u.n] 24)) := (Below.refl _ _).alloc (Nat.le_refl _) _
      have N6 : Blk w (w25.alloc (.cells #[.int .i64 u.k, .int .i64 u.n] 24)) w25.heap.size 24 #[.int .i64 u.k, .int .i64 u.n] := Blk.new t5.bel.size _ (by decide)
      have t6 := t5.below N6b
      have m6 := m5.below N6b
      have R6 := R5.below N6b
      have sn6 := sn5.below N6b
      have H6 := H5.below N6b
      have U6 := U5.below N6b
      generalize w25.alloc (.cells #[.int .i64 u.k, .int .i64 u.n] 24) = w26 at N6 t6 m6 R6 sn6 H6 U6 ⊢
      generalize w25.heap.size = nb at N6 hun' ⊢
      have hun : ub ≠ nb := hun'
      clear N6b
      have hS113 : S.word (113 + (f : Int)) = 0 := M0.fc f hf3
      have r0 : w26.cell? ⟨rb, 0, none⟩ = some (.int .i64 2) := R6.cell 0
      have r1 : w26.cell? ⟨rb, 1, none⟩ = some (.int .i64 96) := R6.cell 1
      have r2 : w26.cell? ⟨rb, 2, none⟩ = some (.int .i64 f) := R6.cell 2
      have r3 : w26.cell? ⟨rb, 3, none⟩ = some (.int .i64 vx.k) := R6.cell 3
      have r4 : w26.cell? ⟨rb, 4, none⟩ = some (.int .i64 vx.n) := R6.cell 4
      have r5 : w26.cell? ⟨rb, 5, none⟩ = some (.int .i64 vy.k) := R6.cell 5
      have r6 : w26.cell? ⟨rb, 6, none⟩ = some (.int .i64 vy.n) := R6.cell 6
      have us0 : w26.cell? ⟨ub, 0, none⟩ = some (.int .i64 u.k) := U6.cell 0
      have usf0 := U6.free 0
      have us1 : w26.cell? ⟨ub, 1, none⟩ = some (.int .i64 u.n) := U6.cell 1
      have usf1 := U6.free 1
      have ns0 : w26.cell? ⟨nb, 0, none⟩ = some (.int .i64 u.k) := N6.cell 0
      have nsf0 := N6.free 0
      have ns1 : w26.cell? ⟨nb, 1, none⟩ = some (.int .i64 u.n) := N6.cell 1
      have nsf1 := N6.free 1
      have rl := R6.lt
      have ul := U6.lt
      have nl := N6.lt
      go_upto_region 20 with (fail)
      clear r0 r1 r2 r3 r4 r5 r6 us0 usf0 us1 usf1 ns0 nsf0 ns1 nsf1 rl ul nl
      have KN : Kept [nb] w26 ((w26.setCell ⟨nb, 0, none⟩ (.int .i64 vy.k)).setCell ⟨nb, 1, none⟩ (.int .i64 vy.n)) := (Kept.setCell [nb] _ _ _ (by simp)).trans (Kept.setCell [nb] _ _ _ (by simp)) (fun _ h => .inl h)
      have t7 := to_twoB t6 KN N6
      have sn7 := seen_kept t6 sn6 KN N6
      have N7 : Blk w ((w26.setCell ⟨nb, 0, none⟩ (.int .i64 vy.k)).setCell ⟨nb, 1, none⟩ (.int .i64 vy.n)) nb 24 #[.int .i64 vy.k, .int .i64 vy.n] := (N6.set 0 _).set 1 _
      have R7 := R6.oth (Oth.kept KN) (by simpa using R6.ne N6 (by decide))
      have H7 := H6.oth (Oth.kept KN) (by simpa using H6.ne N6 (by decide))
      have U7 := U6.oth (Oth.kept KN) (by simpa using hun)
      obtain ⟨cx7, Bx7⟩ := m6.blk
      have m7 := m6.fin (Oth.kept KN) (by simpa using Bx7.ne N6 (by decide))
      generalize (w26.setCell ⟨nb, 0, none⟩ (.int .i64 vy.k)).setCell ⟨nb, 1, none⟩ (.int .i64 vy.n) = w27 at t7 sn7 N7 R7 H7 U7 m7 ⊢
      clear KN Bx7
      have r0 : w27.cell? ⟨rb, 0, none⟩ = some (.int .i64 2) := R7.cell 0
      go_upto_region 23 with (fail)
      clear r0
      obtain ⟨vyw, hvyw⟩ : ∃ v, vy.w = v := ⟨_, rfl⟩
      have hUw : U64 vyw := hvyw ▸ vy.u64
      have hkw : F.Plain.kind vyw = vy.k := by rw [← hvyw]; exact congrArg Vl.k gy.of
      have hnw : F.Plain.num vyw = vy.n := by rw [← hvyw]; exact congrArg Vl.n gy.of
      have hgf : (s'.load 96).got (97 + (f : Int)) = vyw := by rw [(M'.load in96).gota hf3, hwant', hvyw]
      have hgc : ((s'.load 96).load (97 + (f : Int))).got (113 + (f : Int)) = 0 := ((M'.load in96).load (in_a hf3)).gotc hf3
      have i97 : IntKind.i64.wrap (97 + (f : Int)) = 97 + (f : Int) := by rw [IntKind.wrap_i64]; omega
      have i113 : IntKind.i64.wrap (113 + (f : Int)) = 113 + (f : Int) := by rw [IntKind.wrap_i64]; omega
      have ev := eqVal_t (a := vy) (b := vy) rfl
      have evu := eqVal_t (a := u) (b := u) rfl
      have fo := fOut1
      have hbd : Below w27.heap.size w27 w27.drew := (Below.refl _ _).drew
      have TT0 : Two w w27.drew b y (s'.load 96) S _ := t7.below hbd
      have MM0 := m7.below hbd
      have SN0 := sn7.below hbd
      have HH0 := H7.below hbd
      have NN0 := N7.below hbd
      have RR0 := R7.below hbd
      have UU0 := U7.below hbd
      refine wp_region_noPanic ?_
      refine wp_region_held_drew (S := fun w' => w'.cell? ⟨hb, 5, none⟩ = some (.int .i64 0) ∧ w'.cell? ⟨nb, 0, none⟩ = some (.int .i64 vy.k) ∧ w'.cell? ⟨nb, 1, none⟩ = some (.int .i64 vy.n) ∧ w'.cell? ⟨y, 0, none⟩ = some (.slice (some ⟨g, 0, none⟩) 160 cp) ∧ w'.cell? ⟨g, 113 + f, none⟩ = some (.int .u64 0) ∧ w'.cell? ⟨rb, 0, none⟩ = some (.int .i64 2) ∧ w'.cell? ⟨ub, 0, none⟩ = some (.int .i64 u.k) ∧ w'.cell? ⟨ub, 1, none⟩ = some (.int .i64 u.n)) (by kernel_rfl) ⟨HH0.cell 5, NN0.cell 0, NN0.cell 1, seen160 SN0 hSl, seen113 SN0 hSl hS113, RR0.cell 0, UU0.cell 0, UU0.cell 1⟩ (fun hHeld => ?_)
      refine takeH (i := 0) 91 (.bool true) rfl rfl (by kernel_rfl) (by kernel_rfl) (by kernel_rfl) (fun _ _ _ h => h) (by rfl) ?_ (by assumption) ?_
      · intro w hSw; (try dsimp only at hSw); go_simp
      simp only [List.setIfInBounds_toArray, List.set_cons_zero, List.set_cons_succ]
      refine takeH (i := 1) 92 (.bool true) rfl rfl (by kernel_rfl) (by kernel_rfl) (by kernel_rfl) (fun _ _ _ h => h) (by rfl) ?_ (by assumption) ?_
      · intro w hSw; (try dsimp only at hSw); go_simp
      simp only [List.setIfInBounds_toArray, List.set_cons_zero, List.set_cons_succ]
      refine takeH (i := 2) 93 (.pointer (some ⟨hb, 5, none⟩)) rfl rfl (by kernel_rfl) (by kernel_rfl) (by kernel_rfl) (fun _ _ _ h => h) (by rfl) ?_ (by assumption) ?_
      · intro w hSw; (try dsimp only at hSw); go_simp
      simp only [List.setIfInBounds_toArray, List.set_cons_zero, List.set_cons_succ]
      refine takeH (i := 3) 94 (.int .i64 0) rfl rfl (by kernel_rfl) (by kernel_rfl) (by kernel_rfl) (fun _ _ _ h => h) (by rfl) ?_ (by assumption) ?_
      · intro w hSw; (try dsimp only at hSw); go_simp
      simp only [List.setIfInBounds_toArray, List.set_cons_zero, List.set_cons_succ]
      refine takeH (i := 4) 95 (.int .i64 0) rfl rfl (by kernel_rfl) (by kernel_rfl) (by kernel_rfl) (fun _ _ _ h => h) (by rfl) ?_ (by assumption) ?_
      · intro w hSw; (try dsimp only at hSw); go_simp
      simp only [List.setIfInBounds_toArray, List.set_cons_zero, List.set_cons_succ]
      refine takeH (i := 5) 96 (.bool true) rfl rfl (by kernel_rfl) (by kernel_rfl) (by kernel_rfl) (fun _ _ _ h => h) (by rfl) ?_ (by assumption) ?_
      · intro w hSw; (try dsimp only at hSw); go_simp
      simp only [List.setIfInBounds_toArray, List.set_cons_zero, List.set_cons_succ]
      refine takeH (i := 6) 97 (.bool true) rfl rfl (by kernel_rfl) (by kernel_rfl) (by kernel_rfl) (fun _ _ _ h => h) (by rfl) ?_ (by assumption) ?_
      · intro w hSw; (try dsimp only at hSw); go_simp
      simp only [List.setIfInBounds_toArray, List.set_cons_zero, List.set_cons_succ]
      refine takeH (i := 7) 98 (.bool true) rfl rfl (by kernel_rfl) (by kernel_rfl) (by kernel_rfl) (fun _ _ _ h => h) (by rfl) ?_ (by assumption) ?_
      · intro w hSw; (try dsimp only at hSw); go_simp
      simp only [List.setIfInBounds_toArray, List.set_cons_zero, List.set_cons_succ]
      refine takeH (i := 8) 99 (pt b) rfl rfl (by kernel_rfl) (by kernel_rfl) (by kernel_rfl) (fun _ _ _ h => h) (by rfl) ?_ (by assumption) ?_
      · intro w hSw; (try dsimp only at hSw); go_simp
      simp only [List.setIfInBounds_toArray, List.set_cons_zero, List.set_cons_succ]
      refine takeH (i := 9) 100 (.int .i64 f) rfl rfl (by kernel_rfl) (by kernel_rfl) (by kernel_rfl) (fun _ _ _ h => h) (by rfl) ?_ (by assumption) ?_
      · intro w hSw; (try dsimp only at hSw); go_simp
      simp only [List.setIfInBounds_toArray, List.set_cons_zero, List.set_cons_succ]
      refine takeH (i := 10) 101 (.int .i64 (97 + f)) rfl rfl (by kernel_rfl) (by kernel_rfl) (by kernel_rfl) (fun _ _ _ h => h) (by rfl) ?_ (by assumption) ?_
      · intro w hSw; (try dsimp only at hSw); go_simp
      simp only [List.setIfInBounds_toArray, List.set_cons_zero, List.set_cons_succ]
      refine takeH (i := 13) 104 (.agg #[.int .i64 vy.k, .int .i64 vy.n]) rfl rfl (by kernel_rfl) (by kernel_rfl) (by kernel_rfl) (fun _ _ _ h => h) (by rfl) ?_ (by assumption) ?_
      · intro w hSw; (try dsimp only at hSw); go_simp
      simp only [List.setIfInBounds_toArray, List.set_cons_zero, List.set_cons_succ]
      refine wpAnyH_ready (rs := [11]) (by kernel_rfl) (by simp) ?_
      refine AllReadyH.cons rfl (fun K hK => ?_) AllReadyH.nil
      go_simp
      refine (tLoadS TT0 SN0 (by omega) (97 + (f : Int))).mono ?_
      rintro e w31 ⟨rfl, TT1, o31, SN1⟩
      rw [hgf]
      have MM1 := MM0.oth0 o31
      have HH1 := HH0.oth o31 (by simp)
      have NN1 := NN0.oth o31 (by simp)
      have RR1 := RR0.oth o31 (by simp)
      have UU1 := UU0.oth o31 (by simp)
      refine hK.out _ _ ⟨HH1.cell 5, NN1.cell 0, NN1.cell 1, seen160 SN1 hSl, seen113 SN1 hSl hS113, RR1.cell 0, UU1.cell 0, UU1.cell 1⟩ (fun hHeld => ?_)
      clear hK K
      try simp only [Act.put, List.setIfInBounds_toArray, List.set_cons_zero, List.set_cons_succ]
      refine wpAnyH_ready (rs := [12]) (by kernel_rfl) (by simp) ?_
      refine AllReadyH.cons rfl (fun K hK => ?_) AllReadyH.nil
      go_simp
      refine (F.rOf vyw hUw.1 hUw.2 _).mono ?_
      rintro e w32 ⟨rfl, hw32⟩
      rw [hkw, hnw] at hw32 ⊢
      have hb32 : Below w31.heap.size w31 w32 := (by rw [hw32]; go_grown)
      have TT2 := TT1.below hb32
      have MM2 := MM1.below hb32
      have SN2 := SN1.below hb32
      have HH2 := HH1.below hb32
      have NN2 := NN1.below hb32
      have RR2 := RR1.below hb32
      have UU2 := UU1.below hb32
      clear hw32 hb32
      refine hK.out _ _ ⟨HH2.cell 5, NN2.cell 0, NN2.cell 1, seen160 SN2 hSl, seen113 SN2 hSl hS113, RR2.cell 0, UU2.cell 0, UU2.cell 1⟩ (fun hHeld => ?_)
      clear hK K
      try simp only [Act.put, List.setIfInBounds_toArray, List.set_cons_zero, List.set_cons_succ]
      refine takeH (i := 14) 105 (.bool true) rfl rfl (by kernel_rfl) (by kernel_rfl) (by kernel_rfl) (fun _ _ _ h => h) (by rfl) ?_ (by assumption) ?_
      · intro w hSw; (try dsimp only at hSw); go_simp
      simp only [List.setIfInBounds_toArray, List.set_cons_zero, List.set_cons_succ]
      refine takeH (i := 15) 106 (.bool true) rfl rfl (by kernel_rfl) (by kernel_rfl) (by kernel_rfl) (fun _ _ _ h => h) (by rfl) ?_ (by assumption) ?_
      · intro w hSw; (try dsimp only at hSw); go_simp
      simp only [List.setIfInBounds_toArray, List.set_cons_zero, List.set_cons_succ]
      refine takeH (i := 16) 107 (.bool true) rfl rfl (by kernel_rfl) (by kernel_rfl) (by kernel_rfl) (fun _ _ _ h => h) (by rfl) ?_ (by assumption) ?_
      · intro w hSw; (try dsimp only at hSw); go_simp
      simp only [List.setIfInBounds_toArray, List.set_cons_zero, List.set_cons_succ]
      refine takeH (i := 17) 108 (pt b) rfl rfl (by kernel_rfl) (by kernel_rfl) (by kernel_rfl) (fun _ _ _ h => h) (by rfl) ?_ (by assumption) ?_
      · intro w hSw; (try dsimp only at hSw); go_simp
      simp only [List.setIfInBounds_toArray, List.set_cons_zero, List.set_cons_succ]
      refine takeH (i := 18) 109 (.int .i64 f) rfl rfl (by kernel_rfl) (by kernel_rfl) (by kernel_rfl) (fun _ _ _ h => h) (by rfl) ?_ (by assumption) ?_
      · intro w hSw; (try dsimp only at hSw); go_simp
      simp only [List.setIfInBounds_toArray, List.set_cons_zero, List.set_cons_succ]
      refine takeH (i := 19) 110 (.int .i64 (113 + f)) rfl rfl (by kernel_rfl) (by kernel_rfl) (by kernel_rfl) (fun _ _ _ h => h) (by rfl) ?_ (by assumption) ?_
      · intro w hSw; (try dsimp only at hSw); go_simp
      simp only [List.setIfInBounds_toArray, List.set_cons_zero, List.set_cons_succ]
      refine takeH (i := 21) 112 (pt y) rfl rfl (by kernel_rfl) (by kernel_rfl) (by kernel_rfl) (fun _ _ _ h => h) (by rfl) ?_ (by assumption) ?_
      · intro w hSw; (try dsimp only at hSw); go_simp
      simp only [List.setIfInBounds_toArray, List.set_cons_zero, List.set_cons_succ]
      refine takeH (i := 22) 113 (pt y) rfl rfl (by kernel_rfl) (by kernel_rfl) (by kernel_rfl) (fun _ _ _ h => h) (by rfl) ?_ (by assumption) ?_
      · intro w hSw; (try dsimp only at hSw); go_simp
      simp only [List.setIfInBounds_toArray, List.set_cons_zero, List.set_cons_succ]
      refine takeH (i := 23) 114 (pt y) rfl rfl (by kernel_rfl) (by kernel_rfl) (by kernel_rfl) (fun _ _ _ h => h) (by rfl) ?_ (by assumption) ?_
      · intro w hSw; (try dsimp only at hSw); go_simp
      simp only [List.setIfInBounds_toArray, List.set_cons_zero, List.set_cons_succ]
      refine takeH (i := 24) 115 (.slice (some ⟨g, 0, none⟩) 160 cp) rfl rfl (by kernel_rfl) (by kernel_rfl) (by kernel_rfl) (fun _ _ _ h => h) (by rfl) ?_ (by assumption) ?_
      · intro w hSw; (try dsimp only at hSw); go_simp
      simp only [List.setIfInBounds_toArray, List.set_cons_zero, List.set_cons_succ]
      refine takeH (i := 25) 116 (.int .i64 f) rfl rfl (by kernel_rfl) (by kernel_rfl) (by kernel_rfl) (fun _ _ _ h => h) (by rfl) ?_ (by assumption) ?_
      · intro w hSw; (try dsimp only at hSw); go_simp
      simp only [List.setIfInBounds_toArray, List.set_cons_zero, List.set_cons_succ]
      refine takeH (i := 26) 117 (.int .i64 (113 + f)) rfl rfl (by kernel_rfl) (by kernel_rfl) (by kernel_rfl) (fun _ _ _ h => h) (by rfl) ?_ (by assumption) ?_
      · intro w hSw; (try dsimp only at hSw); go_simp
      simp only [List.setIfInBounds_toArray, List.set_cons_zero, List.set_cons_succ]
      refine takeH (i := 27) 118 (.pointer (some ⟨g, 113 + f, none⟩)) rfl rfl (by kernel_rfl) (by kernel_rfl) (by kernel_rfl) (fun _ _ _ h => h) (by rfl) ?_ (by assumption) ?_
      · intro w hSw; (try dsimp only at hSw); go_simp; rw [if_pos (by omega)]; rw [show (113 + (f : Int)).toNat = 113 + f by omega]
      simp only [List.setIfInBounds_toArray, List.set_cons_zero, List.set_cons_succ]
      refine takeH (i := 28) 119 (.int .u64 0) rfl rfl (by kernel_rfl) (by kernel_rfl) (by kernel_rfl) (fun _ _ _ h => h) (by rfl) ?_ (by assumption) ?_
      · intro w hSw; (try dsimp only at hSw); go_simp
      simp only [List.setIfInBounds_toArray, List.set_cons_zero, List.set_cons_succ]
      refine wpAnyH_ready (rs := [20]) (by kernel_rfl) (by simp) ?_
      refine AllReadyH.cons rfl (fun K hK => ?_) AllReadyH.nil
      go_simp
      refine (tLoadS TT2 SN2 (by omega) (113 + (f : Int))).mono ?_
      rintro e w33 ⟨rfl, TT3, o33, SN3⟩
      rw [hgc]
      have MM3 := MM2.oth0 o33
      have HH3 := HH2.oth o33 (by simp)
      have NN3 := NN2.oth o33 (by simp)
      have RR3 := RR2.oth o33 (by simp)
      have UU3 := UU2.oth o33 (by simp)
      refine hK.out _ _ ⟨HH3.cell 5, NN3.cell 0, NN3.cell 1, seen160 SN3 hSl, seen113 SN3 hSl hS113, RR3.cell 0, UU3.cell 0, UU3.cell 1⟩ (fun hHeld => ?_)
      clear hK K
      try simp only [Act.put, List.setIfInBounds_toArray, List.set_cons_zero, List.set_cons_succ]
      refine takeH (i := 29) 120 (.bool true) rfl rfl (by kernel_rfl) (by kernel_rfl) (by kernel_rfl) (fun _ _ _ h => h) (by rfl) ?_ (by assumption) ?_
      · intro w hSw; (try dsimp only at hSw); go_simp
      simp only [List.setIfInBounds_toArray, List.set_cons_zero, List.set_cons_succ]
      refine takeH (i := 30) 121 (.bool true) rfl rfl (by kernel_rfl) (by kernel_rfl) (by kernel_rfl) (fun _ _ _ h => h) (by rfl) ?_ (by assumption) ?_
      · intro w hSw; (try dsimp only at hSw); go_simp
      simp only [List.setIfInBounds_toArray, List.set_cons_zero, List.set_cons_succ]
      refine takeH (i := 31) 122 (.bool true) rfl rfl (by kernel_rfl) (by kernel_rfl) (by kernel_rfl) (fun _ _ _ h => h) (by rfl) ?_ (by assumption) ?_
      · intro w hSw; (try dsimp only at hSw); go_simp
      simp only [List.setIfInBounds_toArray, List.set_cons_zero, List.set_cons_succ]
      refine takeH (i := 32) 123 (pt rb) rfl rfl (by kernel_rfl) (by kernel_rfl) (by kernel_rfl) (fun _ _ _ h => h) (by rfl) ?_ (by assumption) ?_
      · intro w hSw; (try dsimp only at hSw); go_simp
      simp only [List.setIfInBounds_toArray, List.set_cons_zero, List.set_cons_succ]
      refine takeH (i := 33) 124 (.int .i64 2) rfl rfl (by kernel_rfl) (by kernel_rfl) (by kernel_rfl) (fun _ _ _ h => h) (by rfl) ?_ (by assumption) ?_
      · intro w hSw; (try dsimp only at hSw); go_simp
      simp only [List.setIfInBounds_toArray, List.set_cons_zero, List.set_cons_succ]
      refine takeH (i := 34) 125 (.bool true) rfl rfl (by kernel_rfl) (by kernel_rfl) (by kernel_rfl) (fun _ _ _ h => h) (by rfl) ?_ (by assumption) ?_
      · intro w hSw; (try dsimp only at hSw); go_simp
      simp only [List.setIfInBounds_toArray, List.set_cons_zero, List.set_cons_succ]
      refine takeH (i := 35) 126 (.bool true) rfl rfl (by kernel_rfl) (by kernel_rfl) (by kernel_rfl) (fun _ _ _ h => h) (by rfl) ?_ (by assumption) ?_
      · intro w hSw; (try dsimp only at hSw); go_simp
      simp only [List.setIfInBounds_toArray, List.set_cons_zero, List.set_cons_succ]
      refine skipH (i := 36) 127 rfl rfl (by kernel_rfl) (by kernel_rfl) (by kernel_rfl) (fun _ _ _ h => h) (by rfl) (by assumption) ?_
      simp only [List.setIfInBounds_toArray, List.set_cons_zero, List.set_cons_succ]
      refine skipH (i := 37) 128 rfl rfl (by kernel_rfl) (by kernel_rfl) (by kernel_rfl) (fun _ _ _ h => h) (by rfl) (by assumption) ?_
      simp only [List.setIfInBounds_toArray, List.set_cons_zero, List.set_cons_succ]
      refine skipH (i := 38) 129 rfl rfl (by kernel_rfl) (by kernel_rfl) (by kernel_rfl) (fun _ _ _ h => h) (by rfl) (by assumption) ?_
      simp only [List.setIfInBounds_toArray, List.set_cons_zero, List.set_cons_succ]
      refine skipH (i := 39) 130 rfl rfl (by kernel_rfl) (by kernel_rfl) (by kernel_rfl) (fun _ _ _ h => h) (by rfl) (by assumption) ?_
      simp only [List.setIfInBounds_toArray, List.set_cons_zero, List.set_cons_succ]
      refine skipH (i := 40) 131 rfl rfl (by kernel_rfl) (by kernel_rfl) (by kernel_rfl) (fun _ _ _ h => h) (by rfl) (by assumption) ?_
      simp only [List.setIfInBounds_toArray, List.set_cons_zero, List.set_cons_succ]
      refine takeH (i := 41) 132 (.bool true) rfl rfl (by kernel_rfl) (by kernel_rfl) (by kernel_rfl) (fun _ _ _ h => h) (by rfl) ?_ (by assumption) ?_
      · intro w hSw; (try dsimp only at hSw); go_simp
      simp only [List.setIfInBounds_toArray, List.set_cons_zero, List.set_cons_succ]
      refine takeH (i := 42) 133 (.bool true) rfl rfl (by kernel_rfl) (by kernel_rfl) (by kernel_rfl) (fun _ _ _ h => h) (by rfl) ?_ (by assumption) ?_
      · intro w hSw; (try dsimp only at hSw); go_simp
      simp only [List.setIfInBounds_toArray, List.set_cons_zero, List.set_cons_succ]
      refine takeH (i := 43) 4 (.bool true) rfl rfl (by kernel_rfl) (by kernel_rfl) (by kernel_rfl) (fun _ _ _ h => h) (by rfl) ?_ (by assumption) ?_
      · intro w hSw; (try dsimp only at hSw); go_simp
      simp only [List.setIfInBounds_toArray, List.set_cons_zero, List.set_cons_succ]
      refine wpAnyH_done (by kernel_rfl) ?_ _
      refine NoPanic.normal ?_
      go_wp2
      go_ret
      exact ⟨rfl, TT3.bel⟩
set_option maxHeartbeats 8000000 in
theorem waborts3 (av : Option Addr) (ll cv' : Nat) (zl : Nat → Vl) (q : Op15) (w : World) (W : H.Wid w) (cv : CameV w av ll zl) (fit : q.Fit) (hop : (reqP q).op = 3) :
    Calls Tryd.prog 6 #[.slice av ll cv', .agg q.cells] w fun e w' => e = .returned (.bool true) ∧ Below w.heap.size w w' := by
  obtain ⟨S, hS⟩ : ∃ S, laidS 1 (fldP ll zl) = S := ⟨_, rfl⟩
  have hSl : S.ws.length = 160 := by rw [← hS]; exact laid_len _ _
  have M0 := laid_m6 1 (fldP ll zl)
  rw [hS] at M0
  have kf := kd_lt q.fd 3 (by decide)
  obtain ⟨f, hf⟩ : ∃ f : Nat, kd q.fd 3 = (f : Int) := ⟨(kd q.fd 3).toNat, by omega⟩
  rw [hf] at kf
  have hf3 : f < 3 := by omega
  have km := kd_lt q.md 4 (by decide)
  obtain ⟨mk, hmk⟩ : ∃ m, kd q.md 4 = m := ⟨_, rfl⟩
  rw [hmk] at km
  obtain ⟨md, hmd⟩ : ∃ m, 5 + mk = m := ⟨_, rfl⟩
  have imd : IntKind.i64.wrap md = md := by rw [IntKind.wrap_i64]; omega
  have gx := good_valP q.x
  have gy := good_valP q.y
  obtain ⟨vx, hvx⟩ : ∃ v, valP q.x = v := ⟨_, rfl⟩
  obtain ⟨vy, hvy⟩ : ∃ v, valP q.y = v := ⟨_, rfl⟩
  rw [hvx] at gx
  rw [hvy] at gy
  obtain ⟨at0, hat0⟩ : ∃ a, (reqP q).at_ = a := ⟨_, rfl⟩
  obtain ⟨f0, hf0⟩ : ∃ a, (reqP q).fd = a := ⟨_, rfl⟩
  have hrq : (reqP q).cells = #[.int .i64 3, .int .i64 at0, .int .i64 f0, .int .i64 vx.k, .int .i64 vx.n, .int .i64 vy.k, .int .i64 vy.n] := by
    unfold Rq.cells
    rw [hop, hat0, hf0, show (reqP q).x = vx from hvx, show (reqP q).y = vy from hvy]
  obtain ⟨fx, hfx⟩ : ∃ b, (md == 8) = b := ⟨_, rfl⟩
  have hnew : Cw.new (Rq.mk 3 96 f vx vy) ⟨md, 0, 0⟩ = (Cw.hd (Rq.mk 3 96 f vx vy) fx) := by
    unfold Cw.new
    rw [if_neg (by simp), if_neg (by simp only; omega)]
    rw [hfx]
  have okR : (Rq.mk 3 96 f vx vy).Ok := ⟨.inr (.inr rfl), by simp, by simp, by simp, by simp only; omega⟩
  have gu := good_fldP ll zl f
  obtain ⟨u, hu⟩ : ∃ u, fldP ll zl f = u := ⟨_, rfl⟩
  rw [hu] at gu
  obtain ⟨d, x', s', a', hd8, E, M', hwant, hV⟩ := abort_ends (r := (Rq.mk 3 96 f vx vy)) (u := u) M0 hf3 (by simp) rfl rfl fx gu gx (by simp only [hu])
  have hwd0 : S.word (97 + (f : Int)) = u.w := by rw [M0.fa f hf3]; simp only [hu]
  have M2 : M6 s' H0 a' (fun _ => 0) := by simpa using M'
  have hw1 : Hid (u = vx → a' f = vy.w) := fun h => hwant.trans (if_pos (.inr ⟨rfl, h⟩))
  have hw2 : Hid (u ≠ vx → a' f = u.w) := fun h => hwant.trans (if_neg (fun h' => h'.elim (fun h' => by simp at h') fun h' => h h'.2))
  clear hwant hV M'
  have M' := M2
  clear M2
  obtain ⟨hit', o', rfl⟩ := done_fin E.done
  have a0 : Below w.heap.size w (w.alloc (.cells q.cells 28)) := (Below.refl _ _).alloc (Nat.le_refl _) _
  have C0 : Blk w (w.alloc (.cells q.cells 28)) w.heap.size 28 q.cells := Blk.new (Nat.le_refl _) _ (by decide)
  go_enter Tryd.func6, Tryd.ntmps6
  unfold Op15.cells
  go_upto_region 1 with (fail)
  obtain ⟨ob, hob⟩ : ∃ ob, w.heap.size = ob := ⟨_, rfl⟩
  change Blk w (w.alloc (.cells q.cells 28)) w.heap.size 28 q.cells at C0
  rw [hob] at C0
  unfold Op15.cells at C0 a0
  rw [hob]
  have cv0 := cv.on a0
  generalize hw0 : w.alloc _ = wa0 at C0 a0 cv0 ⊢
  clear hw0
  go_upto_region 3 with (first
    | (go_at_call 8; refine (cShown _ (W.on a0)).mono ?_; rintro e w1 ⟨rfl, hb1'⟩; have hb1 := bel_trans a0 hb1'; have C1 := C0.below hb1'; have cv1 := cv0.on hb1'; clear hb1')
    | (go_at_call 9; refine (cLaid w1 (W.on hb1) cv1).mono ?_; rintro e w2 ⟨b, y, rfl, h2⟩; rw [hS] at h2; have C2 := C1.below h2.bel; have h3 : Two w w2 b y S S 18 := h2.lift hb1 W; clear h2))
  have d0 : w2.cell? ⟨ob, 0, none⟩ = some (.int .i64 q.ob) := C2.cell 0
  have d1 : w2.cell? ⟨ob, 1, none⟩ = some (.int .i64 q.fd) := C2.cell 1
  have d2 : w2.cell? ⟨ob, 2, none⟩ = some (.int .i64 q.ac) := C2.cell 2
  have d3 : w2.cell? ⟨ob, 3, none⟩ = some (.int .i64 q.md) := C2.cell 3
  have d4 : w2.cell? ⟨ob, 4, none⟩ = some (.int .i64 q.x.k) := C2.cell 4
  have d5 : w2.cell? ⟨ob, 5, none⟩ = some (.int .i64 q.x.n) := C2.cell 5
  have d6 : w2.cell? ⟨ob, 6, none⟩ = some (.int .i64 q.y.k) := C2.cell 6
  have d7 : w2.cell? ⟨ob, 7, none⟩ = some (.int .i64 q.y.n) := C2.cell 7
  have d8 : w2.cell? ⟨ob, 8, none⟩ = some (.int .i64 q.hS) := C2.cell 8
  have d9 : w2.cell? ⟨ob, 9, none⟩ = some (.int .i64 q.hC) := C2.cell 9
  have d10 : w2.cell? ⟨ob, 10, none⟩ = some (.int .i64 q.hN) := C2.cell 10
  have d11 : w2.cell? ⟨ob, 11, none⟩ = some (.int .i64 q.hM) := C2.cell 11
  have d12 : w2.cell? ⟨ob, 12, none⟩ = some (.int .i64 q.hG) := C2.cell 12
  have d13 : w2.cell? ⟨ob, 13, none⟩ = some (.int .i64 q.hT) := C2.cell 13
  have d14 : w2.cell? ⟨ob, 14, none⟩ = some (.int .i64 q.hL) := C2.cell 14
  go_upto_region 5 with (first
    | (go_at_call 10; refine (cKind _ q.fd 3 fit.fd.1 fit.fd.2 (by decide)).mono ?_; rintro e wk ⟨rfl, hwk⟩; rw [hwk, hf]; clear hwk wk)
    | (go_at_call 20; refine (cReq q fit _).mono ?_; rintro e w3 ⟨rfl, hb3⟩; rw [hrq]; have h4 := h3.below hb3; have C3 := C2.below hb3; clear hb3))
  clear d0 d1 d2 d3 d4 d5 d6 d7 d8 d9 d10 d11 d12 d13 d14
  have Q4b : Below w3.heap.size w3 (w3.alloc (.cells #[.int .i64 3, .int .i64 at0, .int .i64 f0, .int .i64 vx.k, .int .i64 vx.n, .int .i64 vy.k, .int .i64 vy.n] 40)) := (Below.refl _ _).alloc (Nat.le_refl _) _
  have Q4 : Blk w (w3.alloc (.cells #[.int .i64 3, .int .i64 at0, .int .i64 f0, .int .i64 vx.k, .int .i64 vx.n, .int .i64 vy.k, .int .i64 vy.n] 40)) w3.heap.size 40 #[.int .i64 3, .int .i64 at0, .int .i64 f0, .int .i64 vx.k, .int .i64 vx.n, .int .i64 vy.k, .int .i64 vy.n] := Blk.new h4.bel.size _ (by decide)
  have h5 := h4.below Q4b
  have C4 := C3.below Q4b
  generalize w3.alloc (.cells #[.int .i64 3, .int .i64 at0, .int .i64 f0, .int .i64 vx.k, .int .i64 vx.n, .int .i64 vy.k, .int .i64 vy.n] 40) = w4 at Q4 h5 C4 ⊢
  generalize w3.heap.size = rb at Q4 ⊢
  clear Q4b
  have e1 : w4.cell? ⟨rb, 1, none⟩ = some (.int .i64 at0) := Q4.cell 1
  have e2 : w4.cell? ⟨rb, 2, none⟩ = some (.int .i64 f0) := Q4.cell 2
  have ef1 := Q4.free 1
  have ef2 := Q4.free 2
  go_upto_region 7 with (fail)
  have KQ : Kept [rb] w4 ((w4.setCell ⟨rb, 1, none⟩ (.int .i64 96)).setCell ⟨rb, 2, none⟩ (.int .i64 f)) := (Kept.setCell [rb] _ _ _ (by simp)).trans (Kept.setCell [rb] _ _ _ (by simp)) (fun _ h => .inl h)
  have Q5 : Blk w ((w4.setCell ⟨rb, 1, none⟩ (.int .i64 96)).setCell ⟨rb, 2, none⟩ (.int .i64 f)) rb 40 #[.int .i64 3, .int .i64 96, .int .i64 f, .int .i64 vx.k, .int .i64 vx.n, .int .i64 vy.k, .int .i64 vy.n] := (Q4.set 1 _).set 2 _
  have h6 := to_twoB h5 KQ Q4
  have C5 := C4.oth (Oth.kept KQ) (by simpa using C4.ne Q4 (by decide))
  clear e1 e2 ef1 ef2
  generalize (w4.setCell ⟨rb, 1, none⟩ (.int .i64 96)).setCell ⟨rb, 2, none⟩ (.int .i64 f) = w5 at Q5 h6 C5 ⊢
  clear KQ
  have hbd : Below w5.heap.size w5 w5.drew := (Below.refl _ _).drew
  refine wp_region_noPanic ?_
  refine wp_region_held_drew (S := fun w' => w'.cell? ⟨rb, 0, none⟩ = some (.int .i64 3) ∧ w'.cell? ⟨rb, 1, none⟩ = some (.int .i64 96) ∧ w'.cell? ⟨rb, 2, none⟩ = some (.int .i64 f) ∧ w'.cell? ⟨rb, 3, none⟩ = some (.int .i64 vx.k) ∧ w'.cell? ⟨rb, 4, none⟩ = some (.int .i64 vx.n) ∧ w'.cell? ⟨rb, 5, none⟩ = some (.int .i64 vy.k) ∧ w'.cell? ⟨rb, 6, none⟩ = some (.int .i64 vy.n) ∧ w'.cell? ⟨ob, 3, none⟩ = some (.int .i64 q.md)) (by kernel_rfl) ⟨(Q5.below hbd).cell 0, (Q5.below hbd).cell 1, (Q5.below hbd).cell 2, (Q5.below hbd).cell 3, (Q5.below hbd).cell 4, (Q5.below hbd).cell 5, (Q5.below hbd).cell 6, (C5.below hbd).cell 3⟩ (fun hHeld => ?_)
  refine takeH (i := 0) 31 (.agg #[.int .i64 3, .int .i64 96, .int .i64 f, .int .i64 vx.k, .int .i64 vx.n, .int .i64 vy.k, .int .i64 vy.n]) rfl rfl (by kernel_rfl) (by kernel_rfl) (by kernel_rfl) (fun _ _ _ h => h) (by rfl) ?_ (by assumption) ?_
  · intro w hSw; (try dsimp only at hSw); go_simp
  simp only [List.setIfInBounds_toArray, List.set_cons_zero, List.set_cons_succ]
  refine takeH (i := 1) 32 (.pointer (some ⟨ob, 3, none⟩)) rfl rfl (by kernel_rfl) (by kernel_rfl) (by kernel_rfl) (fun _ _ _ h => h) (by rfl) ?_ (by assumption) ?_
  · intro w hSw; (try dsimp only at hSw); go_simp
  simp only [List.setIfInBounds_toArray, List.set_cons_zero, List.set_cons_succ]
  refine takeH (i := 2) 33 (.int .i64 q.md) rfl rfl (by kernel_rfl) (by kernel_rfl) (by kernel_rfl) (fun _ _ _ h => h) (by rfl) ?_ (by assumption) ?_
  · intro w hSw; (try dsimp only at hSw); go_simp
  simp only [List.setIfInBounds_toArray, List.set_cons_zero, List.set_cons_succ]
  refine wpAnyH_ready (rs := [3]) (by kernel_rfl) (by simp) ?_
  refine AllReadyH.cons rfl (fun K hK => ?_) AllReadyH.nil
  go_simp
  refine (cKind _ q.md 4 fit.md.1 fit.md.2 (by decide)).mono ?_
  rintro e wk ⟨rfl, hwk⟩
  rw [hwk, hmk]
  clear hwk wk
  refine hK.out _ _ ⟨(Q5.below hbd).cell 0, (Q5.below hbd).cell 1, (Q5.below hbd).cell 2, (Q5.below hbd).cell 3, (Q5.below hbd).cell 4, (Q5.below hbd).cell 5, (Q5.below hbd).cell 6, (C5.below hbd).cell 3⟩ (fun hHeld => ?_)
  clear hK K
  try simp only [Act.put, List.setIfInBounds_toArray, List.set_cons_zero, List.set_cons_succ]
  refine takeH (i := 4) 35 (.int .i64 md) rfl rfl (by kernel_rfl) (by kernel_rfl) (by kernel_rfl) (fun _ _ _ h => h) (by rfl) ?_ (by assumption) ?_
  · intro w hSw; (try dsimp only at hSw); go_simp
  simp only [List.setIfInBounds_toArray, List.set_cons_zero, List.set_cons_succ]
  refine takeH (i := 5) 36 (.agg #[.int .i64 md, .int .i64 0, .int .i64 0]) rfl rfl (by kernel_rfl) (by kernel_rfl) (by kernel_rfl) (fun _ _ _ h => h) (by rfl) ?_ (by assumption) ?_
  · intro w hSw; (try dsimp only at hSw); go_simp
  simp only [List.setIfInBounds_toArray, List.set_cons_zero, List.set_cons_succ]
  refine wpAnyH_ready (rs := [6]) (by kernel_rfl) (by simp) ?_
  refine AllReadyH.cons rfl (fun K hK => ?_) AllReadyH.nil
  go_simp
  refine (cNewC (Rq.mk 3 96 f vx vy) ⟨md, 0, 0⟩ _ okR).mono ?_
  rintro e w6 ⟨p, rfl, Mp⟩
  rw [hnew] at Mp
  have h7 := (h6.below hbd).below Mp.bel
  have m7 : Cm w w6 p (Cw.hd (Rq.mk 3 96 f vx vy) fx) := Mp.cm (h6.below hbd).bel.size okR
  have Q6 := (Q5.below hbd).below Mp.bel
  have C6 := (C5.below hbd).below Mp.bel
  clear Mp
  refine hK.out _ _ ⟨Q6.cell 0, Q6.cell 1, Q6.cell 2, Q6.cell 3, Q6.cell 4, Q6.cell 5, Q6.cell 6, C6.cell 3⟩ (fun hHeld => ?_)
  clear hK K
  try simp only [Act.put, List.setIfInBounds_toArray, List.set_cons_zero, List.set_cons_succ]
  refine takeH (i := 7) 10 (pt p) rfl rfl (by kernel_rfl) (by kernel_rfl) (by kernel_rfl) (fun _ _ _ h => h) (by rfl) ?_ (by assumption) ?_
  · intro w hSw; (try dsimp only at hSw); go_simp
  simp only [List.setIfInBounds_toArray, List.set_cons_zero, List.set_cons_succ]
  refine wpAnyH_done (by kernel_rfl) ?_ _
  refine NoPanic.normal ?_
  clear h3 h4 h5 h6 C2 C3 C4 C5 Q4 Q5 hbd
  go_wp2_with (fail)
  go_loopw [11, 12] (fun dn i wr => ∃ j : Nat, j ≤ d ∧ i = .int .i64 j ∧ dn = .bool (runC (Cw.hd (Rq.mk 3 96 f vx vy) fx) S j).1.done ∧ Two w wr b y (runC (Cw.hd (Rq.mk 3 96 f vx vy) fx) S j).2 S (18 + j) ∧ Cm w wr p (runC (Cw.hd (Rq.mk 3 96 f vx vy) fx) S j).1 ∧ Blk w wr rb 40 #[.int .i64 3, .int .i64 96, .int .i64 f, .int .i64 vx.k, .int .i64 vx.n, .int .i64 vy.k, .int .i64 vy.n]) (fun _ i _ => 12 - (intOf i).toNat)
  case atStart => exact ⟨0, Nat.zero_le _, rfl, rfl, h7, m7, Q6⟩
  case round =>
    obtain ⟨j, hj, rfl, rfl, k1, k2, k3⟩ := hrel
    rcases Nat.lt_or_ge j d with hjd | hjd
    · have hdn : (runC (Cw.hd (Rq.mk 3 96 f vx vy) fx) S j).1.done = false := E.not j hjd
      have hji : (j : Int) < 12 := by omega
      obtain ⟨XX, hX⟩ : ∃ X, (runC (Cw.hd (Rq.mk 3 96 f vx vy) fx) S j).1 = X := ⟨_, rfl⟩
      obtain ⟨SX, hSX⟩ : ∃ X, (runC (Cw.hd (Rq.mk 3 96 f vx vy) fx) S j).2 = X := ⟨_, rfl⟩
      rw [hX] at k2 hdn
      rw [hSX] at k1
      rw [hX, hdn]
      obtain ⟨cx, Bx'⟩ := k2.blk
      go_wp2_with (go_at_call 13; refine (tC k1 k2 (by omega)).mono ?_; rintro e w20 ⟨rfl, k4, k5, o6⟩; have k6 := k3.oth o6 (by simpa using k3.ne Bx' (by decide)))
      go_roundw
      case rel => exact ⟨j + 1, by omega, by go_num, by simp only [runC, hX, hSX], by simp only [runC, hX, hSX]; exact k4, by simp only [runC, hX, hSX]; exact k5, k6⟩
      case measure => simp [intOf]; omega
    · obtain rfl : j = d := by omega
      have hdn : (runC (Cw.hd (Rq.mk 3 96 f vx vy) fx) S j).1.done = true := by rw [E.at_]; rfl
      rw [hdn]
      rw [E.at_] at k1 k2
      have hji : (j : Int) < 12 := by omega
      obtain ⟨g, cp, sn⟩ := Two.seen k1
      obtain ⟨hx0, hhx⟩ : ∃ h, H0 = h := ⟨_, rfl⟩
      have hgx : s'.got 96 = hx0 := by rw [M'.got96, ← hhx]
      have hUx : U64 hx0 := hhx ▸ u64_hw _ _ _ _ _ _ _
      have hq5 : pT hx0 = 0 := by rw [← hhx]; decide
      obtain ⟨q0, e0⟩ : ∃ q, pS hx0 = q := ⟨_, rfl⟩
      obtain ⟨q1, e1⟩ : ∃ q, pC hx0 = q := ⟨_, rfl⟩
      obtain ⟨q2, e2⟩ : ∃ q, pN hx0 = q := ⟨_, rfl⟩
      obtain ⟨q3, e3⟩ : ∃ q, pM hx0 = q := ⟨_, rfl⟩
      obtain ⟨q4, e4⟩ : ∃ q, pG hx0 = q := ⟨_, rfl⟩
      obtain ⟨q6, e6⟩ : ∃ q, pL hx0 = q := ⟨_, rfl⟩
      go_upto_region 16 with (first
        | (go_at_call 22; refine (tLoadS k1 sn (by omega) 96).mono ?_; rintro e w21 ⟨rfl, t1, o21, sn1⟩; rw [hgx]; have m1 := k2.oth0 o21; have R1 := k3.oth o21 (by simp); clear o21)
        | (go_at_call 21; refine (H.rOf hx0 hUx.1 hUx.2 _).mono ?_; rintro e w22 ⟨rfl, hw22⟩; rw [e0, e1, e2, e3, e4, hq5, e6] at hw22 ⊢; have hb22 : Below w21.heap.size w21 w22 := (by rw [hw22]; go_grown); have t2 := t1.below hb22; have m2 := m1.below hb22; have R2 := R1.below hb22; have sn2 := sn1.below hb22; clear hw22 hb22))
      have H3b : Below w22.heap.size w22 (w22.alloc (.cells #[.int .i64 q0, .int .i64 q1, .int .i64 q2, .int .i64 q3, .int .i64 q4, .int .i64 0, .int .i64 q6] 26)) := (Below.refl _ _).alloc (Nat.le_refl _) _
      have H3 : Blk w (w22.alloc (.cells #[.int .i64 q0, .int .i64 q1, .int .i64 q2, .int .i64 q3, .int .i64 q4, .int .i64 0, .int .i64 q6] 26)) w22.heap.size 26 #[.int .i64 q0, .int .i64 q1, .int .i64 q2, .int .i64 q3, .int .i64 q4, .int .i64 0, .int .i64 q6] := Blk.new t2.bel.size _ (by decide)
      have t3 := t2.below H3b
      have m3 := m2.below H3b
      have R3 := R2.below H3b
      have sn3 := sn2.below H3b
      generalize w22.alloc (.cells #[.int .i64 q0, .int .i64 q1, .int .i64 q2, .int .i64 q3, .int .i64 q4, .int .i64 0, .int .i64 q6] 26) = w23 at H3 t3 m3 R3 sn3 ⊢
      generalize w22.heap.size = hb at H3 ⊢
      clear H3b
      obtain ⟨ix, hix⟩ : ∃ ix, 97 + f = ix := ⟨_, rfl⟩
      have i1 : 97 + (f : Int) = (ix : Int) := by omega
      have i5 : IntKind.i64.wrap (ix : Int) = (ix : Int) := by rw [IntKind.wrap_i64]; omega
      have hixi : (ix : Int) < 160 := by omega
      have c0 := sn3.c0
      rw [hSl] at c0
      have cw := sn3.at hSl ix (by omega)
      rw [← i1, hwd0] at cw
      have hUu := u.u64
      have hku : F.Plain.kind u.w = u.k := congrArg Vl.k gu.of
      have hnu : F.Plain.num u.w = u.n := congrArg Vl.n gu.of
      obtain ⟨uw, huw⟩ : ∃ v, u.w = v := ⟨_, rfl⟩
      rw [huw] at cw hUu hku hnu
      have ly := sn3.ly
      have lg := sn3.lg
      go_upto_region 17 with (go_at_call 15; refine (F.rOf uw hUu.1 hUu.2 _).mono ?_; rintro e w24 ⟨rfl, hw24⟩; rw [hku, hnu] at hw24 ⊢; have hb24 : Below w23.heap.size w23 w24 := (by rw [hw24]; go_grown); have t4 := t3.below hb24; have m4 := m3.below hb24; have R4 := R3.below hb24; have sn4 := sn3.below hb24; have H4 := H3.below hb24; clear hw24 hb24)
      have U5b : Below w24.heap.size w24 (w24.alloc (.cells #[.int .i64 u.k, .int .i64 u.n] 24)) := (Below.refl _ _).alloc (Nat.le_refl _) _
      have U5 : Blk w (w24.alloc (.cells #[.int .i64 u.k, .int .i64 u.n] 24)) w24.heap.size 24 #[.int .i64 u.k, .int .i64 u.n] := Blk.new t4.bel.size _ (by decide)
      have t5 := t4.below U5b
      have m5 := m4.below U5b
      have R5 := R4.below U5b
      have sn5 := sn4.below U5b
      have H5 := H4.below U5b
      generalize w24.alloc (.cells #[.int .i64 u.k, .int .i64 u.n] 24) = w25 at U5 t5 m5 R5 sn5 H5 ⊢
      generalize w24.heap.size = ub at U5 ⊢
      clear U5b
      clear c0 cw ly lg i1 i5 hixi hix
      have g0 : w25.cell? ⟨ub, 0, none⟩ = some (.int .i64 u.k) := U5.cell 0
      have g1 : w25.cell? ⟨ub, 1, none⟩ = some (.int .i64 u.n) := U5.cell 1
      have gl := U5.lt
      go_upto_region 18 with (fail)
      clear g0 g1 gl
      have hun' : ub ≠ w25.heap.size := by have := U5.lt; omega
      have N6b : Below w25.heap.size w25 (w25.alloc (.cells #[.int .i64 u.k, .int .i64 u.n] 24)) := (Below.refl _ _).alloc (Nat.le_refl _) _
      have N6 : Blk w (w25.alloc (.cells #[.int .i64 u.k, .int .i64 u.n] 24)) w25.heap.size 24 #[.int .i64 u.k, .int .i64 u.n] := Blk.new t5.bel.size _ (by decide)
      have t6 := t5.below N6b
      have m6 := m5.below N6b
      have R6 := R5.below N6b
      have sn6 := sn5.below N6b
      have H6 := H5.below N6b
      have U6 := U5.below N6b
      generalize w25.alloc (.cells #[.int .i64 u.k, .int .i64 u.n] 24) = w26 at N6 t6 m6 R6 sn6 H6 U6 ⊢
      generalize w25.heap.size = nb at N6 hun' ⊢
      have hun : ub ≠ nb := hun'
      clear N6b
      have hS113 : S.word (113 + (f : Int)) = 0 := M0.fc f hf3
      by_cases hux : u = vx
      · have eq := eqVal_t hux
        have hux' : Hid (u = vx) := hux
        clear hux
        have r0 : w26.cell? ⟨rb, 0, none⟩ = some (.int .i64 3) := R6.cell 0
        have r1 : w26.cell? ⟨rb, 1, none⟩ = some (.int .i64 96) := R6.cell 1
        have r2 : w26.cell? ⟨rb, 2, none⟩ = some (.int .i64 f) := R6.cell 2
        have r3 : w26.cell? ⟨rb, 3, none⟩ = some (.int .i64 vx.k) := R6.cell 3
        have r4 : w26.cell? ⟨rb, 4, none⟩ = some (.int .i64 vx.n) := R6.cell 4
        have r5 : w26.cell? ⟨rb, 5, none⟩ = some (.int .i64 vy.k) := R6.cell 5
        have r6 : w26.cell? ⟨rb, 6, none⟩ = some (.int .i64 vy.n) := R6.cell 6
        have us0 : w26.cell? ⟨ub, 0, none⟩ = some (.int .i64 u.k) := U6.cell 0
        have usf0 := U6.free 0
        have us1 : w26.cell? ⟨ub, 1, none⟩ = some (.int .i64 u.n) := U6.cell 1
        have usf1 := U6.free 1
        have ns0 : w26.cell? ⟨nb, 0, none⟩ = some (.int .i64 u.k) := N6.cell 0
        have nsf0 := N6.free 0
        have ns1 : w26.cell? ⟨nb, 1, none⟩ = some (.int .i64 u.n) := N6.cell 1
        have nsf1 := N6.free 1
        have rl := R6.lt
        have ul := U6.lt
        have nl := N6.lt
        go_upto_region 20 with (fail)
        clear r0 r1 r2 r3 r4 r5 r6 us0 usf0 us1 usf1 ns0 nsf0 ns1 nsf1 rl ul nl
        have KN : Kept [nb] w26 ((w26.setCell ⟨nb, 0, none⟩ (.int .i64 vy.k)).setCell ⟨nb, 1, none⟩ (.int .i64 vy.n)) := (Kept.setCell [nb] _ _ _ (by simp)).trans (Kept.setCell [nb] _ _ _ (by simp)) (fun _ h => .inl h)
        have t7 := to_twoB t6 KN N6
        have sn7 := seen_kept t6 sn6 KN N6
        have N7 : Blk w ((w26.setCell ⟨nb, 0, none⟩ (.int .i64 vy.k)).setCell ⟨nb, 1, none⟩ (.int .i64 vy.n)) nb 24 #[.int .i64 vy.k, .int .i64 vy.n] := (N6.set 0 _).set 1 _
        have R7 := R6.oth (Oth.kept KN) (by simpa using R6.ne N6 (by decide))
        have H7 := H6.oth (Oth.kept KN) (by simpa using H6.ne N6 (by decide))
        have U7 := U6.oth (Oth.kept KN) (by simpa using hun)
        obtain ⟨cx7, Bx7⟩ := m6.blk
        have m7 := m6.fin (Oth.kept KN) (by simpa using Bx7.ne N6 (by decide))
        generalize (w26.setCell ⟨nb, 0, none⟩ (.int .i64 vy.k)).setCell ⟨nb, 1, none⟩ (.int .i64 vy.n) = w27 at t7 sn7 N7 R7 H7 U7 m7 ⊢
        clear KN Bx7
        have r0 : w27.cell? ⟨rb, 0, none⟩ = some (.int .i64 3) := R7.cell 0
        go_upto_region 23 with (fail)
        clear r0
        have hwant' : a' f = vy.w := hw1.out hux'.out
        obtain ⟨vyw, hvyw⟩ : ∃ v, vy.w = v := ⟨_, rfl⟩
        have hUw : U64 vyw := hvyw ▸ vy.u64
        have hkw : F.Plain.kind vyw = vy.k := by rw [← hvyw]; exact congrArg Vl.k gy.of
        have hnw : F.Plain.num vyw = vy.n := by rw [← hvyw]; exact congrArg Vl.n gy.of
        have hgf : (s'.load 96).got (97 + (f : Int)) = vyw := by rw [(M'.load in96).gota hf3, hwant', hvyw]
        have hgc : ((s'.load 96).load (97 + (f : Int))).got (113 + (f : Int)) = 0 := ((M'.load in96).load (in_a hf3)).gotc hf3
        have i97 : IntKind.i64.wrap (97 + (f : Int)) = 97 + (f : Int) := by rw [IntKind.wrap_i64]; omega
        have i113 : IntKind.i64.wrap (113 + (f : Int)) = 113 + (f : Int) := by rw [IntKind.wrap_i64]; omega
        have ev := eqVal_t (a := vy) (b := vy) rfl
        have evu := eqVal_t (a := u) (b := u) rfl
        have fo := fOut1
        have hbd : Below w27.heap.size w27 w27.drew := (Below.refl _ _).drew
        have TT0 : Two w w27.drew b y (s'.load 96) S _ := t7.below hbd
        have MM0 := m7.below hbd
        have SN0 := sn7.below hbd
        have HH0 := H7.below hbd
        have NN0 := N7.below hbd
        have RR0 := R7.below hbd
        have UU0 := U7.below hbd
        refine wp_region_noPanic ?_
        refine wp_region_held_drew (S := fun w' => w'.cell? ⟨hb, 5, none⟩ = some (.int .i64 0) ∧ w'.cell? ⟨nb, 0, none⟩ = some (.int .i64 vy.k) ∧ w'.cell? ⟨nb, 1, none⟩ = some (.int .i64 vy.n) ∧ w'.cell? ⟨y, 0, none⟩ = some (.slice (some ⟨g, 0, none⟩) 160 cp) ∧ w'.cell? ⟨g, 113 + f, none⟩ = some (.int .u64 0) ∧ w'.cell? ⟨rb, 0, none⟩ = some (.int .i64 3) ∧ w'.cell? ⟨ub, 0, none⟩ = some (.int .i64 u.k) ∧ w'.cell? ⟨ub, 1, none⟩ = some (.int .i64 u.n)) (by kernel_rfl) ⟨HH0.cell 5, NN0.cell 0, NN0.cell 1, seen160 SN0 hSl, seen113 SN0 hSl hS113, RR0.cell 0, UU0.cell 0, UU0.cell 1⟩ (fun hHeld => ?_)
        refine takeH (i := 0) 91 (.bool true) rfl rfl (by kernel_rfl) (by kernel_rfl) (by kernel_rfl) (fun _ _ _ h => h) (by rfl) ?_ (by assumption) ?_
        · intro w hSw; (try dsimp only at hSw); go_simp
        simp only [List.setIfInBounds_toArray, List.set_cons_zero, List.set_cons_succ]
        refine takeH (i := 1) 92 (.bool true) rfl rfl (by kernel_rfl) (by kernel_rfl) (by kernel_rfl) (fun _ _ _ h => h) (by rfl) ?_ (by assumption) ?_
        · intro w hSw; (try dsimp only at hSw); go_simp
        simp only [List.setIfInBounds_toArray, List.set_cons_zero, List.set_cons_succ]
        refine takeH (i := 2) 93 (.pointer (some ⟨hb, 5, none⟩)) rfl rfl (by kernel_rfl) (by kernel_rfl) (by kernel_rfl) (fun _ _ _ h => h) (by rfl) ?_ (by assumption) ?_
        · intro w hSw; (try dsimp only at hSw); go_simp
        simp only [List.setIfInBounds_toArray, List.set_cons_zero, List.set_cons_succ]
        refine takeH (i := 3) 94 (.int .i64 0) rfl rfl (by kernel_rfl) (by kernel_rfl) (by kernel_rfl) (fun _ _ _ h => h) (by rfl) ?_ (by assumption) ?_
        · intro w hSw; (try dsimp only at hSw); go_simp
        simp only [List.setIfInBounds_toArray, List.set_cons_zero, List.set_cons_succ]
        refine takeH (i := 4) 95 (.int .i64 0) rfl rfl (by kernel_rfl) (by kernel_rfl) (by kernel_rfl) (fun _ _ _ h => h) (by rfl) ?_ (by assumption) ?_
        · intro w hSw; (try dsimp only at hSw); go_simp
        simp only [List.setIfInBounds_toArray, List.set_cons_zero, List.set_cons_succ]
        refine takeH (i := 5) 96 (.bool true) rfl rfl (by kernel_rfl) (by kernel_rfl) (by kernel_rfl) (fun _ _ _ h => h) (by rfl) ?_ (by assumption) ?_
        · intro w hSw; (try dsimp only at hSw); go_simp
        simp only [List.setIfInBounds_toArray, List.set_cons_zero, List.set_cons_succ]
        refine takeH (i := 6) 97 (.bool true) rfl rfl (by kernel_rfl) (by kernel_rfl) (by kernel_rfl) (fun _ _ _ h => h) (by rfl) ?_ (by assumption) ?_
        · intro w hSw; (try dsimp only at hSw); go_simp
        simp only [List.setIfInBounds_toArray, List.set_cons_zero, List.set_cons_succ]
        refine takeH (i := 7) 98 (.bool true) rfl rfl (by kernel_rfl) (by kernel_rfl) (by kernel_rfl) (fun _ _ _ h => h) (by rfl) ?_ (by assumption) ?_
        · intro w hSw; (try dsimp only at hSw); go_simp
        simp only [List.setIfInBounds_toArray, List.set_cons_zero, List.set_cons_succ]
        refine takeH (i := 8) 99 (pt b) rfl rfl (by kernel_rfl) (by kernel_rfl) (by kernel_rfl) (fun _ _ _ h => h) (by rfl) ?_ (by assumption) ?_
        · intro w hSw; (try dsimp only at hSw); go_simp
        simp only [List.setIfInBounds_toArray, List.set_cons_zero, List.set_cons_succ]
        refine takeH (i := 9) 100 (.int .i64 f) rfl rfl (by kernel_rfl) (by kernel_rfl) (by kernel_rfl) (fun _ _ _ h => h) (by rfl) ?_ (by assumption) ?_
        · intro w hSw; (try dsimp only at hSw); go_simp
        simp only [List.setIfInBounds_toArray, List.set_cons_zero, List.set_cons_succ]
        refine takeH (i := 10) 101 (.int .i64 (97 + f)) rfl rfl (by kernel_rfl) (by kernel_rfl) (by kernel_rfl) (fun _ _ _ h => h) (by rfl) ?_ (by assumption) ?_
        · intro w hSw; (try dsimp only at hSw); go_simp
        simp only [List.setIfInBounds_toArray, List.set_cons_zero, List.set_cons_succ]
        refine takeH (i := 13) 104 (.agg #[.int .i64 vy.k, .int .i64 vy.n]) rfl rfl (by kernel_rfl) (by kernel_rfl) (by kernel_rfl) (fun _ _ _ h => h) (by rfl) ?_ (by assumption) ?_
        · intro w hSw; (try dsimp only at hSw); go_simp
        simp only [List.setIfInBounds_toArray, List.set_cons_zero, List.set_cons_succ]
        refine wpAnyH_ready (rs := [11]) (by kernel_rfl) (by simp) ?_
        refine AllReadyH.cons rfl (fun K hK => ?_) AllReadyH.nil
        go_simp
        refine (tLoadS TT0 SN0 (by omega) (97 + (f : Int))).mono ?_
        rintro e w31 ⟨rfl, TT1, o31, SN1⟩
        rw [hgf]
        have MM1 := MM0.oth0 o31
        have HH1 := HH0.oth o31 (by simp)
        have NN1 := NN0.oth o31 (by simp)
        have RR1 := RR0.oth o31 (by simp)
        have UU1 := UU0.oth o31 (by simp)
        refine hK.out _ _ ⟨HH1.cell 5, NN1.cell 0, NN1.cell 1, seen160 SN1 hSl, seen113 SN1 hSl hS113, RR1.cell 0, UU1.cell 0, UU1.cell 1⟩ (fun hHeld => ?_)
        clear hK K
        try simp only [Act.put, List.setIfInBounds_toArray, List.set_cons_zero, List.set_cons_succ]
        refine wpAnyH_ready (rs := [12]) (by kernel_rfl) (by simp) ?_
        refine AllReadyH.cons rfl (fun K hK => ?_) AllReadyH.nil
        go_simp
        refine (F.rOf vyw hUw.1 hUw.2 _).mono ?_
        rintro e w32 ⟨rfl, hw32⟩
        rw [hkw, hnw] at hw32 ⊢
        have hb32 : Below w31.heap.size w31 w32 := (by rw [hw32]; go_grown)
        have TT2 := TT1.below hb32
        have MM2 := MM1.below hb32
        have SN2 := SN1.below hb32
        have HH2 := HH1.below hb32
        have NN2 := NN1.below hb32
        have RR2 := RR1.below hb32
        have UU2 := UU1.below hb32
        clear hw32 hb32
        refine hK.out _ _ ⟨HH2.cell 5, NN2.cell 0, NN2.cell 1, seen160 SN2 hSl, seen113 SN2 hSl hS113, RR2.cell 0, UU2.cell 0, UU2.cell 1⟩ (fun hHeld => ?_)
        clear hK K
        try simp only [Act.put, List.setIfInBounds_toArray, List.set_cons_zero, List.set_cons_succ]
        refine takeH (i := 14) 105 (.bool true) rfl rfl (by kernel_rfl) (by kernel_rfl) (by kernel_rfl) (fun _ _ _ h => h) (by rfl) ?_ (by assumption) ?_
        · intro w hSw; (try dsimp only at hSw); go_simp
        simp only [List.setIfInBounds_toArray, List.set_cons_zero, List.set_cons_succ]
        refine takeH (i := 15) 106 (.bool true) rfl rfl (by kernel_rfl) (by kernel_rfl) (by kernel_rfl) (fun _ _ _ h => h) (by rfl) ?_ (by assumption) ?_
        · intro w hSw; (try dsimp only at hSw); go_simp
        simp only [List.setIfInBounds_toArray, List.set_cons_zero, List.set_cons_succ]
        refine takeH (i := 16) 107 (.bool true) rfl rfl (by kernel_rfl) (by kernel_rfl) (by kernel_rfl) (fun _ _ _ h => h) (by rfl) ?_ (by assumption) ?_
        · intro w hSw; (try dsimp only at hSw); go_simp
        simp only [List.setIfInBounds_toArray, List.set_cons_zero, List.set_cons_succ]
        refine takeH (i := 17) 108 (pt b) rfl rfl (by kernel_rfl) (by kernel_rfl) (by kernel_rfl) (fun _ _ _ h => h) (by rfl) ?_ (by assumption) ?_
        · intro w hSw; (try dsimp only at hSw); go_simp
        simp only [List.setIfInBounds_toArray, List.set_cons_zero, List.set_cons_succ]
        refine takeH (i := 18) 109 (.int .i64 f) rfl rfl (by kernel_rfl) (by kernel_rfl) (by kernel_rfl) (fun _ _ _ h => h) (by rfl) ?_ (by assumption) ?_
        · intro w hSw; (try dsimp only at hSw); go_simp
        simp only [List.setIfInBounds_toArray, List.set_cons_zero, List.set_cons_succ]
        refine takeH (i := 19) 110 (.int .i64 (113 + f)) rfl rfl (by kernel_rfl) (by kernel_rfl) (by kernel_rfl) (fun _ _ _ h => h) (by rfl) ?_ (by assumption) ?_
        · intro w hSw; (try dsimp only at hSw); go_simp
        simp only [List.setIfInBounds_toArray, List.set_cons_zero, List.set_cons_succ]
        refine takeH (i := 21) 112 (pt y) rfl rfl (by kernel_rfl) (by kernel_rfl) (by kernel_rfl) (fun _ _ _ h => h) (by rfl) ?_ (by assumption) ?_
        · intro w hSw; (try dsimp only at hSw); go_simp
        simp only [List.setIfInBounds_toArray, List.set_cons_zero, List.set_cons_succ]
        refine takeH (i := 22) 113 (pt y) rfl rfl (by kernel_rfl) (by kernel_rfl) (by kernel_rfl) (fun _ _ _ h => h) (by rfl) ?_ (by assumption) ?_
        · intro w hSw; (try dsimp only at hSw); go_simp
        simp only [List.setIfInBounds_toArray, List.set_cons_zero, List.set_cons_succ]
        refine takeH (i := 23) 114 (pt y) rfl rfl (by kernel_rfl) (by kernel_rfl) (by kernel_rfl) (fun _ _ _ h => h) (by rfl) ?_ (by assumption) ?_
        · intro w hSw; (try dsimp only at hSw); go_simp
        simp only [List.setIfInBounds_toArray, List.set_cons_zero, List.set_cons_succ]
        refine takeH (i := 24) 115 (.slice (some ⟨g, 0, none⟩) 160 cp) rfl rfl (by kernel_rfl) (by kernel_rfl) (by kernel_rfl) (fun _ _ _ h => h) (by rfl) ?_ (by assumption) ?_
        · intro w hSw; (try dsimp only at hSw); go_simp
        simp only [List.setIfInBounds_toArray, List.set_cons_zero, List.set_cons_succ]
        refine takeH (i := 25) 116 (.int .i64 f) rfl rfl (by kernel_rfl) (by kernel_rfl) (by kernel_rfl) (fun _ _ _ h => h) (by rfl) ?_ (by assumption) ?_
        · intro w hSw; (try dsimp only at hSw); go_simp
        simp only [List.setIfInBounds_toArray, List.set_cons_zero, List.set_cons_succ]
        refine takeH (i := 26) 117 (.int .i64 (113 + f)) rfl rfl (by kernel_rfl) (by kernel_rfl) (by kernel_rfl) (fun _ _ _ h => h) (by rfl) ?_ (by assumption) ?_
        · intro w hSw; (try dsimp only at hSw); go_simp
        simp only [List.setIfInBounds_toArray, List.set_cons_zero, List.set_cons_succ]
        refine takeH (i := 27) 118 (.pointer (some ⟨g, 113 + f, none⟩)) rfl rfl (by kernel_rfl) (by kernel_rfl) (by kernel_rfl) (fun _ _ _ h => h) (by rfl) ?_ (by assumption) ?_
        · intro w hSw; (try dsimp only at hSw); go_simp; rw [if_pos (by omega)]; rw [show (113 + (f : Int)).toNat = 113 + f by omega]
        simp only [List.setIfInBounds_toArray, List.set_cons_zero, List.set_cons_succ]
        refine takeH (i := 28) 119 (.int .u64 0) rfl rfl (by kernel_rfl) (by kernel_rfl) (by kernel_rfl) (fun _ _ _ h => h) (by rfl) ?_ (by assumption) ?_
        · intro w hSw; (try dsimp only at hSw); go_simp
        simp only [List.setIfInBounds_toArray, List.set_cons_zero, List.set_cons_succ]
        refine wpAnyH_ready (rs := [20]) (by kernel_rfl) (by simp) ?_
        refine AllReadyH.cons rfl (fun K hK => ?_) AllReadyH.nil
        go_simp
        refine (tLoadS TT2 SN2 (by omega) (113 + (f : Int))).mono ?_
        rintro e w33 ⟨rfl, TT3, o33, SN3⟩
        rw [hgc]
        have MM3 := MM2.oth0 o33
        have HH3 := HH2.oth o33 (by simp)
        have NN3 := NN2.oth o33 (by simp)
        have RR3 := RR2.oth o33 (by simp)
        have UU3 := UU2.oth o33 (by simp)
        refine hK.out _ _ ⟨HH3.cell 5, NN3.cell 0, NN3.cell 1, seen160 SN3 hSl, seen113 SN3 hSl hS113, RR3.cell 0, UU3.cell 0, UU3.cell 1⟩ (fun hHeld => ?_)
        clear hK K
        try simp only [Act.put, List.setIfInBounds_toArray, List.set_cons_zero, List.set_cons_succ]
        refine takeH (i := 29) 120 (.bool true) rfl rfl (by kernel_rfl) (by kernel_rfl) (by kernel_rfl) (fun _ _ _ h => h) (by rfl) ?_ (by assumption) ?_
        · intro w hSw; (try dsimp only at hSw); go_simp
        simp only [List.setIfInBounds_toArray, List.set_cons_zero, List.set_cons_succ]
        refine takeH (i := 30) 121 (.bool true) rfl rfl (by kernel_rfl) (by kernel_rfl) (by kernel_rfl) (fun _ _ _ h => h) (by rfl) ?_ (by assumption) ?_
        · intro w hSw; (try dsimp only at hSw); go_simp
        simp only [List.setIfInBounds_toArray, List.set_cons_zero, List.set_cons_succ]
        refine takeH (i := 31) 122 (.bool true) rfl rfl (by kernel_rfl) (by kernel_rfl) (by kernel_rfl) (fun _ _ _ h => h) (by rfl) ?_ (by assumption) ?_
        · intro w hSw; (try dsimp only at hSw); go_simp
        simp only [List.setIfInBounds_toArray, List.set_cons_zero, List.set_cons_succ]
        refine takeH (i := 32) 123 (pt rb) rfl rfl (by kernel_rfl) (by kernel_rfl) (by kernel_rfl) (fun _ _ _ h => h) (by rfl) ?_ (by assumption) ?_
        · intro w hSw; (try dsimp only at hSw); go_simp
        simp only [List.setIfInBounds_toArray, List.set_cons_zero, List.set_cons_succ]
        refine takeH (i := 33) 124 (.int .i64 3) rfl rfl (by kernel_rfl) (by kernel_rfl) (by kernel_rfl) (fun _ _ _ h => h) (by rfl) ?_ (by assumption) ?_
        · intro w hSw; (try dsimp only at hSw); go_simp
        simp only [List.setIfInBounds_toArray, List.set_cons_zero, List.set_cons_succ]
        refine takeH (i := 34) 125 (.bool true) rfl rfl (by kernel_rfl) (by kernel_rfl) (by kernel_rfl) (fun _ _ _ h => h) (by rfl) ?_ (by assumption) ?_
        · intro w hSw; (try dsimp only at hSw); go_simp
        simp only [List.setIfInBounds_toArray, List.set_cons_zero, List.set_cons_succ]
        refine takeH (i := 35) 126 (.bool true) rfl rfl (by kernel_rfl) (by kernel_rfl) (by kernel_rfl) (fun _ _ _ h => h) (by rfl) ?_ (by assumption) ?_
        · intro w hSw; (try dsimp only at hSw); go_simp
        simp only [List.setIfInBounds_toArray, List.set_cons_zero, List.set_cons_succ]
        refine skipH (i := 36) 127 rfl rfl (by kernel_rfl) (by kernel_rfl) (by kernel_rfl) (fun _ _ _ h => h) (by rfl) (by assumption) ?_
        simp only [List.setIfInBounds_toArray, List.set_cons_zero, List.set_cons_succ]
        refine skipH (i := 37) 128 rfl rfl (by kernel_rfl) (by kernel_rfl) (by kernel_rfl) (fun _ _ _ h => h) (by rfl) (by assumption) ?_
        simp only [List.setIfInBounds_toArray, List.set_cons_zero, List.set_cons_succ]
        refine skipH (i := 38) 129 rfl rfl (by kernel_rfl) (by kernel_rfl) (by kernel_rfl) (fun _ _ _ h => h) (by rfl) (by assumption) ?_
        simp only [List.setIfInBounds_toArray, List.set_cons_zero, List.set_cons_succ]
        refine skipH (i := 39) 130 rfl rfl (by kernel_rfl) (by kernel_rfl) (by kernel_rfl) (fun _ _ _ h => h) (by rfl) (by assumption) ?_
        simp only [List.setIfInBounds_toArray, List.set_cons_zero, List.set_cons_succ]
        refine skipH (i := 40) 131 rfl rfl (by kernel_rfl) (by kernel_rfl) (by kernel_rfl) (fun _ _ _ h => h) (by rfl) (by assumption) ?_
        simp only [List.setIfInBounds_toArray, List.set_cons_zero, List.set_cons_succ]
        refine takeH (i := 41) 132 (.bool true) rfl rfl (by kernel_rfl) (by kernel_rfl) (by kernel_rfl) (fun _ _ _ h => h) (by rfl) ?_ (by assumption) ?_
        · intro w hSw; (try dsimp only at hSw); go_simp
        simp only [List.setIfInBounds_toArray, List.set_cons_zero, List.set_cons_succ]
        refine takeH (i := 42) 133 (.bool true) rfl rfl (by kernel_rfl) (by kernel_rfl) (by kernel_rfl) (fun _ _ _ h => h) (by rfl) ?_ (by assumption) ?_
        · intro w hSw; (try dsimp only at hSw); go_simp
        simp only [List.setIfInBounds_toArray, List.set_cons_zero, List.set_cons_succ]
        refine takeH (i := 43) 4 (.bool true) rfl rfl (by kernel_rfl) (by kernel_rfl) (by kernel_rfl) (fun _ _ _ h => h) (by rfl) ?_ (by assumption) ?_
        · intro w hSw; (try dsimp only at hSw); go_simp
        simp only [List.setIfInBounds_toArray, List.set_cons_zero, List.set_cons_succ]
        refine wpAnyH_done (by kernel_rfl) ?_ _
        refine NoPanic.normal ?_
        go_wp2
        go_ret
        exact ⟨rfl, TT3.bel⟩
      · have eq := eqVal_f hux
        have r0 : w26.cell? ⟨rb, 0, none⟩ = some (.int .i64 3) := R6.cell 0
        have r1 : w26.cell? ⟨rb, 1, none⟩ = some (.int .i64 96) := R6.cell 1
        have r2 : w26.cell? ⟨rb, 2, none⟩ = some (.int .i64 f) := R6.cell 2
        have r3 : w26.cell? ⟨rb, 3, none⟩ = some (.int .i64 vx.k) := R6.cell 3
        have r4 : w26.cell? ⟨rb, 4, none⟩ = some (.int .i64 vx.n) := R6.cell 4
        have r5 : w26.cell? ⟨rb, 5, none⟩ = some (.int .i64 vy.k) := R6.cell 5
        have r6 : w26.cell? ⟨rb, 6, none⟩ = some (.int .i64 vy.n) := R6.cell 6
        have us0 : w26.cell? ⟨ub, 0, none⟩ = some (.int .i64 u.k) := U6.cell 0
        have usf0 := U6.free 0
        have us1 : w26.cell? ⟨ub, 1, none⟩ = some (.int .i64 u.n) := U6.cell 1
        have usf1 := U6.free 1
        have ns0 : w26.cell? ⟨nb, 0, none⟩ = some (.int .i64 u.k) := N6.cell 0
        have nsf0 := N6.free 0
        have ns1 : w26.cell? ⟨nb, 1, none⟩ = some (.int .i64 u.n) := N6.cell 1
        have nsf1 := N6.free 1
        have rl := R6.lt
        have ul := U6.lt
        have nl := N6.lt
        go_upto_region 23 with (fail)
        clear r0 r1 r2 r3 r4 r5 r6 us0 usf0 us1 usf1 ns0 nsf0 ns1 nsf1 rl ul nl
        have hwant' : a' f = u.w := hw2.out hux
        have hUw : U64 uw := huw ▸ u.u64
        have hkw : F.Plain.kind uw = u.k := by rw [← huw]; exact congrArg Vl.k gu.of
        have hnw : F.Plain.num uw = u.n := by rw [← huw]; exact congrArg Vl.n gu.of
        have hgf : (s'.load 96).got (97 + (f : Int)) = uw := by rw [(M'.load in96).gota hf3, hwant', huw]
        have hgc : ((s'.load 96).load (97 + (f : Int))).got (113 + (f : Int)) = 0 := ((M'.load in96).load (in_a hf3)).gotc hf3
        have i97 : IntKind.i64.wrap (97 + (f : Int)) = 97 + (f : Int) := by rw [IntKind.wrap_i64]; omega
        have i113 : IntKind.i64.wrap (113 + (f : Int)) = 113 + (f : Int) := by rw [IntKind.wrap_i64]; omega
        have ev := eqVal_t (a := u) (b := u) rfl
        have evu := eqVal_t (a := u) (b := u) rfl
        have fo := fOut1
        have hbd : Below w26.heap.size w26 w26.drew := (Below.refl _ _).drew
        have TT0 : Two w w26.drew b y (s'.load 96) S _ := t6.below hbd
        have MM0 := m6.below hbd
        have SN0 := sn6.below hbd
        have HH0 := H6.below hbd
        have NN0 := N6.below hbd
        have RR0 := R6.below hbd
        have UU0 := U6.below hbd
        refine wp_region_noPanic ?_
        refine wp_region_held_drew (S := fun w' => w'.cell? ⟨hb, 5, none⟩ = some (.int .i64 0) ∧ w'.cell? ⟨nb, 0, none⟩ = some (.int .i64 u.k) ∧ w'.cell? ⟨nb, 1, none⟩ = some (.int .i64 u.n) ∧ w'.cell? ⟨y, 0, none⟩ = some (.slice (some ⟨g, 0, none⟩) 160 cp) ∧ w'.cell? ⟨g, 113 + f, none⟩ = some (.int .u64 0) ∧ w'.cell? ⟨rb, 0, none⟩ = some (.int .i64 3) ∧ w'.cell? ⟨ub, 0, none⟩ = some (.int .i64 u.k) ∧ w'.cell? ⟨ub, 1, none⟩ = some (.int .i64 u.n)) (by kernel_rfl) ⟨HH0.cell 5, NN0.cell 0, NN0.cell 1, seen160 SN0 hSl, seen113 SN0 hSl hS113, RR0.cell 0, UU0.cell 0, UU0.cell 1⟩ (fun hHeld => ?_)
        refine takeH (i := 0) 91 (.bool true) rfl rfl (by kernel_rfl) (by kernel_rfl) (by kernel_rfl) (fun _ _ _ h => h) (by rfl) ?_ (by assumption) ?_
        · intro w hSw; (try dsimp only at hSw); go_simp
        simp only [List.setIfInBounds_toArray, List.set_cons_zero, List.set_cons_succ]
        refine takeH (i := 1) 92 (.bool true) rfl rfl (by kernel_rfl) (by kernel_rfl) (by kernel_rfl) (fun _ _ _ h => h) (by rfl) ?_ (by assumption) ?_
        · intro w hSw; (try dsimp only at hSw); go_simp
        simp only [List.setIfInBounds_toArray, List.set_cons_zero, List.set_cons_succ]
        refine takeH (i := 2) 93 (.pointer (some ⟨hb, 5, none⟩)) rfl rfl (by kernel_rfl) (by kernel_rfl) (by kernel_rfl) (fun _ _ _ h => h) (by rfl) ?_ (by assumption) ?_
        · intro w hSw; (try dsimp only at hSw); go_simp
        simp only [List.setIfInBounds_toArray, List.set_cons_zero, List.set_cons_succ]
        refine takeH (i := 3) 94 (.int .i64 0) rfl rfl (by kernel_rfl) (by kernel_rfl) (by kernel_rfl) (fun _ _ _ h => h) (by rfl) ?_ (by assumption) ?_
        · intro w hSw; (try dsimp only at hSw); go_simp
        simp only [List.setIfInBounds_toArray, List.set_cons_zero, List.set_cons_succ]
        refine takeH (i := 4) 95 (.int .i64 0) rfl rfl (by kernel_rfl) (by kernel_rfl) (by kernel_rfl) (fun _ _ _ h => h) (by rfl) ?_ (by assumption) ?_
        · intro w hSw; (try dsimp only at hSw); go_simp
        simp only [List.setIfInBounds_toArray, List.set_cons_zero, List.set_cons_succ]
        refine takeH (i := 5) 96 (.bool true) rfl rfl (by kernel_rfl) (by kernel_rfl) (by kernel_rfl) (fun _ _ _ h => h) (by rfl) ?_ (by assumption) ?_
        · intro w hSw; (try dsimp only at hSw); go_simp
        simp only [List.setIfInBounds_toArray, List.set_cons_zero, List.set_cons_succ]
        refine takeH (i := 6) 97 (.bool true) rfl rfl (by kernel_rfl) (by kernel_rfl) (by kernel_rfl) (fun _ _ _ h => h) (by rfl) ?_ (by assumption) ?_
        · intro w hSw; (try dsimp only at hSw); go_simp
        simp only [List.setIfInBounds_toArray, List.set_cons_zero, List.set_cons_succ]
        refine takeH (i := 7) 98 (.bool true) rfl rfl (by kernel_rfl) (by kernel_rfl) (by kernel_rfl) (fun _ _ _ h => h) (by rfl) ?_ (by assumption) ?_
        · intro w hSw; (try dsimp only at hSw); go_simp
        simp only [List.setIfInBounds_toArray, List.set_cons_zero, List.set_cons_succ]
        refine takeH (i := 8) 99 (pt b) rfl rfl (by kernel_rfl) (by kernel_rfl) (by kernel_rfl) (fun _ _ _ h => h) (by rfl) ?_ (by assumption) ?_
        · intro w hSw; (try dsimp only at hSw); go_simp
        simp only [List.setIfInBounds_toArray, List.set_cons_zero, List.set_cons_succ]
        refine takeH (i := 9) 100 (.int .i64 f) rfl rfl (by kernel_rfl) (by kernel_rfl) (by kernel_rfl) (fun _ _ _ h => h) (by rfl) ?_ (by assumption) ?_
        · intro w hSw; (try dsimp only at hSw); go_simp
        simp only [List.setIfInBounds_toArray, List.set_cons_zero, List.set_cons_succ]
        refine takeH (i := 10) 101 (.int .i64 (97 + f)) rfl rfl (by kernel_rfl) (by kernel_rfl) (by kernel_rfl) (fun _ _ _ h => h) (by rfl) ?_ (by assumption) ?_
        · intro w hSw; (try dsimp only at hSw); go_simp
        simp only [List.setIfInBounds_toArray, List.set_cons_zero, List.set_cons_succ]
        refine takeH (i := 13) 104 (.agg #[.int .i64 u.k, .int .i64 u.n]) rfl rfl (by kernel_rfl) (by kernel_rfl) (by kernel_rfl) (fun _ _ _ h => h) (by rfl) ?_ (by assumption) ?_
        · intro w hSw; (try dsimp only at hSw); go_simp
        simp only [List.setIfInBounds_toArray, List.set_cons_zero, List.set_cons_succ]
        refine wpAnyH_ready (rs := [11]) (by kernel_rfl) (by simp) ?_
        refine AllReadyH.cons rfl (fun K hK => ?_) AllReadyH.nil
        go_simp
        refine (tLoadS TT0 SN0 (by omega) (97 + (f : Int))).mono ?_
        rintro e w31 ⟨rfl, TT1, o31, SN1⟩
        rw [hgf]
        have MM1 := MM0.oth0 o31
        have HH1 := HH0.oth o31 (by simp)
        have NN1 := NN0.oth o31 (by simp)
        have RR1 := RR0.oth o31 (by simp)
        have UU1 := UU0.oth o31 (by simp)
        refine hK.out _ _ ⟨HH1.cell 5, NN1.cell 0, NN1.cell 1, seen160 SN1 hSl, seen113 SN1 hSl hS113, RR1.cell 0, UU1.cell 0, UU1.cell 1⟩ (fun hHeld => ?_)
        clear hK K
        try simp only [Act.put, List.setIfInBounds_toArray, List.set_cons_zero, List.set_cons_succ]
        refine wpAnyH_ready (rs := [12]) (by kernel_rfl) (by simp) ?_
        refine AllReadyH.cons rfl (fun K hK => ?_) AllReadyH.nil
        go_simp
        refine (F.rOf uw hUw.1 hUw.2 _).mono ?_
        rintro e w32 ⟨rfl, hw32⟩
        rw [hkw, hnw] at hw32 ⊢
        have hb32 : Below w31.heap.size w31 w32 := (by rw [hw32]; go_grown)
        have TT2 := TT1.below hb32
        have MM2 := MM1.below hb32
        have SN2 := SN1.below hb32
        have HH2 := HH1.below hb32
        have NN2 := NN1.below hb32
        have RR2 := RR1.below hb32
        have UU2 := UU1.below hb32
        clear hw32 hb32
        refine hK.out _ _ ⟨HH2.cell 5, NN2.cell 0, NN2.cell 1, seen160 SN2 hSl, seen113 SN2 hSl hS113, RR2.cell 0, UU2.cell 0, UU2.cell 1⟩ (fun hHeld => ?_)
        clear hK K
        try simp only [Act.put, List.setIfInBounds_toArray, List.set_cons_zero, List.set_cons_succ]
        refine takeH (i := 14) 105 (.bool true) rfl rfl (by kernel_rfl) (by kernel_rfl) (by kernel_rfl) (fun _ _ _ h => h) (by rfl) ?_ (by assumption) ?_
        · intro w hSw; (try dsimp only at hSw); go_simp
        simp only [List.setIfInBounds_toArray, List.set_cons_zero, List.set_cons_succ]
        refine takeH (i := 15) 106 (.bool true) rfl rfl (by kernel_rfl) (by kernel_rfl) (by kernel_rfl) (fun _ _ _ h => h) (by rfl) ?_ (by assumption) ?_
        · intro w hSw; (try dsimp only at hSw); go_simp
        simp only [List.setIfInBounds_toArray, List.set_cons_zero, List.set_cons_succ]
        refine takeH (i := 16) 107 (.bool true) rfl rfl (by kernel_rfl) (by kernel_rfl) (by kernel_rfl) (fun _ _ _ h => h) (by rfl) ?_ (by assumption) ?_
        · intro w hSw; (try dsimp only at hSw); go_simp
        simp only [List.setIfInBounds_toArray, List.set_cons_zero, List.set_cons_succ]
        refine takeH (i := 17) 108 (pt b) rfl rfl (by kernel_rfl) (by kernel_rfl) (by kernel_rfl) (fun _ _ _ h => h) (by rfl) ?_ (by assumption) ?_
        · intro w hSw; (try dsimp only at hSw); go_simp
        simp only [List.setIfInBounds_toArray, List.set_cons_zero, List.set_cons_succ]
        refine takeH (i := 18) 109 (.int .i64 f) rfl rfl (by kernel_rfl) (by kernel_rfl) (by kernel_rfl) (fun _ _ _ h => h) (by rfl) ?_ (by assumption) ?_
        · intro w hSw; (try dsimp only at hSw); go_simp
        simp only [List.setIfInBounds_toArray, List.set_cons_zero, List.set_cons_succ]
        refine takeH (i := 19) 110 (.int .i64 (113 + f)) rfl rfl (by kernel_rfl) (by kernel_rfl) (by kernel_rfl) (fun _ _ _ h => h) (by rfl) ?_ (by assumption) ?_
        · intro w hSw; (try dsimp only at hSw); go_simp
        simp only [List.setIfInBounds_toArray, List.set_cons_zero, List.set_cons_succ]
        refine takeH (i := 21) 112 (pt y) rfl rfl (by kernel_rfl) (by kernel_rfl) (by kernel_rfl) (fun _ _ _ h => h) (by rfl) ?_ (by assumption) ?_
        · intro w hSw; (try dsimp only at hSw); go_simp
        simp only [List.setIfInBounds_toArray, List.set_cons_zero, List.set_cons_succ]
        refine takeH (i := 22) 113 (pt y) rfl rfl (by kernel_rfl) (by kernel_rfl) (by kernel_rfl) (fun _ _ _ h => h) (by rfl) ?_ (by assumption) ?_
        · intro w hSw; (try dsimp only at hSw); go_simp
        simp only [List.setIfInBounds_toArray, List.set_cons_zero, List.set_cons_succ]
        refine takeH (i := 23) 114 (pt y) rfl rfl (by kernel_rfl) (by kernel_rfl) (by kernel_rfl) (fun _ _ _ h => h) (by rfl) ?_ (by assumption) ?_
        · intro w hSw; (try dsimp only at hSw); go_simp
        simp only [List.setIfInBounds_toArray, List.set_cons_zero, List.set_cons_succ]
        refine takeH (i := 24) 115 (.slice (some ⟨g, 0, none⟩) 160 cp) rfl rfl (by kernel_rfl) (by kernel_rfl) (by kernel_rfl) (fun _ _ _ h => h) (by rfl) ?_ (by assumption) ?_
        · intro w hSw; (try dsimp only at hSw); go_simp
        simp only [List.setIfInBounds_toArray, List.set_cons_zero, List.set_cons_succ]
        refine takeH (i := 25) 116 (.int .i64 f) rfl rfl (by kernel_rfl) (by kernel_rfl) (by kernel_rfl) (fun _ _ _ h => h) (by rfl) ?_ (by assumption) ?_
        · intro w hSw; (try dsimp only at hSw); go_simp
        simp only [List.setIfInBounds_toArray, List.set_cons_zero, List.set_cons_succ]
        refine takeH (i := 26) 117 (.int .i64 (113 + f)) rfl rfl (by kernel_rfl) (by kernel_rfl) (by kernel_rfl) (fun _ _ _ h => h) (by rfl) ?_ (by assumption) ?_
        · intro w hSw; (try dsimp only at hSw); go_simp
        simp only [List.setIfInBounds_toArray, List.set_cons_zero, List.set_cons_succ]
        refine takeH (i := 27) 118 (.pointer (some ⟨g, 113 + f, none⟩)) rfl rfl (by kernel_rfl) (by kernel_rfl) (by kernel_rfl) (fun _ _ _ h => h) (by rfl) ?_ (by assumption) ?_
        · intro w hSw; (try dsimp only at hSw); go_simp; rw [if_pos (by omega)]; rw [show (113 + (f : Int)).toNat = 113 + f by omega]
        simp only [List.setIfInBounds_toArray, List.set_cons_zero, List.set_cons_succ]
        refine takeH (i := 28) 119 (.int .u64 0) rfl rfl (by kernel_rfl) (by kernel_rfl) (by kernel_rfl) (fun _ _ _ h => h) (by rfl) ?_ (by assumption) ?_
        · intro w hSw; (try dsimp only at hSw); go_simp
        simp only [List.setIfInBounds_toArray, List.set_cons_zero, List.set_cons_succ]
        refine wpAnyH_ready (rs := [20]) (by kernel_rfl) (by simp) ?_
        refine AllReadyH.cons rfl (fun K hK => ?_) AllReadyH.nil
        go_simp
        refine (tLoadS TT2 SN2 (by omega) (113 + (f : Int))).mono ?_
        rintro e w33 ⟨rfl, TT3, o33, SN3⟩
        rw [hgc]
        have MM3 := MM2.oth0 o33
        have HH3 := HH2.oth o33 (by simp)
        have NN3 := NN2.oth o33 (by simp)
        have RR3 := RR2.oth o33 (by simp)
        have UU3 := UU2.oth o33 (by simp)
        refine hK.out _ _ ⟨HH3.cell 5, NN3.cell 0, NN3.cell 1, seen160 SN3 hSl, seen113 SN3 hSl hS113, RR3.cell 0, UU3.cell 0, UU3.cell 1⟩ (fun hHeld => ?_)
        clear hK K
        try simp only [Act.put, List.setIfInBounds_toArray, List.set_cons_zero, List.set_cons_succ]
        refine takeH (i := 29) 120 (.bool true) rfl rfl (by kernel_rfl) (by kernel_rfl) (by kernel_rfl) (fun _ _ _ h => h) (by rfl) ?_ (by assumption) ?_
        · intro w hSw; (try dsimp only at hSw); go_simp
        simp only [List.setIfInBounds_toArray, List.set_cons_zero, List.set_cons_succ]
        refine takeH (i := 30) 121 (.bool true) rfl rfl (by kernel_rfl) (by kernel_rfl) (by kernel_rfl) (fun _ _ _ h => h) (by rfl) ?_ (by assumption) ?_
        · intro w hSw; (try dsimp only at hSw); go_simp
        simp only [List.setIfInBounds_toArray, List.set_cons_zero, List.set_cons_succ]
        refine takeH (i := 31) 122 (.bool true) rfl rfl (by kernel_rfl) (by kernel_rfl) (by kernel_rfl) (fun _ _ _ h => h) (by rfl) ?_ (by assumption) ?_
        · intro w hSw; (try dsimp only at hSw); go_simp
        simp only [List.setIfInBounds_toArray, List.set_cons_zero, List.set_cons_succ]
        refine takeH (i := 32) 123 (pt rb) rfl rfl (by kernel_rfl) (by kernel_rfl) (by kernel_rfl) (fun _ _ _ h => h) (by rfl) ?_ (by assumption) ?_
        · intro w hSw; (try dsimp only at hSw); go_simp
        simp only [List.setIfInBounds_toArray, List.set_cons_zero, List.set_cons_succ]
        refine takeH (i := 33) 124 (.int .i64 3) rfl rfl (by kernel_rfl) (by kernel_rfl) (by kernel_rfl) (fun _ _ _ h => h) (by rfl) ?_ (by assumption) ?_
        · intro w hSw; (try dsimp only at hSw); go_simp
        simp only [List.setIfInBounds_toArray, List.set_cons_zero, List.set_cons_succ]
        refine takeH (i := 34) 125 (.bool true) rfl rfl (by kernel_rfl) (by kernel_rfl) (by kernel_rfl) (fun _ _ _ h => h) (by rfl) ?_ (by assumption) ?_
        · intro w hSw; (try dsimp only at hSw); go_simp
        simp only [List.setIfInBounds_toArray, List.set_cons_zero, List.set_cons_succ]
        refine takeH (i := 35) 126 (.bool true) rfl rfl (by kernel_rfl) (by kernel_rfl) (by kernel_rfl) (fun _ _ _ h => h) (by rfl) ?_ (by assumption) ?_
        · intro w hSw; (try dsimp only at hSw); go_simp
        simp only [List.setIfInBounds_toArray, List.set_cons_zero, List.set_cons_succ]
        refine skipH (i := 36) 127 rfl rfl (by kernel_rfl) (by kernel_rfl) (by kernel_rfl) (fun _ _ _ h => h) (by rfl) (by assumption) ?_
        simp only [List.setIfInBounds_toArray, List.set_cons_zero, List.set_cons_succ]
        refine skipH (i := 37) 128 rfl rfl (by kernel_rfl) (by kernel_rfl) (by kernel_rfl) (fun _ _ _ h => h) (by rfl) (by assumption) ?_
        simp only [List.setIfInBounds_toArray, List.set_cons_zero, List.set_cons_succ]
        refine skipH (i := 38) 129 rfl rfl (by kernel_rfl) (by kernel_rfl) (by kernel_rfl) (fun _ _ _ h => h) (by rfl) (by assumption) ?_
        simp only [List.setIfInBounds_toArray, List.set_cons_zero, List.set_cons_succ]
        refine skipH (i := 39) 130 rfl rfl (by kernel_rfl) (by kernel_rfl) (by kernel_rfl) (fun _ _ _ h => h) (by rfl) (by assumption) ?_
        simp only [List.setIfInBounds_toArray, List.set_cons_zero, List.set_cons_succ]
        refine skipH (i := 40) 131 rfl rfl (by kernel_rfl) (by kernel_rfl) (by kernel_rfl) (fun _ _ _ h => h) (by rfl) (by assumption) ?_
        simp only [List.setIfInBounds_toArray, List.set_cons_zero, List.set_cons_succ]
        refine takeH (i := 41) 132 (.bool true) rfl rfl (by kernel_rfl) (by kernel_rfl) (by kernel_rfl) (fun _ _ _ h => h) (by rfl) ?_ (by assumption) ?_
        · intro w hSw; (try dsimp only at hSw); go_simp
        simp only [List.setIfInBounds_toArray, List.set_cons_zero, List.set_cons_succ]
        refine takeH (i := 42) 133 (.bool true) rfl rfl (by kernel_rfl) (by kernel_rfl) (by kernel_rfl) (fun _ _ _ h => h) (by rfl) ?_ (by assumption) ?_
        · intro w hSw; (try dsimp only at hSw); go_simp
        simp only [List.setIfInBounds_toArray, List.set_cons_zero, List.set_cons_succ]
        refine takeH (i := 43) 4 (.bool true) rfl rfl (by kernel_rfl) (by kernel_rfl) (by kernel_rfl) (fun _ _ _ h => h) (by rfl) ?_ (by assumption) ?_
        · intro w hSw; (try dsimp only at hSw); go_simp
        simp only [List.setIfInBounds_toArray, List.set_cons_zero, List.set_cons_succ]
        refine wpAnyH_done (by kernel_rfl) ?_ _
        refine NoPanic.normal ?_
        go_wp2
        go_ret
        exact ⟨rfl, TT3.bel⟩
theorem wChickenAborts (av : Option Addr) (ll cv' : Nat) (zl : Nat → Vl) (q : Op15) (w : World) (W : H.Wid w) (cv : CameV w av ll zl) (fit : q.Fit) :
    Calls Tryd.prog 6 #[.slice av ll cv', .agg q.cells] w fun e w' => e = .returned (.bool true) ∧ Below w.heap.size w w' := by
  have k := kd_lt q.ac 4 (by decide)
  have h : (reqP q).op = 1 ∨ (reqP q).op = 2 ∨ (reqP q).op = 3 := by unfold reqP; simp only; omega
  rcases h with h | h | h
  · exact waborts1 av ll cv' zl q w W cv fit h
  · exact waborts2 av ll cv' zl q w W cv fit h
  · exact waborts3 av ll cv' zl q w W cv fit h
end Go.Proofs.YtahafmglidlcnaaDoor
