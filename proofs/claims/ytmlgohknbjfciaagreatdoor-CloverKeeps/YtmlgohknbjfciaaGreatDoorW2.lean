/-
  The walk of the law on a write beside the one that copies.
-/
import Derived.Test.YtmlgohknbjfciaaGreatDoorCnw
import Derived.Test.YtmlgohknbjfciaaGreatDoorCo
namespace Go.Proofs.YtmlgohknbjfciaaGreatDoor
set_option linter.unusedVariables false
set_option linter.unusedSimpArgs false
set_option maxRecDepth 100000
open Go.ChangeShapes Go.WideShapes Go.RowKit
open H.Plain (hw pS pC pN pM pG pT pL mv)

theorem neVal {a b : Vl} (h : a = b) (w : World) : (binOp .neq 38 (.agg #[.int .i64 a.k, .int .i64 a.n]) (.agg #[.int .i64 b.k, .int .i64 b.n])).run Tryz.prog w = .ok (.bool false) w := by
  subst h
  obtain ⟨x0, x1⟩ := a
  have u3 := Tryz.underlying3
  have a3 := Tryz.isAgg3
  have z3 := Tryz.sizeOf3
  have hS : Tryz.prog.underlying 38 = some (.struct (Tryz.prog.fieldsOf 38)) := by kernel_rfl
  have hp : Tryz.prog.stoodInHeld 38 = false := by kernel_rfl
  rw [run_neq_struct, show (10000 : Nat) = 9999 + 1 from rfl, run_equalIn_agg w 9999 38 _ _ hS hp]
  simp only [Program.fieldsOf, Tryz.underlying38]
  go_simp
set_option maxHeartbeats 6000000 in
theorem wCloverKeeps (av : Option Addr) (ll cv' : Nat) (zl : Nat → Vl) (q : Op15) (ap : Option Addr) (lp cp' : Nat) (zp : Nat → Int) (w : World) (W : H.Wid w) (cv : CameV w av ll zl) (fit : q.Fit) (ci : CameI w ap lp zp) :
    Calls Tryz.prog 4 #[.slice av ll cv', .agg q.cells, .slice ap lp cp'] w fun e w' => e = .returned (.bool true) ∧ Below w.heap.size w w' := by
  obtain ⟨S, hS⟩ : ∃ S, laidS 4 2 (clP ll zl) = S := ⟨_, rfl⟩
  have hSl : S.ws.length = 160 := by rw [← hS]; exact laid_len _ _ _
  have M0 := laid_m6 4 2 (clP ll zl)
  obtain ⟨O0, hc0⟩ := claimed_ob ll zl
  rw [hS] at M0 O0
  have kf := kd_lt q.fd 3 (by decide)
  obtain ⟨f, hf⟩ : ∃ f : Nat, kd q.fd 3 = (f : Int) := ⟨(kd q.fd 3).toNat, by omega⟩
  rw [hf] at kf
  have hf3 : f < 3 := by omega
  obtain ⟨old, hold'⟩ : ∃ old : Nat → Int, (fun k => (clP ll zl k).w) = old := ⟨_, rfl⟩
  rw [hold'] at M0 O0 hc0
  have hc0' : ∀ k, cur old (fun _ => 0) k = old k := fun k => by rw [hc0 k, ← hold']
  have gv := good_valP q.y
  obtain ⟨v, hv⟩ : ∃ v, valP q.y = v := ⟨_, rfl⟩
  rw [hv] at gv
  have ok1 : (rqW f v).Ok := ⟨.inr (.inl rfl), by simp [rqW], by simp [rqW], by simp [rqW], by simp only [rqW]; omega, .inr (by simp [rqW])⟩
  have ok0 : (Cw.hd (rqW f v) false false).Ok := ⟨.inr (.inl rfl), by simp [rqW], by simp [rqW], by simp [rqW], by simp only [rqW]; omega⟩
  have okm : (Mo.mk 0 0).Ok := ⟨by simp, U64.zero⟩
  have G0 : KJ old v f (.hd (rqW f v) false false) ⟨0, 0⟩ S 0 := ⟨2, 15, ⟨okm, old, fun _ => 0, O0, .inl ⟨fun k _ => hc0' k, .inl ⟨rfl, rfl⟩⟩, Mo.far_le _ _⟩, fun h => by omega, fun h => by omega⟩
  have a0 : Below w.heap.size w (w.alloc (.cells q.cells 42)) := (Below.refl _ _).alloc (Nat.le_refl _) _
  have C0 : Blk w (w.alloc (.cells q.cells 42)) w.heap.size 42 q.cells := Blk.new (Nat.le_refl _) _ (by decide)
  go_enter Tryz.func4, Tryz.ntmps4
  unfold Op15.cells
  go_upto_region 1 with (fail)
  obtain ⟨ob, hob⟩ : ∃ ob, w.heap.size = ob := ⟨_, rfl⟩
  change Blk w (w.alloc (.cells q.cells 42)) w.heap.size 42 q.cells at C0
  rw [hob] at C0
  unfold Op15.cells at C0 a0
  rw [hob]
  have cv0 := cv.on a0
  generalize hw0 : w.alloc _ = wa at C0 a0 cv0 ⊢
  clear hw0
  go_upto_region 3 with (first
    | (go_at_call 7; refine (cShown _ (W.on a0)).mono ?_; rintro e w1 ⟨rfl, hb1'⟩; have hb1 := bel_trans a0 hb1'; have C1 := C0.below hb1'; have cv1 := cv0.on hb1'; clear hb1')
    | (go_at_call 24; refine (cClaimed w1 cv1).mono ?_; rintro e wc ⟨ao, cap, rfl, cvc, hbc⟩; have bc := bel_trans hb1 hbc; have Cc := C1.below hbc))
  have acb : Below wc.heap.size wc (wc.alloc (.cells #[.int .i64 4, .int .i64 2, .slice ao (min ll 3) cap] 24)) := (Below.refl _ _).alloc (Nat.le_refl _) _
  have cvb := cvc.on acb
  have bb := bel_trans bc acb
  have Cb := Cc.below acb
  go_upto_region 4 with (go_at_call 8; refine (cLaid _ (W.on bb) cvb (by decide) (by decide) (by decide) (by decide)).mono ?_; rintro e w2 ⟨b, y, rfl, h2⟩; rw [cl_fld, show kd 4 6 = 4 by decide, show kd 2 3 = 2 by decide, hS] at h2; have C2 := Cb.below h2.bel; have h3 := h2.lift bb W; clear h2)
  have d1 : w2.cell? ⟨ob, 1, none⟩ = some (.int .i64 q.fd) := C2.cell 1
  go_upto_region 5 with (go_at_call 9; refine (cKind _ q.fd 3 fit.fd.1 fit.fd.2 (by decide)).mono ?_; rintro e wk ⟨rfl, hwk⟩; rw [hwk, hf]; clear hwk wk)
  clear d1 acb cvb bb bc cvc hbc Cb Cc C1 C0 cv0 cv1
  have H := h3
  have C := C2
  clear h3 C2
  have hbd : Below w2.heap.size w2 w2.drew := (Below.refl _ _).drew
  have Hd := H.below hbd
  have Cd := C.below hbd
  refine wp_region_noPanic ?_
  refine wp_region_held_drew (S := fun w' => w'.cell? ⟨ob, 6, none⟩ = some (.int .i64 q.y.k) ∧ w'.cell? ⟨ob, 7, none⟩ = some (.int .i64 q.y.n)) (by kernel_rfl) ⟨Cd.cell 6, Cd.cell 7⟩ (fun hHeld => ?_)
  refine takeH (i := 1) 30 (.int .i64 f) rfl rfl (by kernel_rfl) (by kernel_rfl) (by kernel_rfl) (fun _ _ _ h => h) (by rfl) ?_ (by assumption) ?_
  · intro w hSw; (try dsimp only at hSw); go_simp
  simp only [List.setIfInBounds_toArray, List.set_cons_zero, List.set_cons_succ]
  refine takeH (i := 2) 31 (.pointer (some ⟨ob, 6, none⟩)) rfl rfl (by kernel_rfl) (by kernel_rfl) (by kernel_rfl) (fun _ _ _ h => h) (by rfl) ?_ (by assumption) ?_
  · intro w hSw; (try dsimp only at hSw); go_simp
  simp only [List.setIfInBounds_toArray, List.set_cons_zero, List.set_cons_succ]
  refine takeH (i := 3) 32 (.agg #[.int .i64 q.y.k, .int .i64 q.y.n]) rfl rfl (by kernel_rfl) (by kernel_rfl) (by kernel_rfl) (fun _ _ _ h => h) (by rfl) ?_ (by assumption) ?_
  · intro w hSw; (try dsimp only at hSw); go_simp
  simp only [List.setIfInBounds_toArray, List.set_cons_zero, List.set_cons_succ]
  refine takeH (i := 6) 35 (.agg #[.int .i64 6, .int .i64 0, .int .i64 9]) rfl rfl (by kernel_rfl) (by kernel_rfl) (by kernel_rfl) (fun _ _ _ h => h) (by rfl) ?_ (by assumption) ?_
  · intro w hSw; (try dsimp only at hSw); go_simp
  simp only [List.setIfInBounds_toArray, List.set_cons_zero, List.set_cons_succ]
  refine wpAnyH_ready (rs := [0]) (by kernel_rfl) (by simp) ?_
  refine AllReadyH.cons rfl (fun K hK => ?_) AllReadyH.nil
  go_simp
  refine (cAt _).mono ?_
  rintro e wyt ⟨rfl, hbt⟩
  have Ht := Hd.below hbt
  have Ct := Cd.below hbt
  refine hK.out _ _ ⟨Ct.cell 6, Ct.cell 7⟩ (fun hHeld => ?_)
  clear hK K
  try simp only [Act.put, List.setIfInBounds_toArray, List.set_cons_zero, List.set_cons_succ]
  refine wpAnyH_ready (rs := [4]) (by kernel_rfl) (by simp) ?_
  refine AllReadyH.cons rfl (fun K hK => ?_) AllReadyH.nil
  go_simp
  refine (cVal q.y fit.y _).mono ?_
  rintro e wyv ⟨rfl, hbv⟩
  rw [hv]
  have Hv := Ht.below hbv
  have Cv := Ct.below hbv
  refine hK.out _ _ ⟨Cv.cell 6, Cv.cell 7⟩ (fun hHeld => ?_)
  clear hK K
  try simp only [Act.put, List.setIfInBounds_toArray, List.set_cons_zero, List.set_cons_succ]
  refine takeH (i := 5) 34 (.agg #[.int .i64 2, .int .i64 96, .int .i64 f, .int .i64 0, .int .i64 0, .int .i64 v.k, .int .i64 v.n]) rfl rfl (by kernel_rfl) (by kernel_rfl) (by kernel_rfl) (fun _ _ _ h => h) (by rfl) ?_ (by assumption) ?_
  · intro w hSw; (try dsimp only at hSw); go_simp
  simp only [List.setIfInBounds_toArray, List.set_cons_zero, List.set_cons_succ]
  refine wpAnyH_ready (rs := [7]) (by kernel_rfl) (by simp) ?_
  refine AllReadyH.cons rfl (fun K hK => ?_) AllReadyH.nil
  go_simp
  refine (cNewC (rqW f v) ⟨6, 0, 9⟩ _ ok1 rfl).mono ?_
  rintro e wyn ⟨p', rfl, Mp⟩
  have Hn := Hv.below Mp.bel
  have Cn := Cv.below Mp.bel
  have mn : Cm w wyn p' (.hd (rqW f v) false false) := Mp.cm Hv.bel.size ok0
  clear Mp
  refine hK.out _ _ ⟨Cn.cell 6, Cn.cell 7⟩ (fun hHeld => ?_)
  clear hK K
  try simp only [Act.put, List.setIfInBounds_toArray, List.set_cons_zero, List.set_cons_succ]
  refine takeH (i := 8) 12 (pt p') rfl rfl (by kernel_rfl) (by kernel_rfl) (by kernel_rfl) (fun _ _ _ h => h) (by rfl) ?_ (by assumption) ?_
  · intro w hSw; (try dsimp only at hSw); go_simp
  simp only [List.setIfInBounds_toArray, List.set_cons_zero, List.set_cons_succ]
  refine wpAnyH_done (by kernel_rfl) ?_ _
  refine NoPanic.normal ?_
  go_upto_region 8 with (fail)
  clear H C Hd Cd Ht Ct Hv Cv hbt hbv hbd
  have h4 := Hn
  have C4 := Cn
  have m4 := mn
  clear Hn Cn mn
  obtain ⟨w4, hw4⟩ : ∃ w4, wyn = w4 := ⟨_, rfl⟩
  rw [hw4] at h4 C4 m4 ⊢
  clear hw4
  have a5 : Below w4.heap.size w4 (w4.alloc (.cells #[.int .i64 0, .int .u64 0] 72)) := (Below.refl _ _).alloc (Nat.le_refl _) _
  have h5 := h4.below a5
  have m5 := m4.below a5
  have C5 := C4.below a5
  have q5 : Blk w (w4.alloc (.cells #[.int .i64 0, .int .u64 0] 72)) w4.heap.size 72 #[.int .i64 0, .int .u64 0] := Blk.new h4.bel.size _ (by decide)
  go_wp2_with (fail)
  obtain ⟨qm, hq⟩ : ∃ q, w4.heap.size = q := ⟨_, rfl⟩
  rw [hq] at q5 ⊢
  generalize w4.alloc (.cells #[.int .i64 0, .int .u64 0] 72) = w5 at h5 m5 q5 C5 ⊢
  clear a5 hq h4 m4 C4
  go_loopw [12, 14, 15] (fun xp dn i wr => ∃ j : Nat, j ≤ 140 ∧ i = .int .i64 j ∧ ∃ p x m s dv, xp = pt p ∧ KJ old v f x m s j ∧ dn = .bool dv ∧ (111 ≤ j → dv = x.done) ∧ Two w wr b y s S (20 + j) ∧ Cm w wr p x ∧ Blk w wr qm 72 m.cells ∧ Blk w wr ob 42 q.cells) (fun _ _ i _ => 140 - (intOf i).toNat)
  case atStart => exact ⟨0, Nat.zero_le _, rfl, p', _, ⟨0, 0⟩, S, false, rfl, G0, rfl, fun h => by omega, h5, m5, q5, C5⟩
  case round =>
    clear h5 m5 q5 C5 G0
    obtain ⟨j, hj, rfl, p, x, m, s, dv, rfl, G, rfl, hdn, k1, k2, k3, k4⟩ := hrel
    rcases Nat.lt_or_ge j 140 with hj9 | hj9
    · have hji : (j : Int) < 140 := by omega
      obtain ⟨cx, Bx'⟩ := k2.blk
      by_cases hA : j < lp
      · by_cases hB : j < 60
        · have ci1 := ci.on k1.bel
          obtain ⟨vb, off, rfl, hvb, hz⟩ : ∃ b off, ap = some ⟨b, off, none⟩ ∧ b < wr.heap.size ∧ ∀ j, j < lp → wr.cell? ⟨b, off + j, none⟩ = some (.int .i64 (zp j)) ∧ -9223372036854775808 ≤ zp j ∧ zp j ≤ 9223372036854775807 := ci1.resolve_left (by omega)
          obtain ⟨dz, z0, z1⟩ := hz j hA
          obtain ⟨zj, hzj⟩ : ∃ zj, zp j = zj := ⟨_, rfl⟩
          rw [hzj] at dz z0 z1
          clear hz hzj ci1
          have hAi : (j : Int) < (lp : Int) := by omega
          have hBi : (j : Int) < 60 := by omega
          have kk := kd_lt zj 2 (by decide)
          obtain ⟨kz, hkz⟩ : ∃ kz, kd zj 2 = kz := ⟨_, rfl⟩
          rw [hkz] at kk
          have hCi : decide (110 ≤ (j : Int)) = false := by simp; omega
          have hC : j < 110 := by omega
          rcases (show kz = 0 ∨ kz = 1 by omega) with rfl | rfl
          · rcases G.w hf3 gv (.inl (by omega)) with ⟨hc3, G'⟩ | ⟨hdd, hc3, hj60, G'⟩
            · rcases hxd : (x.next s).done with _ | _
              · go_wp2_with (first
                  | (go_at_call 18; refine (tC k1 k2 (by omega)).mono ?_; rintro e w6 ⟨rfl, H, k6, o6⟩; rw [hxd]; have k7 := k3.oth o6 (by simpa using k3.ne Bx' (by decide)); have C := k4.oth o6 (by simpa using k4.ne Bx' (by decide)))
                  | (go_at_call 9; refine (cKind _ zj 2 z0 z1 (by decide)).mono ?_; rintro e wk ⟨rfl, hwk⟩; rw [hwk, hkz]; clear hwk wk))
                go_roundw
                case rel => exact ⟨j + 1, by omega, by go_num, p, _, m, _, false, rfl, G', rfl, fun _ => hxd.symm, H, k6, k7, C⟩
                case measure => simp [intOf]; omega
              · obtain ⟨oc, hoc⟩ : ∃ c, (x.next s).o.c = c := ⟨_, rfl⟩
                obtain ⟨ov, hov'⟩ : ∃ c, (x.next s).o.v = c := ⟨_, rfl⟩
                obtain ⟨oy, hoy⟩ : ∃ c, (x.next s).o.y = c := ⟨_, rfl⟩
                have hov : (x.next s).o.val = .agg #[.int .i64 oc, .int .i64 ov.k, .int .i64 ov.n, .bool oy] := by rw [← hoc, ← hov', ← hoy]; rfl
                rw [hoc] at hc3
                have t3 : (oc == 3) = false := by simpa using hc3
                have f0 := fOut0
                go_wp2_with (first
                  | (go_at_call 18; refine (tC k1 k2 (by omega)).mono ?_; rintro e w6 ⟨rfl, H, k6, o6⟩; rw [hxd]; have k7 := k3.oth o6 (by simpa using k3.ne Bx' (by decide)); have C := k4.oth o6 (by simpa using k4.ne Bx' (by decide)))
                  | (go_at_call 21; refine (cCResult k6).mono ?_; rintro e w7 ⟨rfl, hb7⟩; rw [hov]; have H7 := H.below hb7; have k67 := k6.below hb7; have k77 := k7.below hb7; have C7 := C.below hb7)
                  | (go_at_call 9; refine (cKind _ zj 2 z0 z1 (by decide)).mono ?_; rintro e wk ⟨rfl, hwk⟩; rw [hwk, hkz]; clear hwk wk))
                go_roundw
                case rel => exact ⟨j + 1, by omega, by go_num, p, _, m, _, true, rfl, G', rfl, fun _ => hxd.symm, H7, k67, k77, C7⟩
                case measure => simp [intOf]; omega
            · obtain ⟨ov, hov'⟩ : ∃ c, (x.next s).o.v = c := ⟨_, rfl⟩
              obtain ⟨oy, hoy⟩ : ∃ c, (x.next s).o.y = c := ⟨_, rfl⟩
              have hov : (x.next s).o.val = .agg #[.int .i64 3, .int .i64 ov.k, .int .i64 ov.n, .bool oy] := by rw [← hc3, ← hov', ← hoy]; rfl
              have f0 := fOut0
              go_upto_region 16 with (first
                | (go_at_call 18; refine (tC k1 k2 (by omega)).mono ?_; rintro e w6 ⟨rfl, H, k6, o6⟩; rw [hdd]; have k7 := k3.oth o6 (by simpa using k3.ne Bx' (by decide)); have C := k4.oth o6 (by simpa using k4.ne Bx' (by decide)))
                | (go_at_call 21; refine (cCResult k6).mono ?_; rintro e w7 ⟨rfl, hb7⟩; rw [hov]; have H7 := H.below hb7; have k67 := k6.below hb7; have k77 := k7.below hb7; have C7 := C.below hb7)
                | (go_at_call 9; refine (cKind _ zj 2 z0 z1 (by decide)).mono ?_; rintro e wk ⟨rfl, hwk⟩; rw [hwk, hkz]; clear hwk wk))
              clear H k6 k7 C k1 k3 k4
              have H := H7
              have C := C7
              have k3 := k77
              clear H7 C7 k77 k67
              have hbd : Below w7.heap.size w7 w7.drew := (Below.refl _ _).drew
              have Hd := H.below hbd
              have Cd := C.below hbd
              have k3d := k3.below hbd
              refine wp_region_noPanic ?_
              refine wp_region_held_drew (S := fun w' => w'.cell? ⟨ob, 6, none⟩ = some (.int .i64 q.y.k) ∧ w'.cell? ⟨ob, 7, none⟩ = some (.int .i64 q.y.n)) (by kernel_rfl) ⟨Cd.cell 6, Cd.cell 7⟩ (fun hHeld => ?_)
              refine takeH (i := 1) 83 (.int .i64 f) rfl rfl (by kernel_rfl) (by kernel_rfl) (by kernel_rfl) (fun _ _ _ h => h) (by rfl) ?_ (by assumption) ?_
              · intro w hSw; (try dsimp only at hSw); go_simp
              simp only [List.setIfInBounds_toArray, List.set_cons_zero, List.set_cons_succ]
              refine takeH (i := 2) 84 (.pointer (some ⟨ob, 6, none⟩)) rfl rfl (by kernel_rfl) (by kernel_rfl) (by kernel_rfl) (fun _ _ _ h => h) (by rfl) ?_ (by assumption) ?_
              · intro w hSw; (try dsimp only at hSw); go_simp
              simp only [List.setIfInBounds_toArray, List.set_cons_zero, List.set_cons_succ]
              refine takeH (i := 3) 85 (.agg #[.int .i64 q.y.k, .int .i64 q.y.n]) rfl rfl (by kernel_rfl) (by kernel_rfl) (by kernel_rfl) (fun _ _ _ h => h) (by rfl) ?_ (by assumption) ?_
              · intro w hSw; (try dsimp only at hSw); go_simp
              simp only [List.setIfInBounds_toArray, List.set_cons_zero, List.set_cons_succ]
              refine takeH (i := 6) 88 (.agg #[.int .i64 6, .int .i64 0, .int .i64 9]) rfl rfl (by kernel_rfl) (by kernel_rfl) (by kernel_rfl) (fun _ _ _ h => h) (by rfl) ?_ (by assumption) ?_
              · intro w hSw; (try dsimp only at hSw); go_simp
              simp only [List.setIfInBounds_toArray, List.set_cons_zero, List.set_cons_succ]
              refine wpAnyH_ready (rs := [0]) (by kernel_rfl) (by simp) ?_
              refine AllReadyH.cons rfl (fun K hK => ?_) AllReadyH.nil
              go_simp
              refine (cAt _).mono ?_
              rintro e wzt ⟨rfl, hbt⟩
              have Ht := Hd.below hbt
              have Ct := Cd.below hbt
              have k3t := k3d.below hbt
              refine hK.out _ _ ⟨Ct.cell 6, Ct.cell 7⟩ (fun hHeld => ?_)
              clear hK K
              try simp only [Act.put, List.setIfInBounds_toArray, List.set_cons_zero, List.set_cons_succ]
              refine wpAnyH_ready (rs := [4]) (by kernel_rfl) (by simp) ?_
              refine AllReadyH.cons rfl (fun K hK => ?_) AllReadyH.nil
              go_simp
              refine (cVal q.y fit.y _).mono ?_
              rintro e wzv ⟨rfl, hbv⟩
              rw [hv]
              have Hv := Ht.below hbv
              have Cv := Ct.below hbv
              have k3v := k3t.below hbv
              refine hK.out _ _ ⟨Cv.cell 6, Cv.cell 7⟩ (fun hHeld => ?_)
              clear hK K
              try simp only [Act.put, List.setIfInBounds_toArray, List.set_cons_zero, List.set_cons_succ]
              refine takeH (i := 5) 87 (.agg #[.int .i64 2, .int .i64 96, .int .i64 f, .int .i64 0, .int .i64 0, .int .i64 v.k, .int .i64 v.n]) rfl rfl (by kernel_rfl) (by kernel_rfl) (by kernel_rfl) (fun _ _ _ h => h) (by rfl) ?_ (by assumption) ?_
              · intro w hSw; (try dsimp only at hSw); go_simp
              simp only [List.setIfInBounds_toArray, List.set_cons_zero, List.set_cons_succ]
              refine wpAnyH_ready (rs := [7]) (by kernel_rfl) (by simp) ?_
              refine AllReadyH.cons rfl (fun K hK => ?_) AllReadyH.nil
              go_simp
              refine (cNewC (rqW f v) ⟨6, 0, 9⟩ _ ok1 rfl).mono ?_
              rintro e wzn ⟨p', rfl, Mp⟩
              have Hn := Hv.below Mp.bel
              have Cn := Cv.below Mp.bel
              have k3n := k3v.below Mp.bel
              have mn : Cm w wzn p' (.hd (rqW f v) false false) := Mp.cm Hv.bel.size ok0
              clear Mp
              refine hK.out _ _ ⟨Cn.cell 6, Cn.cell 7⟩ (fun hHeld => ?_)
              clear hK K
              try simp only [Act.put, List.setIfInBounds_toArray, List.set_cons_zero, List.set_cons_succ]
              refine takeH (i := 8) 12 (pt p') rfl rfl (by kernel_rfl) (by kernel_rfl) (by kernel_rfl) (fun _ _ _ h => h) (by rfl) ?_ (by assumption) ?_
              · intro w hSw; (try dsimp only at hSw); go_simp
              simp only [List.setIfInBounds_toArray, List.set_cons_zero, List.set_cons_succ]
              refine wpAnyH_done (by kernel_rfl) ?_ _
              refine NoPanic.normal ?_
              go_wp2
              go_roundw
              case rel => exact ⟨j + 1, by omega, by go_num, p', _, m, _, false, rfl, G', rfl, fun h => by omega, Hn.mono (by omega), mn, k3n, Cn⟩
              case measure => simp [intOf]; omega
          · go_wp2_with (first
              | (go_at_call 26; refine (tMv k1 k3 G.ok (by omega)).mono ?_; rintro e w6 ⟨⟨dd, rfl⟩, k5, k6, o6⟩; have k7 := k2.oth1 o6 k3 (by decide) (Bx'.ne k3 (by decide)); have k8 := k4.oth o6 (by simpa using k4.ne k3 (by decide)))
              | (go_at_call 9; refine (cKind _ zj 2 z0 z1 (by decide)).mono ?_; rintro e wk ⟨rfl, hwk⟩; rw [hwk, hkz]; clear hwk wk))
            go_roundw
            case rel => exact ⟨j + 1, by omega, by go_num, p, x, _, _, dv, rfl, G.mo hf3 k1.rng1 (by omega), rfl, fun h => by omega, k5, k7, k6, k8⟩
            case measure => simp [intOf]; omega
        · have hAi : (j : Int) < (lp : Int) := by omega
          have hBi : ¬ (j : Int) < 60 := by omega
          rcases Nat.lt_or_ge j 110 with hC | hC
          · have hCi : decide (110 ≤ (j : Int)) = false := by simp; omega
            go_wp2_with (first
              | (go_at_call 26; refine (tMv k1 k3 G.ok (by omega)).mono ?_; rintro e w6 ⟨⟨dd, rfl⟩, k5, k6, o6⟩; have k7 := k2.oth1 o6 k3 (by decide) (Bx'.ne k3 (by decide)); have k8 := k4.oth o6 (by simpa using k4.ne k3 (by decide))))
            go_roundw
            case rel => exact ⟨j + 1, by omega, by go_num, p, x, _, _, dv, rfl, G.mo hf3 k1.rng1 (by omega), rfl, fun h => by omega, k5, k7, k6, k8⟩
            case measure => simp [intOf]; omega
          · have hCi : decide (110 ≤ (j : Int)) = true := by simp; omega
            rcases G.w hf3 gv (.inr hC) with ⟨hc3, G'⟩ | ⟨hdd, hc3, hj60, G'⟩
            · rcases hxd : (x.next s).done with _ | _
              · go_wp2_with (first
                  | (go_at_call 18; refine (tC k1 k2 (by omega)).mono ?_; rintro e w6 ⟨rfl, H, k6, o6⟩; rw [hxd]; have k7 := k3.oth o6 (by simpa using k3.ne Bx' (by decide)); have C := k4.oth o6 (by simpa using k4.ne Bx' (by decide))))
                go_roundw
                case rel => exact ⟨j + 1, by omega, by go_num, p, _, m, _, false, rfl, G', rfl, fun _ => hxd.symm, H, k6, k7, C⟩
                case measure => simp [intOf]; omega
              · obtain ⟨oc, hoc⟩ : ∃ c, (x.next s).o.c = c := ⟨_, rfl⟩
                obtain ⟨ov, hov'⟩ : ∃ c, (x.next s).o.v = c := ⟨_, rfl⟩
                obtain ⟨oy, hoy⟩ : ∃ c, (x.next s).o.y = c := ⟨_, rfl⟩
                have hov : (x.next s).o.val = .agg #[.int .i64 oc, .int .i64 ov.k, .int .i64 ov.n, .bool oy] := by rw [← hoc, ← hov', ← hoy]; rfl
                rw [hoc] at hc3
                have t3 : (oc == 3) = false := by simpa using hc3
                have f0 := fOut0
                go_wp2_with (first
                  | (go_at_call 18; refine (tC k1 k2 (by omega)).mono ?_; rintro e w6 ⟨rfl, H, k6, o6⟩; rw [hxd]; have k7 := k3.oth o6 (by simpa using k3.ne Bx' (by decide)); have C := k4.oth o6 (by simpa using k4.ne Bx' (by decide)))
                  | (go_at_call 21; refine (cCResult k6).mono ?_; rintro e w7 ⟨rfl, hb7⟩; rw [hov]; have H7 := H.below hb7; have k67 := k6.below hb7; have k77 := k7.below hb7; have C7 := C.below hb7))
                go_roundw
                case rel => exact ⟨j + 1, by omega, by go_num, p, _, m, _, true, rfl, G', rfl, fun _ => hxd.symm, H7, k67, k77, C7⟩
                case measure => simp [intOf]; omega
            · omega
      · have hAi : ¬ (j : Int) < (lp : Int) := by omega
        rcases Nat.lt_or_ge j 110 with hC | hC
        · have hCi : decide (110 ≤ (j : Int)) = false := by simp; omega
          go_wp2_with (first
            | (go_at_call 26; refine (tMv k1 k3 G.ok (by omega)).mono ?_; rintro e w6 ⟨⟨dd, rfl⟩, k5, k6, o6⟩; have k7 := k2.oth1 o6 k3 (by decide) (Bx'.ne k3 (by decide)); have k8 := k4.oth o6 (by simpa using k4.ne k3 (by decide))))
          go_roundw
          case rel => exact ⟨j + 1, by omega, by go_num, p, x, _, _, dv, rfl, G.mo hf3 k1.rng1 (by omega), rfl, fun h => by omega, k5, k7, k6, k8⟩
          case measure => simp [intOf]; omega
        · have hCi : decide (110 ≤ (j : Int)) = true := by simp; omega
          rcases G.w hf3 gv (.inr hC) with ⟨hc3, G'⟩ | ⟨hdd, hc3, hj60, G'⟩
          · rcases hxd : (x.next s).done with _ | _
            · go_wp2_with (first
                | (go_at_call 18; refine (tC k1 k2 (by omega)).mono ?_; rintro e w6 ⟨rfl, H, k6, o6⟩; rw [hxd]; have k7 := k3.oth o6 (by simpa using k3.ne Bx' (by decide)); have C := k4.oth o6 (by simpa using k4.ne Bx' (by decide))))
              go_roundw
              case rel => exact ⟨j + 1, by omega, by go_num, p, _, m, _, false, rfl, G', rfl, fun _ => hxd.symm, H, k6, k7, C⟩
              case measure => simp [intOf]; omega
            · obtain ⟨oc, hoc⟩ : ∃ c, (x.next s).o.c = c := ⟨_, rfl⟩
              obtain ⟨ov, hov'⟩ : ∃ c, (x.next s).o.v = c := ⟨_, rfl⟩
              obtain ⟨oy, hoy⟩ : ∃ c, (x.next s).o.y = c := ⟨_, rfl⟩
              have hov : (x.next s).o.val = .agg #[.int .i64 oc, .int .i64 ov.k, .int .i64 ov.n, .bool oy] := by rw [← hoc, ← hov', ← hoy]; rfl
              rw [hoc] at hc3
              have t3 : (oc == 3) = false := by simpa using hc3
              have f0 := fOut0
              go_wp2_with (first
                | (go_at_call 18; refine (tC k1 k2 (by omega)).mono ?_; rintro e w6 ⟨rfl, H, k6, o6⟩; rw [hxd]; have k7 := k3.oth o6 (by simpa using k3.ne Bx' (by decide)); have C := k4.oth o6 (by simpa using k4.ne Bx' (by decide)))
                | (go_at_call 21; refine (cCResult k6).mono ?_; rintro e w7 ⟨rfl, hb7⟩; rw [hov]; have H7 := H.below hb7; have k67 := k6.below hb7; have k77 := k7.below hb7; have C7 := C.below hb7))
              go_roundw
              case rel => exact ⟨j + 1, by omega, by go_num, p, _, m, _, true, rfl, G', rfl, fun _ => hxd.symm, H7, k67, k77, C7⟩
              case measure => simp [intOf]; omega
          · omega
    · have hji : ¬ (j : Int) < 140 := by omega
      have G9 : KJ old v f x m s 140 := (by rw [show (140 : Nat) = j by omega]; exact G)
      obtain ⟨xd, A⟩ := G9.fin
      obtain rfl : dv = true := by rw [hdn (by omega), xd]
      have k1' : Two w wr b y s S (160 + 20 * 0) := k1.mono (by omega)
      go_wp2_with (fail)
      go_loopw [16] (fun i wr => ∃ n : Nat, n ≤ 3 ∧ i = .int .i64 n ∧ ∃ s, At3 s (updN old f v.w) ∧ Two w wr b y s S (160 + 20 * n) ∧ Blk w wr ob 42 q.cells) (fun i _ => 3 - (intOf i).toNat)
      case atStart => exact ⟨0, Nat.zero_le _, rfl, s, A, k1', k4⟩
      case round =>
        clear k1 k2 k3 k4 A G G9 k1' hdn
        obtain ⟨n, hn', rfl, s, A, k1, k4⟩ := hrel
        rcases Nat.lt_or_ge n 3 with hn3 | hn3
        · have hni : (n : Int) < 3 := by omega
          obtain ⟨g, cp, seen⟩ := k1.seen
          have c0 := seen.c0
          rw [hSl] at c0
          obtain ⟨ix, hix⟩ : ∃ ix, 97 + n = ix := ⟨_, rfl⟩
          have i1 : 97 + (n : Int) = (ix : Int) := by omega
          have i5 : IntKind.i64.wrap (ix : Int) = (ix : Int) := by rw [IntKind.wrap_i64]; omega
          have hixi : (ix : Int) < 160 := by omega
          have cw := seen.at hSl ix (by omega)
          have hwd : S.word ((ix : Nat) : Int) = old n := (by rw [← i1]; exact M0.fa n hn3)
          rw [hwd] at cw
          have hU : U64 (old n) := by rw [← hold']; exact Vl.u64 _
          obtain ⟨wd, hwn⟩ : ∃ wd, old n = wd := ⟨_, rfl⟩
          rw [hwn] at cw hU
          obtain ⟨u, hu⟩ : ∃ u, Vl.of wd = u := ⟨_, rfl⟩
          have hk : F.Plain.kind wd = u.k := congrArg Vl.k hu
          have hn : F.Plain.num wd = u.n := congrArg Vl.n hu
          have ly := seen.ly
          have lg := seen.lg
          go_upto_region 25 with (go_at_call 27; refine (F.rOf wd hU.1 hU.2 _).mono ?_; rintro e w7 ⟨rfl, hw7⟩; rw [hk, hn] at hw7 ⊢; have hb7 : Below wr.heap.size wr w7 := (by rw [hw7]; go_grown); have t7 := k1.below hb7; have C7 := k4.below hb7; clear hw7 hb7)
          have a8 : Below w7.heap.size w7 (w7.alloc (.cells #[.int .i64 u.k, .int .i64 u.n] 38)) := (Below.refl _ _).alloc (Nat.le_refl _) _
          have t8 := t7.below a8
          have C8 := C7.below a8
          have B8 : Blk w (w7.alloc (.cells #[.int .i64 u.k, .int .i64 u.n] 38)) w7.heap.size 38 #[.int .i64 u.k, .int .i64 u.n] := Blk.new t7.bel.size _ (by decide)
          obtain ⟨vb, hvb⟩ : ∃ vb, w7.heap.size = vb := ⟨_, rfl⟩
          rw [hvb] at B8 ⊢
          generalize w7.alloc (.cells #[.int .i64 u.k, .int .i64 u.n] 38) = w8 at t8 C8 B8 ⊢
          clear c0 cw seen ly lg a8 t7 C7 hvb
          by_cases hnf : n = f
          · have q1 : ((n : Int) == (f : Int)) = true := by simp [hnf]
            have hnf' : Hid (n = f) := hnf
            clear hnf
            have o6 : w8.cell? ⟨ob, 6, none⟩ = some (.int .i64 q.y.k) := C8.cell 6
            have o7 : w8.cell? ⟨ob, 7, none⟩ = some (.int .i64 q.y.n) := C8.cell 7
            go_upto_region 27 with (go_at_call 25; refine (cVal q.y fit.y _).mono ?_; rintro e w9 ⟨rfl, hb9⟩; rw [hv]; have t9 := t8.below hb9; have C9 := C8.below hb9; have B9 := B8.below hb9; have e0 : w9.cell? ⟨vb, 0, none⟩ = some (.int .i64 u.k) := B9.cell 0; have e1 : w9.cell? ⟨vb, 1, none⟩ = some (.int .i64 u.n) := B9.cell 1; have ef0 := B9.free 0; have ef1 := B9.free 1)
            have K : Kept [vb] w9 ((w9.setCell ⟨vb, 0, none⟩ (.int .i64 v.k)).setCell ⟨vb, 1, none⟩ (.int .i64 v.n)) := (Kept.setCell [vb] _ _ _ (by simp)).trans (Kept.setCell [vb] _ _ _ (by simp)) (fun _ h => .inl h)
            have t8' := to_twoB t9 K B9
            have C8' := C9.oth (Oth.kept K) (by simpa using C9.ne B9 (by decide))
            have B8' : Blk w ((w9.setCell ⟨vb, 0, none⟩ (.int .i64 v.k)).setCell ⟨vb, 1, none⟩ (.int .i64 v.n)) vb 38 #[.int .i64 v.k, .int .i64 v.n] := (B9.set 0 _).set 1 _
            clear o6 o7 e0 e1 ef0 ef1 t8 C8 B8
            have t8 := t8'
            have C8 := C8'
            have B8 := B8'
            clear t8' C8' B8'
            generalize (w9.setCell ⟨vb, 0, none⟩ (.int .i64 v.k)).setCell ⟨vb, 1, none⟩ (.int .i64 v.n) = w8 at t8 C8 B8 ⊢
            have hgn : Vl.of (updN old f v.w n) = v := by rw [show updN old f v.w n = v.w by simp [updN, hnf'.out]]; exact gv.of
            have ne1 := neVal (a := v) (b := v) rfl
            have hbd : Below w8.heap.size w8 w8.drew := (Below.refl _ _).drew
            have bd := B8.below hbd
            refine wp_region_noPanic ?_
            refine wp_region_held_drew (S := fun w' => w'.cell? ⟨vb, 0, none⟩ = some (.int .i64 v.k) ∧ w'.cell? ⟨vb, 1, none⟩ = some (.int .i64 v.n)) (by kernel_rfl) ⟨bd.cell 0, bd.cell 1⟩ (fun hHeld => ?_)
            refine takeH (i := 0) 113 (pt b) rfl rfl (by kernel_rfl) (by kernel_rfl) (by kernel_rfl) (fun _ _ _ h => h) (by rfl) ?_ (by assumption) ?_
            · intro w hSw; (try dsimp only at hSw); go_simp
            simp only [List.setIfInBounds_toArray, List.set_cons_zero, List.set_cons_succ]
            refine takeH (i := 1) 114 (.int .i64 n) rfl rfl (by kernel_rfl) (by kernel_rfl) (by kernel_rfl) (fun _ _ _ h => h) (by rfl) ?_ (by assumption) ?_
            · intro w hSw; (try dsimp only at hSw); go_simp
            simp only [List.setIfInBounds_toArray, List.set_cons_zero, List.set_cons_succ]
            refine takeH (i := 3) 116 (.agg #[.int .i64 v.k, .int .i64 v.n]) rfl rfl (by kernel_rfl) (by kernel_rfl) (by kernel_rfl) (fun _ _ _ h => h) (by rfl) ?_ (by assumption) ?_
            · intro w hSw; (try dsimp only at hSw); go_simp
            simp only [List.setIfInBounds_toArray, List.set_cons_zero, List.set_cons_succ]
            refine wpAnyH_ready (rs := [2]) (by kernel_rfl) (by simp) ?_
            refine AllReadyH.cons rfl (fun K hK => ?_) AllReadyH.nil
            go_simp
            refine (cNow (t8.below hbd) A hn3 (by omega)).mono ?_
            rintro e w10 ⟨rfl, s', t10, A', o10⟩
            rw [hgn]
            have B10 := (B8.below hbd).oth o10 (by simp)
            have C10 := (C8.below hbd).oth o10 (by simp)
            refine hK.out _ _ ⟨B10.cell 0, B10.cell 1⟩ (fun hHeld => ?_)
            clear hK K
            try simp only [Act.put, List.setIfInBounds_toArray, List.set_cons_zero, List.set_cons_succ]
            refine takeH (i := 4) 117 (.bool false) rfl rfl (by kernel_rfl) (by kernel_rfl) (by kernel_rfl) (fun _ _ _ h => h) (by rfl) ?_ (by assumption) ?_
            · intro w hSw; (try dsimp only at hSw); go_simp
            simp only [List.setIfInBounds_toArray, List.set_cons_zero, List.set_cons_succ]
            refine wpAnyH_done (by kernel_rfl) ?_ _
            refine NoPanic.normal ?_
            go_wp2
            go_roundw
            case rel => exact ⟨n + 1, by omega, by go_num, s', A', t10.mono (by omega), C10⟩
            case measure => simp [intOf]; omega
          · have q1 : ((n : Int) == (f : Int)) = false := by simp; omega
            go_upto_region 27 with (fail)
            have hgn : Vl.of (updN old f v.w n) = u := by rw [show updN old f v.w n = old n by simp [updN, hnf], hwn]; exact hu
            have ne1 := neVal (a := u) (b := u) rfl
            have hbd : Below w8.heap.size w8 w8.drew := (Below.refl _ _).drew
            have bd := B8.below hbd
            refine wp_region_noPanic ?_
            refine wp_region_held_drew (S := fun w' => w'.cell? ⟨vb, 0, none⟩ = some (.int .i64 u.k) ∧ w'.cell? ⟨vb, 1, none⟩ = some (.int .i64 u.n)) (by kernel_rfl) ⟨bd.cell 0, bd.cell 1⟩ (fun hHeld => ?_)
            refine takeH (i := 0) 113 (pt b) rfl rfl (by kernel_rfl) (by kernel_rfl) (by kernel_rfl) (fun _ _ _ h => h) (by rfl) ?_ (by assumption) ?_
            · intro w hSw; (try dsimp only at hSw); go_simp
            simp only [List.setIfInBounds_toArray, List.set_cons_zero, List.set_cons_succ]
            refine takeH (i := 1) 114 (.int .i64 n) rfl rfl (by kernel_rfl) (by kernel_rfl) (by kernel_rfl) (fun _ _ _ h => h) (by rfl) ?_ (by assumption) ?_
            · intro w hSw; (try dsimp only at hSw); go_simp
            simp only [List.setIfInBounds_toArray, List.set_cons_zero, List.set_cons_succ]
            refine takeH (i := 3) 116 (.agg #[.int .i64 u.k, .int .i64 u.n]) rfl rfl (by kernel_rfl) (by kernel_rfl) (by kernel_rfl) (fun _ _ _ h => h) (by rfl) ?_ (by assumption) ?_
            · intro w hSw; (try dsimp only at hSw); go_simp
            simp only [List.setIfInBounds_toArray, List.set_cons_zero, List.set_cons_succ]
            refine wpAnyH_ready (rs := [2]) (by kernel_rfl) (by simp) ?_
            refine AllReadyH.cons rfl (fun K hK => ?_) AllReadyH.nil
            go_simp
            refine (cNow (t8.below hbd) A hn3 (by omega)).mono ?_
            rintro e w10 ⟨rfl, s', t10, A', o10⟩
            rw [hgn]
            have B10 := (B8.below hbd).oth o10 (by simp)
            have C10 := (C8.below hbd).oth o10 (by simp)
            refine hK.out _ _ ⟨B10.cell 0, B10.cell 1⟩ (fun hHeld => ?_)
            clear hK K
            try simp only [Act.put, List.setIfInBounds_toArray, List.set_cons_zero, List.set_cons_succ]
            refine takeH (i := 4) 117 (.bool false) rfl rfl (by kernel_rfl) (by kernel_rfl) (by kernel_rfl) (fun _ _ _ h => h) (by rfl) ?_ (by assumption) ?_
            · intro w hSw; (try dsimp only at hSw); go_simp
            simp only [List.setIfInBounds_toArray, List.set_cons_zero, List.set_cons_succ]
            refine wpAnyH_done (by kernel_rfl) ?_ _
            refine NoPanic.normal ?_
            go_wp2
            go_roundw
            case rel => exact ⟨n + 1, by omega, by go_num, s', A', t10.mono (by omega), C10⟩
            case measure => simp [intOf]; omega
        · have hni : ¬ (n : Int) < 3 := by omega
          have ht : s.t = 0 := A.t
          go_wp2_with (go_at_call 29; refine (hTraps k1.one).mono ?_; rintro e wt ⟨rfl, hwt⟩; rw [hwt, ht]; clear hwt wt)
          go_ret
          exact ⟨rfl, k1.bel⟩
end Go.Proofs.YtmlgohknbjfciaaGreatDoor
