/-
  The walk of StoplessKeeps.
-/
import Derived.Test.YtpcoldpphihfmaaGreatDoorVsh
import Derived.Test.YtpcoldpphihfmaaGreatDoorVmv
import Derived.Test.YtpcoldpphihfmaaGreatDoorW1
namespace Go.Proofs.YtpcoldpphihfmaaGreatDoor
set_option linter.unusedVariables false
set_option linter.unusedSimpArgs false
set_option maxRecDepth 100000
open Go.ChangeShapes Go.WideShapes Go.RowKit
open H.Plain (hw pS pC pN pM pG pT pL mv)

def rqW (f : Nat) (v : Vl) : Rq := ⟨2, 96, (f : Int), Vl.zero, v⟩
theorem kg_start {old : Nat → Vl} {q : Wq} {k : Nat} {s : St} {g : Nat → Int} {m : Mo} (O : Ob s g old) (M : Km g m) : KG old q k (.hd q) m s 24 := ⟨g, old, O, rfl, M, .inl ⟨rfl, rfl⟩, by simp only [Rk, rk]; split <;> omega⟩
set_option maxHeartbeats 4000000 in
theorem wStoplessKeeps (av : Option Addr) (ll cv' : Nat) (zl : Nat → Vl) (o : Op15) (ap : Option Addr) (lp cp' : Nat) (zp : Nat → Int) (w : World) (L : Laid w) (hc : ll ≤ cv') (hc2 : cv' ≤ maxLen) (cv : CameV w av ll zl) (fit : o.Fit) (ci : CameI w ap lp zp) :
    Calls Tryz.prog 4 #[.slice av ll cv', .agg o.cells, .slice ap lp cp'] w fun e w' => e = .returned (.bool true) ∧ Below w.heap.size w w' := by
  obtain ⟨cl, hcl⟩ : ∃ t, (kd o.ob 2 == 1) = t := ⟨_, rfl⟩
  have kf := kd_lt o.fd 3 (by decide)
  obtain ⟨f, hf⟩ : ∃ f : Nat, kd o.fd 3 = (f : Int) := ⟨(kd o.fd 3).toNat, by omega⟩
  rw [hf] at kf
  have hf3 : f < 3 := by omega
  have gv := good_valP o.y
  obtain ⟨v, hv⟩ : ∃ v, valP o.y = v := ⟨_, rfl⟩
  rw [hv] at gv
  obtain ⟨W, Bw⟩ := L
  have a0 : Below w.heap.size w (w.alloc (.cells o.cells 42)) := (Below.refl _ _).alloc (Nat.le_refl _) _
  have X0 : Blk w (w.alloc (.cells o.cells 42)) w.heap.size 42 o.cells := Blk.new (Nat.le_refl _) _ (by decide)
  go_enter Tryz.func4, Tryz.ntmps4
  unfold Op15.cells
  go_upto_region 1 with (fail)
  obtain ⟨ob, hob⟩ : ∃ q, w.heap.size = q := ⟨_, rfl⟩
  rw [hob] at X0 ⊢
  unfold Op15.cells at X0 a0
  generalize hwx : w.alloc _ = wa at a0 X0 ⊢
  clear hwx hob
  have La : Laid wa := ⟨W.on a0, Bw.on a0⟩
  go_upto_region 2 with (go_at_call 9; refine (cShown _ La).mono ?_; rintro e w1 ⟨rfl, hb1⟩; have X1 := X0.below hb1; have b1 := a0.trans (hb1.mono a0.size))
  have y1 : w1.cell? ⟨ob, 0, none⟩ = some (.int .i64 o.ob) := X1.cell 0
  have yl1 := X1.lt
  go_upto_region 4 with (first
    | (go_at_call 11; refine (cKind _ o.ob 2 fit.ob.1 fit.ob.2 (by decide)).mono ?_; rintro e wk ⟨rfl, hwk⟩; rw [hwk]; clear hwk wk)
    | (go_at_call 27; refine (cGoing w1 hc hc2 cl).mono ?_; rintro e w2 ⟨sa, ls, cs, zs, rfl, cis, hzs, hb2⟩; have X2 := X1.below hb2; have b2 := b1.trans (hb2.mono b1.size); obtain ⟨m, hm⟩ : ∃ m, min ll 3 = m := ⟨_, rfl⟩; obtain ⟨md, hmd⟩ : ∃ md : Int, (if cl = true then 7 else 6) = md := ⟨_, rfl⟩; rw [hm, hmd]))
  have a3 : Below w2.heap.size w2 ((w2.alloc (.cells #[.int .i64 3, .slice sa ls cs, .slice av m cv'] 25)).alloc (.cells #[.int .i64 md, .int .i64 0, .int .i64 0] 51)) := by go_grown
  have G3 : Blk w ((w2.alloc (.cells #[.int .i64 3, .slice sa ls cs, .slice av m cv'] 25)).alloc (.cells #[.int .i64 md, .int .i64 0, .int .i64 0] 51)) w2.heap.size 25 #[.int .i64 3, .slice sa ls cs, .slice av m cv'] := (Blk.new b2.size _ (by decide)).below (by go_grown)
  have E3 : Blk w ((w2.alloc (.cells #[.int .i64 3, .slice sa ls cs, .slice av m cv'] 25)).alloc (.cells #[.int .i64 md, .int .i64 0, .int .i64 0] 51)) (w2.heap.size + 1) 51 #[.int .i64 md, .int .i64 0, .int .i64 0] := (by have q := Blk.new (w0 := w) (w := w2.alloc (.cells #[.int .i64 3, .slice sa ls cs, .slice av m cv'] 25)) (T := 51) (by have := b2.size; simp; omega) #[.int .i64 md, .int .i64 0, .int .i64 0] (by decide); simpa using q)
  have X3 := X2.below a3
  have b3 := b2.trans (a3.mono b2.size)
  obtain ⟨gb, hgb⟩ : ∃ q, w2.heap.size = q := ⟨_, rfl⟩
  obtain ⟨eb, heb⟩ : ∃ q, w2.heap.size + 1 = q := ⟨_, rfl⟩
  rw [hgb] at G3
  rw [heb] at E3
  rw [heb, hgb]
  have cis3 := cis.on a3
  generalize (w2.alloc (.cells #[.int .i64 3, .slice sa ls cs, .slice av m cv'] 25)).alloc (.cells #[.int .i64 md, .int .i64 0, .int .i64 0] 51) = w3 at G3 E3 X3 b3 cis3 ⊢
  have W3 := W.on b3
  have B3 := Bw.on b3
  have cv3 : CameV w3 av m zl := (cv.on b3).min (by omega)
  have ci3 := ci.on b3
  clear hgb heb a3 X2 X1 X0 b1 b2 a0 hb1 hb2 La cis hm
  have g0 : w3.cell? ⟨gb, 0, none⟩ = some (.int .i64 3) := G3.cell 0
  have g1 : w3.cell? ⟨gb, 1, none⟩ = some (.slice sa ls cs) := G3.cell 1
  have g2 : w3.cell? ⟨gb, 2, none⟩ = some (.slice av m cv') := G3.cell 2
  have gl_ := G3.lt
  have ev0 : w3.cell? ⟨eb, 0, none⟩ = some (.int .i64 md) := E3.cell 0
  have ev1 : w3.cell? ⟨eb, 1, none⟩ = some (.int .i64 0) := E3.cell 1
  have ev2 : w3.cell? ⟨eb, 2, none⟩ = some (.int .i64 0) := E3.cell 2
  have evl := E3.lt
  have X3l := X3.lt
  obtain ⟨old, hold⟩ : ∃ q, fldP m zl = q := ⟨_, rfl⟩
  obtain ⟨stt, hstt⟩ : ∃ q, stP ls zs = q := ⟨_, rfl⟩
  have go : ∀ k, (old k).Good := fun k => hold ▸ good_fld _ _ k
  have gs : ∀ k, 0 ≤ stt k ∧ stt k < 5 := fun k => hstt ▸ st_rng _ _ k
  go_upto_region 5 with (go_at_call 10; refine (cLaid w3 W3 cis3 cv3 (by decide) (by decide)).mono ?_; rintro e w4 ⟨b, y, s, s2, rfl, h4, ews, M⟩; rw [show kd 3 6 = 3 by decide, hold, hstt] at M; have O := ob_gl M go gs; have er0 : w4.cell? ⟨eb, 0, none⟩ = some (.int .i64 md) := (h4.bel.cell evl).trans ev0; have er1 : w4.cell? ⟨eb, 1, none⟩ = some (.int .i64 0) := (h4.bel.cell evl).trans ev1; have er2 : w4.cell? ⟨eb, 2, none⟩ = some (.int .i64 0) := (h4.bel.cell evl).trans ev2; have erl : eb < w4.heap.size := Nat.lt_of_lt_of_le evl h4.bel.size)
  clear g0 g1 g2 gl_ G3 E3
  have hSl : s2.ws.length = 160 := by rw [← ews]; exact M.len
  have hW := fun (k : Nat) (hk : k < 3) => word_gl M ews hk
  obtain ⟨q, hq⟩ : ∃ q : Wq, q = ⟨rqW f v, !cl, false⟩ := ⟨_, rfl⟩
  have A : Abt q f := hq ▸ ⟨rfl, rfl, hf3, .inr (.inl rfl), good_zero, gv, rfl⟩
  have hq2 : q.r.op = 2 := by rw [hq]; rfl
  have hqy : q.r.y = v := by rw [hq]; rfl
  have okq : (Cw.hd q).Ok := hq ▸ ⟨.inr (.inl rfl), by simp [rqW], by simp [rqW], by simp [rqW], by simp only [rqW]; omega⟩
  have enew : Cw.new (rqW f v) ⟨md, 0, 0⟩ = .hd q := by rw [← hmd, hq]; cases cl <;> simp [Cw.new, rqW]
  have G0 : KG old q f (.hd q) ⟨0, 0, !cl, 0⟩ s 24 := kg_start O (km_start _ _)
  have X4 := X3.below h4.bel
  have y0 : w4.cell? ⟨ob, 1, none⟩ = some (.int .i64 o.fd) := X4.cell 1
  have y0l := X4.lt
  clear hcl
  go_upto_region 6 with (go_at_call 11; refine (cKind _ o.fd 3 fit.fd.1 fit.fd.2 (by decide)).mono ?_; rintro e wk ⟨rfl, hwk⟩; rw [hwk, hf]; clear hwk wk)
  clear er0 er1 er2 erl y0 y0l
  have hbd : Below w4.heap.size w4 w4.drew := (Below.refl _ _).drew
  have Hd := h4.below hbd
  have Cd := X4.below hbd
  refine wp_region_noPanic ?_
  refine wp_region_held_drew (S := fun w' => w'.cell? ⟨ob, 6, none⟩ = some (.int .i64 o.y.k) ∧ w'.cell? ⟨ob, 7, none⟩ = some (.int .i64 o.y.n) ∧ w'.cell? ⟨eb, 0, none⟩ = some (.int .i64 md) ∧ w'.cell? ⟨eb, 1, none⟩ = some (.int .i64 0) ∧ w'.cell? ⟨eb, 2, none⟩ = some (.int .i64 0)) (by kernel_rfl) ⟨Cd.cell 6, Cd.cell 7, (Hd.bel.cell evl).trans ev0, (Hd.bel.cell evl).trans ev1, (Hd.bel.cell evl).trans ev2⟩ (fun hHeld => ?_)
  refine takeH (i := 0) 39 (.int .i64 f) rfl rfl (by kernel_rfl) (by kernel_rfl) (by kernel_rfl) (fun _ _ _ h => h) (by rfl) ?_ (by assumption) ?_
  · intro w hSw; (try dsimp only at hSw); go_simp
  simp only [List.setIfInBounds_toArray, List.set_cons_zero, List.set_cons_succ]
  refine takeH (i := 1) 40 (.pointer (some ⟨ob, 6, none⟩)) rfl rfl (by kernel_rfl) (by kernel_rfl) (by kernel_rfl) (fun _ _ _ h => h) (by rfl) ?_ (by assumption) ?_
  · intro w hSw; (try dsimp only at hSw); go_simp
  simp only [List.setIfInBounds_toArray, List.set_cons_zero, List.set_cons_succ]
  refine takeH (i := 2) 41 (.agg #[.int .i64 o.y.k, .int .i64 o.y.n]) rfl rfl (by kernel_rfl) (by kernel_rfl) (by kernel_rfl) (fun _ _ _ h => h) (by rfl) ?_ (by assumption) ?_
  · intro w hSw; (try dsimp only at hSw); go_simp
  simp only [List.setIfInBounds_toArray, List.set_cons_zero, List.set_cons_succ]
  refine takeH (i := 5) 44 (.agg #[.int .i64 md, .int .i64 0, .int .i64 0]) rfl rfl (by kernel_rfl) (by kernel_rfl) (by kernel_rfl) (fun _ _ _ h => h) (by rfl) ?_ (by assumption) ?_
  · intro w hSw; (try dsimp only at hSw); go_simp
  simp only [List.setIfInBounds_toArray, List.set_cons_zero, List.set_cons_succ]
  refine wpAnyH_ready (rs := [3]) (by kernel_rfl) (by simp) ?_
  refine AllReadyH.cons rfl (fun K hK => ?_) AllReadyH.nil
  go_simp
  refine (cVal o.y fit.y _).mono ?_
  rintro e wyv ⟨rfl, hbv⟩
  rw [hv]
  have Hv := Hd.below hbv
  have Cv := Cd.below hbv
  refine hK.out _ _ ⟨Cv.cell 6, Cv.cell 7, (Hv.bel.cell evl).trans ev0, (Hv.bel.cell evl).trans ev1, (Hv.bel.cell evl).trans ev2⟩ (fun hHeld => ?_)
  clear hK K
  try simp only [Act.put, List.setIfInBounds_toArray, List.set_cons_zero, List.set_cons_succ]
  refine takeH (i := 4) 43 (.agg #[.int .i64 2, .int .i64 96, .int .i64 f, .int .i64 0, .int .i64 0, .int .i64 v.k, .int .i64 v.n]) rfl rfl (by kernel_rfl) (by kernel_rfl) (by kernel_rfl) (fun _ _ _ h => h) (by rfl) ?_ (by assumption) ?_
  · intro w hSw; (try dsimp only at hSw); go_simp
  simp only [List.setIfInBounds_toArray, List.set_cons_zero, List.set_cons_succ]
  refine wpAnyH_ready (rs := [6]) (by kernel_rfl) (by simp) ?_
  refine AllReadyH.cons rfl (fun K hK => ?_) AllReadyH.nil
  go_simp
  refine (cNewC (rqW f v) ⟨md, 0, 0⟩ _).mono ?_
  rintro e w5 ⟨p, rfl, Mp⟩
  rw [enew] at Mp
  have h5 := Hv.below Mp.bel
  have C5 := Cv.below Mp.bel
  have m5 : Cm w3 w5 p (.hd q) := Mp.cm Hv.bel.size okq B3
  clear Mp
  refine hK.out _ _ ⟨C5.cell 6, C5.cell 7, (h5.bel.cell evl).trans ev0, (h5.bel.cell evl).trans ev1, (h5.bel.cell evl).trans ev2⟩ (fun hHeld => ?_)
  clear hK K
  try simp only [Act.put, List.setIfInBounds_toArray, List.set_cons_zero, List.set_cons_succ]
  refine takeH (i := 7) 14 (pt p) rfl rfl (by kernel_rfl) (by kernel_rfl) (by kernel_rfl) (fun _ _ _ h => h) (by rfl) ?_ (by assumption) ?_
  · intro w hSw; (try dsimp only at hSw); go_simp
  simp only [List.setIfInBounds_toArray, List.set_cons_zero, List.set_cons_succ]
  refine wpAnyH_done (by kernel_rfl) ?_ _
  refine NoPanic.normal ?_
  go_upto_region 9 with (fail)
  have a6 : Below w5.heap.size w5 (w5.alloc (.cells #[.int .i64 0, .int .i64 0, .bool (!cl), .int .u64 0] 70)) := (Below.refl _ _).alloc (Nat.le_refl _) _
  have h6 := h5.below a6
  have Q6 : Blk w3 (w5.alloc (.cells #[.int .i64 0, .int .i64 0, .bool (!cl), .int .u64 0] 70)) w5.heap.size 70 (Mo.mk 0 0 (!cl) 0).cells := Blk.new h5.bel.size _ (by decide)
  have m6 := m5.below a6
  have C6 := C5.below a6
  go_wp2_with (fail)
  obtain ⟨qm, hqm⟩ : ∃ q, w5.heap.size = q := ⟨_, rfl⟩
  rw [hqm] at Q6 ⊢
  generalize w5.alloc (.cells #[.int .i64 0, .int .i64 0, .bool (!cl), .int .u64 0] 70) = w6 at h6 m6 Q6 C6 ⊢
  clear hqm h5 m5 a6 C5 Hd Cd Hv Cv hbv hbd X4
  go_loopw [16, 17] (fun dn i wr => ∃ j : Nat, j ≤ 160 ∧ i = .int .i64 j ∧ ∃ x m s r dv, KG old q f x m s r ∧ dn = .bool dv ∧ r ≤ 24 ∧ (130 ≤ j → r ≤ 154 - j) ∧ (131 ≤ j → dv = x.done) ∧ Two w3 wr b y s s2 (50 + j) ∧ Cm w3 wr p x ∧ Blk w3 wr qm 70 m.cells ∧ Blk w wr ob 42 o.cells) (fun _ i _ => 160 - (intOf i).toNat)
  case atStart => exact ⟨0, Nat.zero_le _, rfl, _, _, s, 24, false, G0, rfl, by omega, fun h => by omega, fun h => by omega, h6, m6, Q6, C6⟩
  case round =>
    obtain ⟨j, hj, rfl, x, m, s, r, dv, G, rfl, hr, hjr, hdv, k1, k2, k3, k4⟩ := hrel
    obtain ⟨cx, Bx'⟩ := k2.blk
    rcases Nat.lt_or_ge j 160 with hj9 | hj9
    · have hji : (j : Int) < 160 := by omega
      by_cases hA : j < lp
      · by_cases hB : j < 60
        · have ci1 := ci3.on k1.bel
          obtain ⟨vb, off, rfl, hvb, hz⟩ : ∃ b off, ap = some ⟨b, off, none⟩ ∧ b < wr.heap.size ∧ ∀ j, j < lp → wr.cell? ⟨b, off + j, none⟩ = some (.int .i64 (zp j)) ∧ -9223372036854775808 ≤ zp j ∧ zp j ≤ 9223372036854775807 := ci1.resolve_left (by omega)
          obtain ⟨dz, z0, z1⟩ := hz j hA
          obtain ⟨zj, hzj⟩ : ∃ zj, zp j = zj := ⟨_, rfl⟩
          rw [hzj] at dz z0 z1
          clear hz hzj ci1
          have hAi : (j : Int) < (lp : Int) := by omega
          have hBi : (j : Int) < 60 := by omega
          have kk := kd_lt zj 2 (by decide)
          obtain ⟨kz, hkz⟩ : ∃ kz, kd zj 2 = kz := ⟨_, rfl⟩
          rw [hkz] at kk
          have hCi : decide (130 ≤ (j : Int)) = false := by simp; omega
          have hC : j < 130 := by omega
          rcases (show kz = 0 ∨ kz = 1 by omega) with rfl | rfl
          · go_wp2_with (first
              | (go_at_call 19; refine (tC k1 k2 (by omega)).mono ?_; rintro e w6 ⟨rfl, k5, k6, o6⟩; have k7 := k3.oth o6 (by simpa using k3.ne Bx' (by decide)); have k8 := k4.oth o6 (by simpa using fun e => absurd (Bx'.old) (by rw [← e]; exact Nat.not_le_of_lt X3l)))
              | (go_at_call 11; refine (cKind _ zj 2 z0 z1 (by decide)).mono ?_; rintro e wk ⟨rfl, hwk⟩; rw [hwk, hkz]; clear hwk wk))
            go_roundw
            case rel => exact ⟨j + 1, by omega, by go_num, _, m, _, r - 1, _, G.sx A hq2, rfl, by omega, fun h => by omega, fun _ => rfl, k5, k6, k7, k8⟩
            case measure => simp [intOf]; omega
          · go_wp2_with (first
              | (go_at_call 29; refine (tMv k1 k3 G.ok (by omega)).mono ?_; rintro e w6 ⟨⟨dd, rfl⟩, k5, k6, o6⟩; have k7 := k2.oth1 o6 k3 (by decide) (Bx'.ne k3 (by decide)); have k8 := k4.oth o6 (by simpa using fun e => absurd (k3.old) (by rw [← e]; exact Nat.not_le_of_lt X3l)))
              | (go_at_call 11; refine (cKind _ zj 2 z0 z1 (by decide)).mono ?_; rintro e wk ⟨rfl, hwk⟩; rw [hwk, hkz]; clear hwk wk))
            go_roundw
            case rel => exact ⟨j + 1, by omega, by go_num, x, _, _, r, dv, G.sm A k1.rng1, rfl, by omega, fun h => by omega, fun h => by omega, k5, k7, k6, k8⟩
            case measure => simp [intOf]; omega
        · have hAi : (j : Int) < (lp : Int) := by omega
          have hBi : ¬ (j : Int) < 60 := by omega
          rcases Nat.lt_or_ge j 130 with hC | hC
          · have hCi : decide (130 ≤ (j : Int)) = false := by simp; omega
            go_wp2_with (first
              | (go_at_call 29; refine (tMv k1 k3 G.ok (by omega)).mono ?_; rintro e w6 ⟨⟨dd, rfl⟩, k5, k6, o6⟩; have k7 := k2.oth1 o6 k3 (by decide) (Bx'.ne k3 (by decide)); have k8 := k4.oth o6 (by simpa using fun e => absurd (k3.old) (by rw [← e]; exact Nat.not_le_of_lt X3l))))
            go_roundw
            case rel => exact ⟨j + 1, by omega, by go_num, x, _, _, r, dv, G.sm A k1.rng1, rfl, by omega, fun h => by omega, fun h => by omega, k5, k7, k6, k8⟩
            case measure => simp [intOf]; omega
          · have hCi : decide (130 ≤ (j : Int)) = true := by simp; omega
            go_wp2_with (first
              | (go_at_call 19; refine (tC k1 k2 (by omega)).mono ?_; rintro e w6 ⟨rfl, k5, k6, o6⟩; have k7 := k3.oth o6 (by simpa using k3.ne Bx' (by decide)); have k8 := k4.oth o6 (by simpa using fun e => absurd (Bx'.old) (by rw [← e]; exact Nat.not_le_of_lt X3l))))
            go_roundw
            case rel => exact ⟨j + 1, by omega, by go_num, _, m, _, r - 1, _, G.sx A hq2, rfl, by omega, fun h => by omega, fun _ => rfl, k5, k6, k7, k8⟩
            case measure => simp [intOf]; omega
      · have hAi : ¬ (j : Int) < (lp : Int) := by omega
        rcases Nat.lt_or_ge j 130 with hC | hC
        · have hCi : decide (130 ≤ (j : Int)) = false := by simp; omega
          go_wp2_with (first
            | (go_at_call 29; refine (tMv k1 k3 G.ok (by omega)).mono ?_; rintro e w6 ⟨⟨dd, rfl⟩, k5, k6, o6⟩; have k7 := k2.oth1 o6 k3 (by decide) (Bx'.ne k3 (by decide)); have k8 := k4.oth o6 (by simpa using fun e => absurd (k3.old) (by rw [← e]; exact Nat.not_le_of_lt X3l))))
          go_roundw
          case rel => exact ⟨j + 1, by omega, by go_num, x, _, _, r, dv, G.sm A k1.rng1, rfl, by omega, fun h => by omega, fun h => by omega, k5, k7, k6, k8⟩
          case measure => simp [intOf]; omega
        · have hCi : decide (130 ≤ (j : Int)) = true := by simp; omega
          go_wp2_with (first
            | (go_at_call 19; refine (tC k1 k2 (by omega)).mono ?_; rintro e w6 ⟨rfl, k5, k6, o6⟩; have k7 := k3.oth o6 (by simpa using k3.ne Bx' (by decide)); have k8 := k4.oth o6 (by simpa using fun e => absurd (Bx'.old) (by rw [← e]; exact Nat.not_le_of_lt X3l))))
          go_roundw
          case rel => exact ⟨j + 1, by omega, by go_num, _, m, _, r - 1, _, G.sx A hq2, rfl, by omega, fun h => by omega, fun _ => rfl, k5, k6, k7, k8⟩
          case measure => simp [intOf]; omega
    · have hji : ¬ (j : Int) < 160 := by omega
      obtain ⟨hxw, gfin⟩ := (show KG old q f x m s 0 from (by rw [show r = 0 by omega] at G; exact G)).fin
      obtain rfl : dv = true := by rw [hdv (by omega), hxw]; rfl
      have k1' : Two w3 wr b y s s2 (210 + 20 * 0) := k1.mono (by omega)
      rw [hqy] at gfin
      go_wp2_with (fail)
      go_loopw [18] (fun i wr => ∃ n : Nat, n ≤ 3 ∧ i = .int .i64 n ∧ ∃ s, (∃ g, Ob s g (updN old f v)) ∧ Two w3 wr b y s s2 (210 + 20 * n) ∧ Blk w wr ob 42 o.cells) (fun i _ => 3 - (intOf i).toNat)
      case atStart => exact ⟨0, Nat.zero_le _, rfl, s, gfin, k1', k4⟩
      case round =>
        clear k1 k2 k3 k4 gfin G k1' hdv hxw
        obtain ⟨n, hn', rfl, s, Ax, k1, k4⟩ := hrel
        rcases Nat.lt_or_ge n 3 with hn3 | hn3
        · have hni : (n : Int) < 3 := by omega
          obtain ⟨g, cp, seen⟩ := k1.seen
          have c0 := seen.c0
          rw [hSl] at c0
          obtain ⟨ix, hix⟩ : ∃ ix, 97 + n = ix := ⟨_, rfl⟩
          have i1 : 97 + (n : Int) = (ix : Int) := by omega
          have i5 : IntKind.i64.wrap (ix : Int) = (ix : Int) := by rw [IntKind.wrap_i64]; omega
          have hixi : (ix : Int) < 160 := by omega
          have cw := seen.at hSl ix (by omega)
          obtain ⟨wd, hwn⟩ : ∃ wd, gl 3 old stt (1 + n) = wd := ⟨_, rfl⟩
          have hwd : s2.word ((ix : Nat) : Int) = wd := (by rw [← i1, hW n hn3, hwn])
          rw [hwd] at cw
          have hU : U64 wd := by rw [← hwd]; exact k1.rng2.word _
          obtain ⟨u, hu'⟩ : ∃ u, old n = u := ⟨_, rfl⟩
          have hu : Vl.of wd = u := by rw [← hwn, of_gl hn3 (go n), hu']
          have hk : F.Plain.kind wd = u.k := congrArg Vl.k hu
          have hn : F.Plain.num wd = u.n := congrArg Vl.n hu
          have ly := seen.ly
          have lg := seen.lg
          go_upto_region 21 with (go_at_call 30; refine (F.rOf wd hU.1 hU.2 _).mono ?_; rintro e w7 ⟨rfl, hw7⟩; rw [hk, hn] at hw7 ⊢; have hb7 : Below wr.heap.size wr w7 := (by rw [hw7]; go_grown); have t7 := k1.below hb7; have C7 := k4.below hb7; clear hw7 hb7)
          have a8 : Below w7.heap.size w7 (w7.alloc (.cells #[.int .i64 u.k, .int .i64 u.n] 38)) := (Below.refl _ _).alloc (Nat.le_refl _) _
          have t8 := t7.below a8
          have C8 := C7.below a8
          have B8 : Blk w3 (w7.alloc (.cells #[.int .i64 u.k, .int .i64 u.n] 38)) w7.heap.size 38 #[.int .i64 u.k, .int .i64 u.n] := Blk.new t7.bel.size _ (by decide)
          obtain ⟨vb, hvb⟩ : ∃ vb, w7.heap.size = vb := ⟨_, rfl⟩
          rw [hvb] at B8 ⊢
          generalize w7.alloc (.cells #[.int .i64 u.k, .int .i64 u.n] 38) = w8 at t8 C8 B8 ⊢
          have nov : ob ≠ vb := fun e => absurd B8.old (by rw [← e]; exact Nat.not_le_of_lt X3l)
          clear c0 cw seen ly lg a8 t7 C7 hvb
          by_cases hnf : n = f
          · have q1 : ((n : Int) == (f : Int)) = true := by simp [hnf]
            have hnf' : Hid (n = f) := hnf
            clear hnf
            have o6 : w8.cell? ⟨ob, 6, none⟩ = some (.int .i64 o.y.k) := C8.cell 6
            have o7 : w8.cell? ⟨ob, 7, none⟩ = some (.int .i64 o.y.n) := C8.cell 7
            have o6l := C8.lt
            go_upto_region 23 with (go_at_call 28; refine (cVal o.y fit.y _).mono ?_; rintro e w9 ⟨rfl, hb9⟩; rw [hv]; have t9 := t8.below hb9; have C9 := C8.below hb9; have B9 := B8.below hb9; have e0 : w9.cell? ⟨vb, 0, none⟩ = some (.int .i64 u.k) := B9.cell 0; have e1 : w9.cell? ⟨vb, 1, none⟩ = some (.int .i64 u.n) := B9.cell 1; have ef0 := B9.free 0; have ef1 := B9.free 1)
            have K : Kept [vb] w9 ((w9.setCell ⟨vb, 0, none⟩ (.int .i64 v.k)).setCell ⟨vb, 1, none⟩ (.int .i64 v.n)) := (Kept.one ..).tr (Kept.one ..)
            have t8' := to_twoB t9 K B9
            have C8' := C9.oth (Oth.kept K) (by simpa using nov)
            have B8' : Blk w3 ((w9.setCell ⟨vb, 0, none⟩ (.int .i64 v.k)).setCell ⟨vb, 1, none⟩ (.int .i64 v.n)) vb 38 #[.int .i64 v.k, .int .i64 v.n] := (B9.set 0 _).set 1 _
            clear o6 o7 o6l e0 e1 ef0 ef1 t8 C8 B8
            have t8 := t8'
            have C8 := C8'
            have B8 := B8'
            clear t8' C8' B8'
            generalize (w9.setCell ⟨vb, 0, none⟩ (.int .i64 v.k)).setCell ⟨vb, 1, none⟩ (.int .i64 v.n) = w8 at t8 C8 B8 ⊢
            have hgn : updN old f v n = v := by simp [updN, hnf'.out]
            have ne1 := neVal (a := v) (b := v) rfl
            have hbd : Below w8.heap.size w8 w8.drew := (Below.refl _ _).drew
            have bd := B8.below hbd
            refine wp_region_noPanic ?_
            refine wp_region_held_drew (S := fun w' => w'.cell? ⟨vb, 0, none⟩ = some (.int .i64 v.k) ∧ w'.cell? ⟨vb, 1, none⟩ = some (.int .i64 v.n)) (by kernel_rfl) ⟨bd.cell 0, bd.cell 1⟩ (fun hHeld => ?_)
            refine takeH (i := 0) 107 (pt b) rfl rfl (by kernel_rfl) (by kernel_rfl) (by kernel_rfl) (fun _ _ _ h => h) (by rfl) ?_ (by assumption) ?_
            · intro w hSw; (try dsimp only at hSw); go_simp
            simp only [List.setIfInBounds_toArray, List.set_cons_zero, List.set_cons_succ]
            refine takeH (i := 1) 108 (.int .i64 n) rfl rfl (by kernel_rfl) (by kernel_rfl) (by kernel_rfl) (fun _ _ _ h => h) (by rfl) ?_ (by assumption) ?_
            · intro w hSw; (try dsimp only at hSw); go_simp
            simp only [List.setIfInBounds_toArray, List.set_cons_zero, List.set_cons_succ]
            refine takeH (i := 3) 110 (.agg #[.int .i64 v.k, .int .i64 v.n]) rfl rfl (by kernel_rfl) (by kernel_rfl) (by kernel_rfl) (fun _ _ _ h => h) (by rfl) ?_ (by assumption) ?_
            · intro w hSw; (try dsimp only at hSw); go_simp
            simp only [List.setIfInBounds_toArray, List.set_cons_zero, List.set_cons_succ]
            refine wpAnyH_ready (rs := [2]) (by kernel_rfl) (by simp) ?_
            refine AllReadyH.cons rfl (fun K hK => ?_) AllReadyH.nil
            go_simp
            refine (cNow (t8.below hbd) B3 Ax hn3 (by omega)).mono ?_
            rintro e w10 ⟨rfl, s', t10, A', o10⟩
            rw [hgn]
            have B10 := (B8.below hbd).oth o10 (by simp)
            have C10 := (C8.below hbd).oth o10 (by simp)
            refine hK.out _ _ ⟨B10.cell 0, B10.cell 1⟩ (fun hHeld => ?_)
            clear hK K
            try simp only [Act.put, List.setIfInBounds_toArray, List.set_cons_zero, List.set_cons_succ]
            refine takeH (i := 4) 111 (.bool false) rfl rfl (by kernel_rfl) (by kernel_rfl) (by kernel_rfl) (fun _ _ _ h => h) (by rfl) ?_ (by assumption) ?_
            · intro w hSw; (try dsimp only at hSw); go_simp
            simp only [List.setIfInBounds_toArray, List.set_cons_zero, List.set_cons_succ]
            refine wpAnyH_done (by kernel_rfl) ?_ _
            refine NoPanic.normal ?_
            go_wp2
            go_roundw
            case rel => exact ⟨n + 1, by omega, by go_num, s', A', t10.mono (by omega), C10⟩
            case measure => simp [intOf]; omega
          · have q1 : ((n : Int) == (f : Int)) = false := by simp; omega
            go_upto_region 23 with (fail)
            have hgn : updN old f v n = u := by rw [show updN old f v n = old n by simp [updN, hnf]]; exact hu'
            have ne1 := neVal (a := u) (b := u) rfl
            have hbd : Below w8.heap.size w8 w8.drew := (Below.refl _ _).drew
            have bd := B8.below hbd
            refine wp_region_noPanic ?_
            refine wp_region_held_drew (S := fun w' => w'.cell? ⟨vb, 0, none⟩ = some (.int .i64 u.k) ∧ w'.cell? ⟨vb, 1, none⟩ = some (.int .i64 u.n)) (by kernel_rfl) ⟨bd.cell 0, bd.cell 1⟩ (fun hHeld => ?_)
            refine takeH (i := 0) 107 (pt b) rfl rfl (by kernel_rfl) (by kernel_rfl) (by kernel_rfl) (fun _ _ _ h => h) (by rfl) ?_ (by assumption) ?_
            · intro w hSw; (try dsimp only at hSw); go_simp
            simp only [List.setIfInBounds_toArray, List.set_cons_zero, List.set_cons_succ]
            refine takeH (i := 1) 108 (.int .i64 n) rfl rfl (by kernel_rfl) (by kernel_rfl) (by kernel_rfl) (fun _ _ _ h => h) (by rfl) ?_ (by assumption) ?_
            · intro w hSw; (try dsimp only at hSw); go_simp
            simp only [List.setIfInBounds_toArray, List.set_cons_zero, List.set_cons_succ]
            refine takeH (i := 3) 110 (.agg #[.int .i64 u.k, .int .i64 u.n]) rfl rfl (by kernel_rfl) (by kernel_rfl) (by kernel_rfl) (fun _ _ _ h => h) (by rfl) ?_ (by assumption) ?_
            · intro w hSw; (try dsimp only at hSw); go_simp
            simp only [List.setIfInBounds_toArray, List.set_cons_zero, List.set_cons_succ]
            refine wpAnyH_ready (rs := [2]) (by kernel_rfl) (by simp) ?_
            refine AllReadyH.cons rfl (fun K hK => ?_) AllReadyH.nil
            go_simp
            refine (cNow (t8.below hbd) B3 Ax hn3 (by omega)).mono ?_
            rintro e w10 ⟨rfl, s', t10, A', o10⟩
            rw [hgn]
            have B10 := (B8.below hbd).oth o10 (by simp)
            have C10 := (C8.below hbd).oth o10 (by simp)
            refine hK.out _ _ ⟨B10.cell 0, B10.cell 1⟩ (fun hHeld => ?_)
            clear hK K
            try simp only [Act.put, List.setIfInBounds_toArray, List.set_cons_zero, List.set_cons_succ]
            refine takeH (i := 4) 111 (.bool false) rfl rfl (by kernel_rfl) (by kernel_rfl) (by kernel_rfl) (fun _ _ _ h => h) (by rfl) ?_ (by assumption) ?_
            · intro w hSw; (try dsimp only at hSw); go_simp
            simp only [List.setIfInBounds_toArray, List.set_cons_zero, List.set_cons_succ]
            refine wpAnyH_done (by kernel_rfl) ?_ _
            refine NoPanic.normal ?_
            go_wp2
            go_roundw
            case rel => exact ⟨n + 1, by omega, by go_num, s', A', t10.mono (by omega), C10⟩
            case measure => simp [intOf]; omega
        · have hni : ¬ (n : Int) < 3 := by omega
          have ht : s.t = 0 := by obtain ⟨g, Og⟩ := Ax; exact Og.m.t
          go_wp2_with (go_at_call 32; refine (hTraps k1.one).mono ?_; rintro e wt ⟨rfl, hwt⟩; rw [hwt, ht]; clear hwt wt)
          go_ret
          exact ⟨rfl, b3.trans (k1.bel.mono b3.size)⟩
end Go.Proofs.YtpcoldpphihfmaaGreatDoor
