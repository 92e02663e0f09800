/-
  The walk of StoplessReads.
-/
import Derived.Test.YtpcoldpphihfmaaGreatDoorVsh
import Derived.Test.YtpcoldpphihfmaaGreatDoorVmv
import Derived.Test.YtpcoldpphihfmaaGreatDoorVk
namespace Go.Proofs.YtpcoldpphihfmaaGreatDoor
set_option linter.unusedVariables false
set_option linter.unusedSimpArgs false
set_option maxRecDepth 100000
open Go.ChangeShapes Go.WideShapes Go.RowKit
open H.Plain (hw pS pC pN pM pG pT pL mv)

section
theorem km_start (g : Nat → Int) (wd : Bool) : Km g ⟨0, 0, wd, 0⟩ := ⟨⟨by simp, by simp, U64.zero⟩, fun _ h => by simp at h, fun _ h => by simp at h, fun _ h => by simp at h, fun _ h => by simp at h, fun _ h => by simp at h⟩
/-- what a field's word is read as, in the reference's memory -/
theorem of_gl {t : Int} {l : Nat → Vl} {st : Nat → Int} {k : Nat} (hk : k < 3) (hg : (l k).Good) : Vl.of (gl t l st (1 + k)) = l k := by
  rw [((gl_at t l st).2.2.2.2 k hk).1]
  split
  · exact (good_fz hg).2.2
  · exact hg.of
theorem word_gl {s s2 : St} {g : Nat → Int} (M : MW s g) (e : s.ws = s2.ws) {k : Nat} (hk : k < 3) : s2.word (97 + (k : Int)) = g (1 + k) := by
  have := M.at_ (1 + k) (by omega)
  rw [← eO] at this
  rw [← this]
  simp only [St.word, e]
theorem neVal {a b : Vl} (h : a = b) (w : World) : (binOp .neq 38 (.agg #[.int .i64 a.k, .int .i64 a.n]) (.agg #[.int .i64 b.k, .int .i64 b.n])).run Tryz.prog w = .ok (.bool false) w := by
  subst h
  obtain ⟨x0, x1⟩ := a
  have u3 := Tryz.underlying3
  have a3 := Tryz.isAgg3
  have z3 := Tryz.sizeOf3
  have hS : Tryz.prog.underlying 38 = some (.struct (Tryz.prog.fieldsOf 38)) := by kernel_rfl
  have hp : Tryz.prog.stoodInHeld 38 = false := by kernel_rfl
  rw [run_neq_struct, show (10000 : Nat) = 9999 + 1 from rfl, run_equalIn_agg w 9999 38 _ _ hS hp]
  simp only [Program.fieldsOf, Tryz.underlying38]
  go_simp
end
theorem RG.fin' {old : Nat → Vl} {q : Wq} {k r : Nat} {x : Cw} {m : Mo} {s : St} (G : RG old q k x m s r) (h : x.done = true) : ∃ b, x = .fin b ⟨0, old k, false⟩ := by
  obtain ⟨g, O, K, M, h' | h', hr⟩ := G.or_
  · rw [h] at h'; cases h'
  · exact h'
set_option maxHeartbeats 4000000 in
theorem wStoplessReads (av : Option Addr) (ll cv' : Nat) (zl : Nat → Vl) (x0 x1 : Int) (ap : Option Addr) (lp cp' : Nat) (zp : Nat → Int) (h10 : -9223372036854775808 ≤ x0) (h11 : x0 ≤ 9223372036854775807) (h20 : -9223372036854775808 ≤ x1) (h21 : x1 ≤ 9223372036854775807) (w : World) (L : Laid w) (hc : ll ≤ cv') (hc2 : cv' ≤ maxLen) (cv : CameV w av ll zl) (ci : CameI w ap lp zp) :
    Calls Tryz.prog 5 #[.slice av ll cv', .agg #[.int .i64 x0, .int .i64 x1], .slice ap lp cp'] w fun e w' => e = .returned (.bool true) ∧ Below w.heap.size w w' := by
  obtain ⟨cl, hcl⟩ : ∃ t, (kd x1 2 == 1) = t := ⟨_, rfl⟩
  have kf := kd_lt x0 3 (by decide)
  obtain ⟨f, hf⟩ : ∃ f : Nat, kd x0 3 = (f : Int) := ⟨(kd x0 3).toNat, by omega⟩
  rw [hf] at kf
  have hf3 : f < 3 := by omega
  obtain ⟨W, Bw⟩ := L
  have a0 : Below w.heap.size w (w.alloc (.cells #[.int .i64 x0, .int .i64 x1] 79)) := (Below.refl _ _).alloc (Nat.le_refl _) _
  have X0 : Blk w (w.alloc (.cells #[.int .i64 x0, .int .i64 x1] 79)) w.heap.size 79 #[.int .i64 x0, .int .i64 x1] := Blk.new (Nat.le_refl _) _ (by decide)
  go_enter Tryz.func5, Tryz.ntmps5
  go_upto_region 1 with (fail)
  obtain ⟨ob, hob⟩ : ∃ q, w.heap.size = q := ⟨_, rfl⟩
  rw [hob] at X0 ⊢
  generalize hwx : w.alloc _ = wa at a0 X0 ⊢
  clear hwx hob
  have La : Laid wa := ⟨W.on a0, Bw.on a0⟩
  go_upto_region 2 with (go_at_call 9; refine (cShown _ La).mono ?_; rintro e w1 ⟨rfl, hb1⟩; have X1 := X0.below hb1; have b1 := a0.trans (hb1.mono a0.size))
  have y1 : w1.cell? ⟨ob, 1, none⟩ = some (.int .i64 x1) := X1.cell 1
  have yl1 := X1.lt
  go_upto_region 4 with (first
    | (go_at_call 11; refine (cKind _ x1 2 h20 h21 (by decide)).mono ?_; rintro e wk ⟨rfl, hwk⟩; rw [hwk]; clear hwk wk)
    | (go_at_call 27; refine (cGoing w1 hc hc2 cl).mono ?_; rintro e w2 ⟨sa, ls, cs, zs, rfl, cis, hzs, hb2⟩; have X2 := X1.below hb2; have b2 := b1.trans (hb2.mono b1.size); obtain ⟨m, hm⟩ : ∃ m, min ll 3 = m := ⟨_, rfl⟩; obtain ⟨md, hmd⟩ : ∃ md : Int, (if cl = true then 7 else 6) = md := ⟨_, rfl⟩; rw [hm, hmd]))
  have a3 : Below w2.heap.size w2 ((w2.alloc (.cells #[.int .i64 3, .slice sa ls cs, .slice av m cv'] 25)).alloc (.cells #[.int .i64 md, .int .i64 0, .int .i64 0] 51)) := by go_grown
  have G3 : Blk w ((w2.alloc (.cells #[.int .i64 3, .slice sa ls cs, .slice av m cv'] 25)).alloc (.cells #[.int .i64 md, .int .i64 0, .int .i64 0] 51)) w2.heap.size 25 #[.int .i64 3, .slice sa ls cs, .slice av m cv'] := (Blk.new b2.size _ (by decide)).below (by go_grown)
  have E3 : Blk w ((w2.alloc (.cells #[.int .i64 3, .slice sa ls cs, .slice av m cv'] 25)).alloc (.cells #[.int .i64 md, .int .i64 0, .int .i64 0] 51)) (w2.heap.size + 1) 51 #[.int .i64 md, .int .i64 0, .int .i64 0] := (by have q := Blk.new (w0 := w) (w := w2.alloc (.cells #[.int .i64 3, .slice sa ls cs, .slice av m cv'] 25)) (T := 51) (by have := b2.size; simp; omega) #[.int .i64 md, .int .i64 0, .int .i64 0] (by decide); simpa using q)
  have X3 := X2.below a3
  have b3 := b2.trans (a3.mono b2.size)
  obtain ⟨gb, hgb⟩ : ∃ q, w2.heap.size = q := ⟨_, rfl⟩
  obtain ⟨eb, heb⟩ : ∃ q, w2.heap.size + 1 = q := ⟨_, rfl⟩
  rw [hgb] at G3
  rw [heb] at E3
  rw [heb, hgb]
  have cis3 := cis.on a3
  generalize (w2.alloc (.cells #[.int .i64 3, .slice sa ls cs, .slice av m cv'] 25)).alloc (.cells #[.int .i64 md, .int .i64 0, .int .i64 0] 51) = w3 at G3 E3 X3 b3 cis3 ⊢
  have W3 := W.on b3
  have B3 := Bw.on b3
  have cv3 : CameV w3 av m zl := (cv.on b3).min (by omega)
  have ci3 := ci.on b3
  clear hgb heb a3 X2 X1 X0 b1 b2 a0 hb1 hb2 La cis hm
  have g0 : w3.cell? ⟨gb, 0, none⟩ = some (.int .i64 3) := G3.cell 0
  have g1 : w3.cell? ⟨gb, 1, none⟩ = some (.slice sa ls cs) := G3.cell 1
  have g2 : w3.cell? ⟨gb, 2, none⟩ = some (.slice av m cv') := G3.cell 2
  have gl_ := G3.lt
  have ev0 : w3.cell? ⟨eb, 0, none⟩ = some (.int .i64 md) := E3.cell 0
  have ev1 : w3.cell? ⟨eb, 1, none⟩ = some (.int .i64 0) := E3.cell 1
  have ev2 : w3.cell? ⟨eb, 2, none⟩ = some (.int .i64 0) := E3.cell 2
  have evl := E3.lt
  have X3l := X3.lt
  obtain ⟨old, hold⟩ : ∃ q, fldP m zl = q := ⟨_, rfl⟩
  obtain ⟨stt, hstt⟩ : ∃ q, stP ls zs = q := ⟨_, rfl⟩
  have go : ∀ k, (old k).Good := fun k => hold ▸ good_fld _ _ k
  have gs : ∀ k, 0 ≤ stt k ∧ stt k < 5 := fun k => hstt ▸ st_rng _ _ k
  go_upto_region 5 with (go_at_call 10; refine (cLaid w3 W3 cis3 cv3 (by decide) (by decide)).mono ?_; rintro e w4 ⟨b, y, s, s2, rfl, h4, ews, M⟩; rw [show kd 3 6 = 3 by decide, hold, hstt] at M; have O := ob_gl M go gs; have er0 : w4.cell? ⟨eb, 0, none⟩ = some (.int .i64 md) := (h4.bel.cell evl).trans ev0; have er1 : w4.cell? ⟨eb, 1, none⟩ = some (.int .i64 0) := (h4.bel.cell evl).trans ev1; have er2 : w4.cell? ⟨eb, 2, none⟩ = some (.int .i64 0) := (h4.bel.cell evl).trans ev2; have erl : eb < w4.heap.size := Nat.lt_of_lt_of_le evl h4.bel.size)
  clear g0 g1 g2 gl_ G3 E3
  have hSl : s2.ws.length = 160 := by rw [← ews]; exact M.len
  have hW := fun (k : Nat) (hk : k < 3) => word_gl M ews hk
  obtain ⟨q, hq⟩ : ∃ q : Wq, q = ⟨rqR f, !cl, false⟩ := ⟨_, rfl⟩
  have A : Abt q f := hq ▸ abt_R hf3 _
  have hq1 : q.r.op = 1 := by rw [hq]; rfl
  have okq : (Cw.hd q).Ok := hq ▸ ok_R hf3 _ _
  have enew : Cw.new (rqR f) ⟨md, 0, 0⟩ = .hd q := by rw [← hmd, hq]; cases cl <;> simp [Cw.new, rqR]
  have G0 : RG old q f (.hd q) ⟨0, 0, !cl, 0⟩ s 11 := rg_start A O (km_start _ _)
  obtain ⟨u, hu0⟩ : ∃ u, old f = u := ⟨_, rfl⟩
  obtain ⟨wd, hwd0⟩ : ∃ wd, gl 3 old stt (1 + f) = wd := ⟨_, rfl⟩
  have hwd : s2.word ((97 + f : Nat) : Int) = wd := by rw [show ((97 + f : Nat) : Int) = 97 + (f : Int) by omega, hW f hf3, hwd0]
  have hu : Vl.of wd = u := by rw [← hwd0, of_gl hf3 (go f), hu0]
  have hk : F.Plain.kind wd = u.k := congrArg Vl.k hu
  have hn : F.Plain.num wd = u.n := congrArg Vl.n hu
  have hU : U64 wd := by rw [← hwd]; exact h4.rng2.word _
  have y0 : w4.cell? ⟨ob, 0, none⟩ = some (.int .i64 x0) := (h4.bel.cell X3l).trans (X3.cell 0)
  have y0l : ob < w4.heap.size := Nat.lt_of_lt_of_le X3l h4.bel.size
  clear hcl
  go_upto_region 9 with (first
    | (go_at_call 11; refine (cKind _ x0 3 h10 h11 (by decide)).mono ?_; rintro e wk ⟨rfl, hwk⟩; rw [hwk, hf]; clear hwk wk)
    | (go_at_call 15; refine (cNewC (rqR f) ⟨md, 0, 0⟩ _).mono ?_; rintro e w5 ⟨p, rfl, Mp⟩; rw [enew] at Mp; have h5 := h4.below Mp.bel; have m5 : Cm w3 w5 p (.hd q) := Mp.cm h4.bel.size okq B3; clear Mp))
  clear er0 er1 er2 erl y0 y0l
  have a6 : Below w5.heap.size w5 (w5.alloc (.cells #[.int .i64 0, .int .i64 0, .bool (!cl), .int .u64 0] 70)) := (Below.refl _ _).alloc (Nat.le_refl _) _
  have h6 := h5.below a6
  have Q6 : Blk w3 (w5.alloc (.cells #[.int .i64 0, .int .i64 0, .bool (!cl), .int .u64 0] 70)) w5.heap.size 70 (Mo.mk 0 0 (!cl) 0).cells := Blk.new h5.bel.size _ (by decide)
  have m6 := m5.below a6
  go_wp2_with (fail)
  obtain ⟨qm, hqm⟩ : ∃ q, w5.heap.size = q := ⟨_, rfl⟩
  rw [hqm] at Q6 ⊢
  generalize w5.alloc (.cells #[.int .i64 0, .int .i64 0, .bool (!cl), .int .u64 0] 70) = w6 at h6 m6 Q6 ⊢
  clear hqm h5 m5 a6
  go_loopw [16, 17] (fun dn i wr => ∃ j : Nat, j ≤ 120 ∧ i = .int .i64 j ∧ ∃ x m s r, RG old q f x m s r ∧ dn = .bool x.done ∧ r ≤ 11 ∧ (100 ≤ j → r + j ≤ 111) ∧ Two w3 wr b y s s2 (50 + j) ∧ Cm w3 wr p x ∧ Blk w3 wr qm 70 m.cells) (fun _ i _ => 120 - (intOf i).toNat)
  case atStart => exact ⟨0, Nat.zero_le _, rfl, _, _, s, 11, G0, rfl, by omega, fun h => by omega, h6, m6, Q6⟩
  case round =>
    obtain ⟨j, hj, rfl, x, m, s, r, G, rfl, hr, hjr, k1, k2, k3⟩ := hrel
    rcases hdn : x.done with _ | _
    · have hr0 : r ≠ 0 := fun h => by subst h; obtain ⟨bt, e⟩ := G.fin hq1; rw [e] at hdn; cases hdn
      have hj9 : j < 120 := by omega
      have hji : (j : Int) < 120 := by omega
      obtain ⟨cx, Bx'⟩ := k2.blk
      by_cases hA : j < lp
      · by_cases hB : j < 60
        · have ci1 := ci3.on k1.bel
          obtain ⟨vb, off, rfl, hvb, hz⟩ : ∃ b off, ap = some ⟨b, off, none⟩ ∧ b < wr.heap.size ∧ ∀ j, j < lp → wr.cell? ⟨b, off + j, none⟩ = some (.int .i64 (zp j)) ∧ -9223372036854775808 ≤ zp j ∧ zp j ≤ 9223372036854775807 := ci1.resolve_left (by omega)
          obtain ⟨dz, z0, z1⟩ := hz j hA
          obtain ⟨zj, hzj⟩ : ∃ zj, zp j = zj := ⟨_, rfl⟩
          rw [hzj] at dz z0 z1
          clear hz hzj ci1
          have hAi : (j : Int) < (lp : Int) := by omega
          have hBi : (j : Int) < 60 := by omega
          have kk := kd_lt zj 2 (by decide)
          obtain ⟨kz, hkz⟩ : ∃ kz, kd zj 2 = kz := ⟨_, rfl⟩
          rw [hkz] at kk
          have hCi : decide (100 ≤ (j : Int)) = false := by simp; omega
          have hC : j < 100 := by omega
          rcases (show kz = 0 ∨ kz = 1 by omega) with rfl | rfl
          · go_wp2_with (first
              | (go_at_call 19; refine (tC k1 k2 (by omega)).mono ?_; rintro e w6 ⟨rfl, k5, k6, o6⟩; have k7 := k3.oth o6 (by simpa using k3.ne Bx' (by decide)))
              | (go_at_call 11; refine (cKind _ zj 2 z0 z1 (by decide)).mono ?_; rintro e wk ⟨rfl, hwk⟩; rw [hwk, hkz]; clear hwk wk))
            go_roundw
            case rel => exact ⟨j + 1, by omega, by go_num, _, m, _, r - 1, G.sx A hq1, rfl, by omega, fun h => by omega, k5, k6, k7⟩
            case measure => simp [intOf]; omega
          · go_wp2_with (first
              | (go_at_call 29; refine (tMv k1 k3 G.ok (by omega)).mono ?_; rintro e w6 ⟨⟨dd, rfl⟩, k5, k6, o6⟩; have k7 := k2.oth1 o6 k3 (by decide) (Bx'.ne k3 (by decide)))
              | (go_at_call 11; refine (cKind _ zj 2 z0 z1 (by decide)).mono ?_; rintro e wk ⟨rfl, hwk⟩; rw [hwk, hkz]; clear hwk wk))
            go_roundw
            case rel => exact ⟨j + 1, by omega, by go_num, x, _, _, r, G.sm A k1.rng1, by rw [hdn], by omega, fun h => by omega, k5, k7, k6⟩
            case measure => simp [intOf]; omega
        · have hAi : (j : Int) < (lp : Int) := by omega
          have hBi : ¬ (j : Int) < 60 := by omega
          rcases Nat.lt_or_ge j 100 with hC | hC
          · have hCi : decide (100 ≤ (j : Int)) = false := by simp; omega
            go_wp2_with (first
              | (go_at_call 29; refine (tMv k1 k3 G.ok (by omega)).mono ?_; rintro e w6 ⟨⟨dd, rfl⟩, k5, k6, o6⟩; have k7 := k2.oth1 o6 k3 (by decide) (Bx'.ne k3 (by decide))))
            go_roundw
            case rel => exact ⟨j + 1, by omega, by go_num, x, _, _, r, G.sm A k1.rng1, by rw [hdn], by omega, fun h => by omega, k5, k7, k6⟩
            case measure => simp [intOf]; omega
          · have hCi : decide (100 ≤ (j : Int)) = true := by simp; omega
            go_wp2_with (first
              | (go_at_call 19; refine (tC k1 k2 (by omega)).mono ?_; rintro e w6 ⟨rfl, k5, k6, o6⟩; have k7 := k3.oth o6 (by simpa using k3.ne Bx' (by decide))))
            go_roundw
            case rel => exact ⟨j + 1, by omega, by go_num, _, m, _, r - 1, G.sx A hq1, rfl, by omega, fun h => by omega, k5, k6, k7⟩
            case measure => simp [intOf]; omega
      · have hAi : ¬ (j : Int) < (lp : Int) := by omega
        rcases Nat.lt_or_ge j 100 with hC | hC
        · have hCi : decide (100 ≤ (j : Int)) = false := by simp; omega
          go_wp2_with (first
            | (go_at_call 29; refine (tMv k1 k3 G.ok (by omega)).mono ?_; rintro e w6 ⟨⟨dd, rfl⟩, k5, k6, o6⟩; have k7 := k2.oth1 o6 k3 (by decide) (Bx'.ne k3 (by decide))))
          go_roundw
          case rel => exact ⟨j + 1, by omega, by go_num, x, _, _, r, G.sm A k1.rng1, by rw [hdn], by omega, fun h => by omega, k5, k7, k6⟩
          case measure => simp [intOf]; omega
        · have hCi : decide (100 ≤ (j : Int)) = true := by simp; omega
          go_wp2_with (first
            | (go_at_call 19; refine (tC k1 k2 (by omega)).mono ?_; rintro e w6 ⟨rfl, k5, k6, o6⟩; have k7 := k3.oth o6 (by simpa using k3.ne Bx' (by decide))))
          go_roundw
          case rel => exact ⟨j + 1, by omega, by go_num, _, m, _, r - 1, G.sx A hq1, rfl, by omega, fun h => by omega, k5, k6, k7⟩
          case measure => simp [intOf]; omega
    · rcases Nat.lt_or_ge j 120 with hj9 | hj9
      · have hji : (j : Int) < 120 := by omega
        obtain ⟨bt, hx⟩ := G.fin' hdn
        have hov : x.o = ⟨0, u, false⟩ := by rw [hx, hu0]; rfl
        obtain ⟨g, cp, seen⟩ := k1.seen
        have f1 := fOut1
        have e1 := eqVal_t (a := u) (b := u) rfl
        have i1 : IntKind.i64.wrap (97 + (f : Int)) = 97 + (f : Int) := by rw [IntKind.wrap_i64]; omega
        go_upto_region 17 with (fail)
        have hbd : Below wr.heap.size wr wr.drew := (Below.refl _ _).drew
        have sdc := (seen.below hbd).c0
        rw [hSl] at sdc
        have sdw := (seen.below hbd).at hSl (97 + f) (by omega)
        rw [hwd] at sdw
        refine wp_region_noPanic ?_
        refine wp_region_held_drew (S := fun w' => w'.cell? ⟨y, 0, none⟩ = some (.slice (some ⟨g, 0, none⟩) 160 cp) ∧ w'.cell? ⟨g, 97 + f, none⟩ = some (.int .u64 wd)) (by kernel_rfl) ⟨sdc, sdw⟩ (fun hHeld => ?_)
        refine takeH (i := 0) 87 (.bool true) rfl rfl (by kernel_rfl) (by kernel_rfl) (by kernel_rfl) (fun _ _ _ h => h) (by rfl) ?_ (by assumption) ?_
        · intro w hSw; (try dsimp only at hSw); go_simp
        simp only [List.setIfInBounds_toArray, List.set_cons_zero, List.set_cons_succ]
        refine takeH (i := 1) 88 (.bool true) rfl rfl (by kernel_rfl) (by kernel_rfl) (by kernel_rfl) (fun _ _ _ h => h) (by rfl) ?_ (by assumption) ?_
        · intro w hSw; (try dsimp only at hSw); go_simp
        simp only [List.setIfInBounds_toArray, List.set_cons_zero, List.set_cons_succ]
        refine takeH (i := 2) 89 (pt p) rfl rfl (by kernel_rfl) (by kernel_rfl) (by kernel_rfl) (fun _ _ _ h => h) (by rfl) ?_ (by assumption) ?_
        · intro w hSw; (try dsimp only at hSw); go_simp
        simp only [List.setIfInBounds_toArray, List.set_cons_zero, List.set_cons_succ]
        refine takeH (i := 5) 92 (pt y) rfl rfl (by kernel_rfl) (by kernel_rfl) (by kernel_rfl) (fun _ _ _ h => h) (by rfl) ?_ (by assumption) ?_
        · intro w hSw; (try dsimp only at hSw); go_simp
        simp only [List.setIfInBounds_toArray, List.set_cons_zero, List.set_cons_succ]
        refine takeH (i := 6) 93 (pt y) rfl rfl (by kernel_rfl) (by kernel_rfl) (by kernel_rfl) (fun _ _ _ h => h) (by rfl) ?_ (by assumption) ?_
        · intro w hSw; (try dsimp only at hSw); go_simp
        simp only [List.setIfInBounds_toArray, List.set_cons_zero, List.set_cons_succ]
        refine takeH (i := 7) 94 (pt y) rfl rfl (by kernel_rfl) (by kernel_rfl) (by kernel_rfl) (fun _ _ _ h => h) (by rfl) ?_ (by assumption) ?_
        · intro w hSw; (try dsimp only at hSw); go_simp
        simp only [List.setIfInBounds_toArray, List.set_cons_zero, List.set_cons_succ]
        refine takeH (i := 8) 95 (.slice (some ⟨g, 0, none⟩) 160 cp) rfl rfl (by kernel_rfl) (by kernel_rfl) (by kernel_rfl) (fun _ _ _ h => h) (by rfl) ?_ (by assumption) ?_
        · intro w hSw; (try dsimp only at hSw); go_simp
        simp only [List.setIfInBounds_toArray, List.set_cons_zero, List.set_cons_succ]
        refine takeH (i := 9) 96 (.int .i64 f) rfl rfl (by kernel_rfl) (by kernel_rfl) (by kernel_rfl) (fun _ _ _ h => h) (by rfl) ?_ (by assumption) ?_
        · intro w hSw; (try dsimp only at hSw); go_simp
        simp only [List.setIfInBounds_toArray, List.set_cons_zero, List.set_cons_succ]
        refine takeH (i := 10) 97 (.int .i64 (97 + f)) rfl rfl (by kernel_rfl) (by kernel_rfl) (by kernel_rfl) (fun _ _ _ h => h) (by rfl) ?_ (by assumption) ?_
        · intro w hSw; (try dsimp only at hSw); go_simp
        simp only [List.setIfInBounds_toArray, List.set_cons_zero, List.set_cons_succ]
        refine takeH (i := 11) 98 (.pointer (some ⟨g, 97 + f, none⟩)) rfl rfl (by kernel_rfl) (by kernel_rfl) (by kernel_rfl) (fun _ _ _ h => h) (by rfl) ?_ (by assumption) ?_
        · intro w hSw; (try dsimp only at hSw); go_simp; rw [if_pos (by omega)]; rw [show (97 + (f : Int)).toNat = 97 + f by omega]
        simp only [List.setIfInBounds_toArray, List.set_cons_zero, List.set_cons_succ]
        refine takeH (i := 12) 99 (.int .u64 wd) rfl rfl (by kernel_rfl) (by kernel_rfl) (by kernel_rfl) (fun _ _ _ h => h) (by rfl) ?_ (by assumption) ?_
        · intro w hSw; (try dsimp only at hSw); go_simp
        simp only [List.setIfInBounds_toArray, List.set_cons_zero, List.set_cons_succ]
        refine wpAnyH_ready (rs := [3]) (by kernel_rfl) (by simp) ?_
        refine AllReadyH.cons rfl (fun K hK => ?_) AllReadyH.nil
        go_simp
        refine (cCResult (k2.below hbd)).mono ?_
        rintro e w7 ⟨rfl, hb7⟩
        rw [show x.o.val = .agg #[.int .i64 0, .int .i64 u.k, .int .i64 u.n, .bool false] by rw [hov]; rfl]
        have t7 := (k1.below hbd).below hb7
        have s7 := (seen.below hbd).below hb7
        have s7c := s7.c0
        rw [hSl] at s7c
        have s7w := s7.at hSl (97 + f) (by omega)
        rw [hwd] at s7w
        refine hK.out _ _ ⟨s7c, s7w⟩ (fun hHeld => ?_)
        clear hK K
        try simp only [Act.put, List.setIfInBounds_toArray, List.set_cons_zero, List.set_cons_succ]
        refine takeH (i := 4) 91 (.agg #[.int .i64 u.k, .int .i64 u.n]) rfl rfl (by kernel_rfl) (by kernel_rfl) (by kernel_rfl) (fun _ _ _ h => h) (by rfl) ?_ (by assumption) ?_
        · intro w hSw; (try dsimp only at hSw); go_simp
        simp only [List.setIfInBounds_toArray, List.set_cons_zero, List.set_cons_succ]
        refine wpAnyH_ready (rs := [13]) (by kernel_rfl) (by simp) ?_
        refine AllReadyH.cons rfl (fun K hK => ?_) AllReadyH.nil
        go_simp
        refine (F.rOf wd hU.1 hU.2 _).mono ?_
        rintro e w8 ⟨rfl, hw8⟩
        rw [hk, hn] at hw8 ⊢
        have hb8 : Below w7.heap.size w7 w8 := (by rw [hw8]; go_grown)
        have t8 := t7.below hb8
        have s8 := s7.below hb8
        clear hw8 hb8
        have s8c := s8.c0
        rw [hSl] at s8c
        have s8w := s8.at hSl (97 + f) (by omega)
        rw [hwd] at s8w
        refine hK.out _ _ ⟨s8c, s8w⟩ (fun hHeld => ?_)
        clear hK K
        try simp only [Act.put, List.setIfInBounds_toArray, List.set_cons_zero, List.set_cons_succ]
        refine takeH (i := 14) 101 (.bool true) rfl rfl (by kernel_rfl) (by kernel_rfl) (by kernel_rfl) (fun _ _ _ h => h) (by rfl) ?_ (by assumption) ?_
        · intro w hSw; (try dsimp only at hSw); go_simp
        simp only [List.setIfInBounds_toArray, List.set_cons_zero, List.set_cons_succ]
        refine takeH (i := 15) 102 (.bool true) rfl rfl (by kernel_rfl) (by kernel_rfl) (by kernel_rfl) (fun _ _ _ h => h) (by rfl) ?_ (by assumption) ?_
        · intro w hSw; (try dsimp only at hSw); go_simp
        simp only [List.setIfInBounds_toArray, List.set_cons_zero, List.set_cons_succ]
        refine takeH (i := 16) 6 (.bool true) rfl rfl (by kernel_rfl) (by kernel_rfl) (by kernel_rfl) (fun _ _ _ h => h) (by rfl) ?_ (by assumption) ?_
        · intro w hSw; (try dsimp only at hSw); go_simp
        simp only [List.setIfInBounds_toArray, List.set_cons_zero, List.set_cons_succ]
        refine wpAnyH_done (by kernel_rfl) ?_ _
        refine NoPanic.normal ?_
        go_wp2
        go_ret
        exact ⟨rfl, b3.trans (t8.bel.mono b3.size)⟩
      · have hji : ¬ (j : Int) < 120 := by omega
        obtain ⟨bt, hx⟩ := G.fin' hdn
        have hov : x.o = ⟨0, u, false⟩ := by rw [hx, hu0]; rfl
        obtain ⟨g, cp, seen⟩ := k1.seen
        have f1 := fOut1
        have e1 := eqVal_t (a := u) (b := u) rfl
        have i1 : IntKind.i64.wrap (97 + (f : Int)) = 97 + (f : Int) := by rw [IntKind.wrap_i64]; omega
        go_upto_region 17 with (fail)
        have hbd : Below wr.heap.size wr wr.drew := (Below.refl _ _).drew
        have sdc := (seen.below hbd).c0
        rw [hSl] at sdc
        have sdw := (seen.below hbd).at hSl (97 + f) (by omega)
        rw [hwd] at sdw
        refine wp_region_noPanic ?_
        refine wp_region_held_drew (S := fun w' => w'.cell? ⟨y, 0, none⟩ = some (.slice (some ⟨g, 0, none⟩) 160 cp) ∧ w'.cell? ⟨g, 97 + f, none⟩ = some (.int .u64 wd)) (by kernel_rfl) ⟨sdc, sdw⟩ (fun hHeld => ?_)
        refine takeH (i := 0) 87 (.bool true) rfl rfl (by kernel_rfl) (by kernel_rfl) (by kernel_rfl) (fun _ _ _ h => h) (by rfl) ?_ (by assumption) ?_
        · intro w hSw; (try dsimp only at hSw); go_simp
        simp only [List.setIfInBounds_toArray, List.set_cons_zero, List.set_cons_succ]
        refine takeH (i := 1) 88 (.bool true) rfl rfl (by kernel_rfl) (by kernel_rfl) (by kernel_rfl) (fun _ _ _ h => h) (by rfl) ?_ (by assumption) ?_
        · intro w hSw; (try dsimp only at hSw); go_simp
        simp only [List.setIfInBounds_toArray, List.set_cons_zero, List.set_cons_succ]
        refine takeH (i := 2) 89 (pt p) rfl rfl (by kernel_rfl) (by kernel_rfl) (by kernel_rfl) (fun _ _ _ h => h) (by rfl) ?_ (by assumption) ?_
        · intro w hSw; (try dsimp only at hSw); go_simp
        simp only [List.setIfInBounds_toArray, List.set_cons_zero, List.set_cons_succ]
        refine takeH (i := 5) 92 (pt y) rfl rfl (by kernel_rfl) (by kernel_rfl) (by kernel_rfl) (fun _ _ _ h => h) (by rfl) ?_ (by assumption) ?_
        · intro w hSw; (try dsimp only at hSw); go_simp
        simp only [List.setIfInBounds_toArray, List.set_cons_zero, List.set_cons_succ]
        refine takeH (i := 6) 93 (pt y) rfl rfl (by kernel_rfl) (by kernel_rfl) (by kernel_rfl) (fun _ _ _ h => h) (by rfl) ?_ (by assumption) ?_
        · intro w hSw; (try dsimp only at hSw); go_simp
        simp only [List.setIfInBounds_toArray, List.set_cons_zero, List.set_cons_succ]
        refine takeH (i := 7) 94 (pt y) rfl rfl (by kernel_rfl) (by kernel_rfl) (by kernel_rfl) (fun _ _ _ h => h) (by rfl) ?_ (by assumption) ?_
        · intro w hSw; (try dsimp only at hSw); go_simp
        simp only [List.setIfInBounds_toArray, List.set_cons_zero, List.set_cons_succ]
        refine takeH (i := 8) 95 (.slice (some ⟨g, 0, none⟩) 160 cp) rfl rfl (by kernel_rfl) (by kernel_rfl) (by kernel_rfl) (fun _ _ _ h => h) (by rfl) ?_ (by assumption) ?_
        · intro w hSw; (try dsimp only at hSw); go_simp
        simp only [List.setIfInBounds_toArray, List.set_cons_zero, List.set_cons_succ]
        refine takeH (i := 9) 96 (.int .i64 f) rfl rfl (by kernel_rfl) (by kernel_rfl) (by kernel_rfl) (fun _ _ _ h => h) (by rfl) ?_ (by assumption) ?_
        · intro w hSw; (try dsimp only at hSw); go_simp
        simp only [List.setIfInBounds_toArray, List.set_cons_zero, List.set_cons_succ]
        refine takeH (i := 10) 97 (.int .i64 (97 + f)) rfl rfl (by kernel_rfl) (by kernel_rfl) (by kernel_rfl) (fun _ _ _ h => h) (by rfl) ?_ (by assumption) ?_
        · intro w hSw; (try dsimp only at hSw); go_simp
        simp only [List.setIfInBounds_toArray, List.set_cons_zero, List.set_cons_succ]
        refine takeH (i := 11) 98 (.pointer (some ⟨g, 97 + f, none⟩)) rfl rfl (by kernel_rfl) (by kernel_rfl) (by kernel_rfl) (fun _ _ _ h => h) (by rfl) ?_ (by assumption) ?_
        · intro w hSw; (try dsimp only at hSw); go_simp; rw [if_pos (by omega)]; rw [show (97 + (f : Int)).toNat = 97 + f by omega]
        simp only [List.setIfInBounds_toArray, List.set_cons_zero, List.set_cons_succ]
        refine takeH (i := 12) 99 (.int .u64 wd) rfl rfl (by kernel_rfl) (by kernel_rfl) (by kernel_rfl) (fun _ _ _ h => h) (by rfl) ?_ (by assumption) ?_
        · intro w hSw; (try dsimp only at hSw); go_simp
        simp only [List.setIfInBounds_toArray, List.set_cons_zero, List.set_cons_succ]
        refine wpAnyH_ready (rs := [3]) (by kernel_rfl) (by simp) ?_
        refine AllReadyH.cons rfl (fun K hK => ?_) AllReadyH.nil
        go_simp
        refine (cCResult (k2.below hbd)).mono ?_
        rintro e w7 ⟨rfl, hb7⟩
        rw [show x.o.val = .agg #[.int .i64 0, .int .i64 u.k, .int .i64 u.n, .bool false] by rw [hov]; rfl]
        have t7 := (k1.below hbd).below hb7
        have s7 := (seen.below hbd).below hb7
        have s7c := s7.c0
        rw [hSl] at s7c
        have s7w := s7.at hSl (97 + f) (by omega)
        rw [hwd] at s7w
        refine hK.out _ _ ⟨s7c, s7w⟩ (fun hHeld => ?_)
        clear hK K
        try simp only [Act.put, List.setIfInBounds_toArray, List.set_cons_zero, List.set_cons_succ]
        refine takeH (i := 4) 91 (.agg #[.int .i64 u.k, .int .i64 u.n]) rfl rfl (by kernel_rfl) (by kernel_rfl) (by kernel_rfl) (fun _ _ _ h => h) (by rfl) ?_ (by assumption) ?_
        · intro w hSw; (try dsimp only at hSw); go_simp
        simp only [List.setIfInBounds_toArray, List.set_cons_zero, List.set_cons_succ]
        refine wpAnyH_ready (rs := [13]) (by kernel_rfl) (by simp) ?_
        refine AllReadyH.cons rfl (fun K hK => ?_) AllReadyH.nil
        go_simp
        refine (F.rOf wd hU.1 hU.2 _).mono ?_
        rintro e w8 ⟨rfl, hw8⟩
        rw [hk, hn] at hw8 ⊢
        have hb8 : Below w7.heap.size w7 w8 := (by rw [hw8]; go_grown)
        have t8 := t7.below hb8
        have s8 := s7.below hb8
        clear hw8 hb8
        have s8c := s8.c0
        rw [hSl] at s8c
        have s8w := s8.at hSl (97 + f) (by omega)
        rw [hwd] at s8w
        refine hK.out _ _ ⟨s8c, s8w⟩ (fun hHeld => ?_)
        clear hK K
        try simp only [Act.put, List.setIfInBounds_toArray, List.set_cons_zero, List.set_cons_succ]
        refine takeH (i := 14) 101 (.bool true) rfl rfl (by kernel_rfl) (by kernel_rfl) (by kernel_rfl) (fun _ _ _ h => h) (by rfl) ?_ (by assumption) ?_
        · intro w hSw; (try dsimp only at hSw); go_simp
        simp only [List.setIfInBounds_toArray, List.set_cons_zero, List.set_cons_succ]
        refine takeH (i := 15) 102 (.bool true) rfl rfl (by kernel_rfl) (by kernel_rfl) (by kernel_rfl) (fun _ _ _ h => h) (by rfl) ?_ (by assumption) ?_
        · intro w hSw; (try dsimp only at hSw); go_simp
        simp only [List.setIfInBounds_toArray, List.set_cons_zero, List.set_cons_succ]
        refine takeH (i := 16) 6 (.bool true) rfl rfl (by kernel_rfl) (by kernel_rfl) (by kernel_rfl) (fun _ _ _ h => h) (by rfl) ?_ (by assumption) ?_
        · intro w hSw; (try dsimp only at hSw); go_simp
        simp only [List.setIfInBounds_toArray, List.set_cons_zero, List.set_cons_succ]
        refine wpAnyH_done (by kernel_rfl) ?_ _
        refine NoPanic.normal ?_
        go_wp2
        go_ret
        exact ⟨rfl, b3.trans (t8.bel.mono b3.size)⟩
end Go.Proofs.YtpcoldpphihfmaaGreatDoor
