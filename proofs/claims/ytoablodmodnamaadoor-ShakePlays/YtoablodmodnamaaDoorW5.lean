/-
  The walk of ShakePlays.
-/
import Derived.Test.YtoablodmodnamaaDoorKv
import Derived.Test.YtoablodmodnamaaDoorOi
import Derived.Test.YtoablodmodnamaaDoorZa
import Derived.Deep.Cut
import Derived.Deep.RegionHeld3
namespace Go.Proofs.YtoablodmodnamaaDoor
set_option linter.unusedVariables false
set_option linter.unusedSimpArgs false
set_option maxRecDepth 100000
open Go.ChangeShapes Go.WideShapes Go.RowKit
open S.Plain (t0 t1 tw nx p0 p1 p2 p3 pw)
open H.Plain (hw pS pC pN pM pG pT pL)

set_option maxHeartbeats 12000000 in
theorem wShakePlays (at_ : Option Addr) (lt ct : Nat) (zt : Nat → Int) (ar : Nat → Option Addr) (lr cr : Nat → Nat) (zr : Nat → Nat → Int) (alp : Int) (am : Option Addr) (lm cm : Nat) (zm : Nat → Int) (ap : Option Addr) (lp cp : Nat) (zp : Nat → Int) (a0 : -9223372036854775808 ≤ alp) (a1 : alp ≤ 9223372036854775807) (w : World) (W : H.Wid w) (ci : CameI w at_ lt zt) (cq : ∀ k, k < 3 → CameI w (ar k) (lr k) (zr k)) (im : CameI w am lm zm) (ip : CameI w ap lp zp) :
    Calls Tryd.prog 3 #[.agg #[.slice at_ lt ct, .slice (ar 0) (lr 0) (cr 0), .slice (ar 1) (lr 1) (cr 1), .slice (ar 2) (lr 2) (cr 2), .int .i64 alp], .slice am lm cm, .slice ap lp cp] w fun e w' => e = .returned (.bool true) ∧ Below w.heap.size w w' := by
  obtain ⟨m1, hml, hm4, hmm⟩ : ∃ m1, m1 ≤ lp ∧ m1 ≤ 400 ∧ (m1 = lp ∨ m1 = 400) := ⟨min lp 400, by omega, by omega, by omega⟩
  obtain ⟨S, hS⟩ : ∃ S, laidS (tagP lt zt) (kd alp 1000) = S := ⟨_, rfl⟩
  have hSl : S.ws.length = 160 := by rw [← hS]; exact laid_len _ _
  go_enter Tryd.func3, Tryd.ntmps3
  go_upto_region 1 with (fail)
  have hb0 : Below w.heap.size w (w.alloc (.cells #[.slice at_ lt ct, .slice (ar 0) (lr 0) (cr 0), .slice (ar 1) (lr 1) (cr 1), .slice (ar 2) (lr 2) (cr 2), .int .i64 alp] 25)) := (Below.refl _ _).alloc (Nat.le_refl _) _
  have B0 : Blk w (w.alloc (.cells #[.slice at_ lt ct, .slice (ar 0) (lr 0) (cr 0), .slice (ar 1) (lr 1) (cr 1), .slice (ar 2) (lr 2) (cr 2), .int .i64 alp] 25)) w.heap.size 25 #[.slice at_ lt ct, .slice (ar 0) (lr 0) (cr 0), .slice (ar 1) (lr 1) (cr 1), .slice (ar 2) (lr 2) (cr 2), .int .i64 alp] := Blk.new (Nat.le_refl _) _ (by decide)
  generalize w.alloc (.cells #[.slice at_ lt ct, .slice (ar 0) (lr 0) (cr 0), .slice (ar 1) (lr 1) (cr 1), .slice (ar 2) (lr 2) (cr 2), .int .i64 alp] 25) = w0 at hb0 B0 ⊢
  generalize hpb : w.heap.size = pb at B0 ⊢
  go_upto_region 2 with (go_at_call 6; refine (cShown _ (W.on (hpb ▸ hb0))).mono ?_; rintro e w1 ⟨rfl, hb1'⟩)
  have hb1 : Below w.heap.size w w1 := bel_trans (hpb ▸ hb0) hb1'
  have B1 := B0.below hb1'
  clear hb1' hb0 B0
  have d0 : w1.cell? ⟨pb, 0, none⟩ = some (.slice at_ lt ct) := B1.cell 0
  have d4 : w1.cell? ⟨pb, 4, none⟩ = some (.int .i64 alp) := B1.cell 4
  have dl := B1.lt
  go_upto_region 3 with (go_at_call 7; refine (cLaid _ (W.on hb1) (ci.on hb1) a0 a1).mono ?_; rintro e w2 ⟨b, y, rfl, h2⟩; have T2 := h2.lift hb1 W; have B2 := B1.below h2.bel; rw [hS] at T2; clear h2)
  clear hb1 d0 d4 dl B1 hS hpb
  go_upto_region 4 with (go_at_call 8; refine (cPlan34 _).mono ?_; rintro e v0 ⟨rfl, hv0⟩)
  have hvp : Below w2.heap.size w2 (v0.alloc (.cells #[.int .i64 3, .int .i64 4, .int .i64 13, .int .i64 32, .int .i64 160] 32)) := hv0.alloc hv0.size _
  have Tp := T2.below hvp
  have Bp : Blk w (v0.alloc (.cells #[.int .i64 3, .int .i64 4, .int .i64 13, .int .i64 32, .int .i64 160] 32)) v0.heap.size 32 planC := Blk.new (Nat.le_trans T2.bel.size hv0.size) _ (by decide)
  replace B2 := B2.below hvp
  clear hvp
  generalize v0.alloc (.cells #[.int .i64 3, .int .i64 4, .int .i64 13, .int .i64 32, .int .i64 160] 32) = wp at Tp Bp B2 ⊢
  generalize v0.heap.size = qp at Bp ⊢
  clear hv0 T2
  have Twp := Tp
  clear Tp
  go_upto_region 7 with (fail)
  have hbx : Below wp.heap.size wp (wp.alloc (.cells #[.int .i64 0, .int .i64 0, .int .i64 0, .int .i64 0, .int .i64 0, .int .i64 0, .int .i64 0, .int .i64 0, .int .i64 0, .int .i64 0, .int .i64 0, .int .i64 0] 38)) := (Below.refl _ _).alloc (Nat.le_refl _) _
  have Bo : Blk w (wp.alloc (.cells #[.int .i64 0, .int .i64 0, .int .i64 0, .int .i64 0, .int .i64 0, .int .i64 0, .int .i64 0, .int .i64 0, .int .i64 0, .int .i64 0, .int .i64 0, .int .i64 0] 38)) wp.heap.size 38 (own3 (fun _ => Ph.zero)) := Blk.new Twp.bel.size _ (by decide)
  have Tu1 := Twp.below hbx
  replace B2 := B2.below hbx
  replace Bp := Bp.below hbx
  clear hbx Twp
  generalize wp.alloc (.cells #[.int .i64 0, .int .i64 0, .int .i64 0, .int .i64 0, .int .i64 0, .int .i64 0, .int .i64 0, .int .i64 0, .int .i64 0, .int .i64 0, .int .i64 0, .int .i64 0] 38) = u1 at B2 Bp Bo Tu1 ⊢
  generalize wp.heap.size = qo at Bo ⊢
  go_upto_region 8 with (fail)
  have hbx : Below u1.heap.size u1 (u1.alloc (.cells #[.int .i64 0, .int .i64 0, .int .i64 0] 39)) := (Below.refl _ _).alloc (Nat.le_refl _) _
  have Bl : Blk w (u1.alloc (.cells #[.int .i64 0, .int .i64 0, .int .i64 0] 39)) u1.heap.size 39 (al3 (fun _ => 0)) := Blk.new Tu1.bel.size _ (by decide)
  have Tu2 := Tu1.below hbx
  replace B2 := B2.below hbx
  replace Bp := Bp.below hbx
  replace Bo := Bo.below hbx
  clear hbx Tu1
  generalize u1.alloc (.cells #[.int .i64 0, .int .i64 0, .int .i64 0] 39) = u2 at B2 Bp Bo Bl Tu2 ⊢
  generalize u1.heap.size = ql at Bl ⊢
  refine wp_region_lit ?_
  refine wpList_zeros rfl rfl rfl 43 51 14 rfl rfl rfl rfl rfl rfl z27 27 (by kernel_rfl) (by kernel_rfl) rfl (by kernel_rfl) rfl rfl ?_
  refine wpList_nil ?_
  have hbx : Below u2.heap.size u2 (u2.alloc (.cells z27 43)) := (Below.refl _ _).alloc (Nat.le_refl _) _
  have Br : Blk w (u2.alloc (.cells z27 43)) u2.heap.size 43 (rts3 (fun _ => 0) (fun _ => no0)) := by
    rw [rts3_z27]
    exact Blk.new Tu2.bel.size _ (by decide)
  have Tu3 := Tu2.below hbx
  replace B2 := B2.below hbx
  replace Bp := Bp.below hbx
  replace Bo := Bo.below hbx
  replace Bl := Bl.below hbx
  clear hbx Tu2
  generalize u2.alloc (.cells z27 43) = u3 at B2 Bp Bo Bl Br Tu3 ⊢
  generalize u2.heap.size = qr at Br ⊢
  go_wp2_with (fail)
  go_loopw [15] (fun i wr => ∃ (j : Nat) (rn : Nat → Nat) (rl : Nat → Nat → Int), j ≤ 3 ∧ i = .int .i64 j ∧ Two w wr b y S S 34 ∧ Blk w wr pb 25 #[.slice at_ lt ct, .slice (ar 0) (lr 0) (cr 0), .slice (ar 1) (lr 1) (cr 1), .slice (ar 2) (lr 2) (cr 2), .int .i64 alp] ∧ Blk w wr qp 32 planC ∧ Blk w wr qo 38 (own3 (fun _ => Ph.zero)) ∧ Blk w wr ql 39 (al3 (fun _ => 0)) ∧ Blk w wr qr 43 (rts3 rn rl) ∧ ∀ k, k < 3 → rn k ≤ 8) (fun i _ => 3 - (intOf i).toNat)
  case atStart => exact ⟨0, _, _, Nat.zero_le _, rfl, Tu3, B2, Bp, Bo, Bl, Br, fun _ _ => Nat.zero_le _⟩
  case round =>
    obtain ⟨j, rn, rl, hj, rfl, Tr, B2', Bp', Bo', Bl', Br', hrn⟩ := hrel
    clear Tu3 B2 Bp Bo Bl Br
    by_cases hj3 : j < 3
    case pos => as_aux_lemma =>
      have hjd : decide ((j : Int) < 3) = true := by simp; omega
      have hji : (0 : Int) ≤ (j : Int) ∧ (j : Int) < 3 := by omega
      have cb : wr.cell? ⟨pb, 1 + j, none⟩ = some (.slice (ar j) (lr j) (cr j)) := (B2'.cell _).trans (by rcases k3 hj3 with rfl | rfl | rfl <;> rfl)
      have cbl := B2'.lt
      obtain ⟨n0, hn0⟩ : ∃ n, someN (lr j) = n := ⟨_, rfl⟩
      obtain ⟨l0, hl0⟩ : ∃ l, someL (lr j) (zr j) = l := ⟨_, rfl⟩
      have hn8 : n0 ≤ 8 := hn0 ▸ someN_le _
      have cij := (cq j hj3).on Tr.bel
      obtain ⟨h0, h1, h2, h3, h4, h5, h6, h7, h8⟩ := rts3_get rn rl hj3
      go_upto_region 12 with (fail)
      refine wp_region_lit ?_
      refine wpList_plain rfl fun K hK => ?_
      go_simp
      refine hK _ _ ?_
      refine wpList_plain rfl fun K hK => ?_
      go_simp
      refine hK _ _ ?_
      refine wpList_plain rfl fun K hK => ?_
      go_simp
      refine hK _ _ ?_
      refine wpList_plain rfl fun K hK => ?_
      go_simp
      refine hK _ _ ?_
      refine wpList_plain rfl fun K hK => ?_
      go_simp
      refine hK _ _ ?_
      refine wpList_plain rfl fun K hK => ?_
      go_simp
      go_at_call 9; refine (cSome cij).mono ?_; rintro e w4 ⟨rfl, hb4⟩; rw [hn0, hl0]; have Br4 := Br'.below hb4; have c0 := (Br4.cell _).trans h0; have f0 := Br4.free (j * 9); have c1 := (Br4.cell _).trans h1; have f1 := Br4.free (j * 9 + 1); have c2 := (Br4.cell _).trans h2; have f2 := Br4.free (j * 9 + 2); have c3 := (Br4.cell _).trans h3; have f3 := Br4.free (j * 9 + 3); have c4 := (Br4.cell _).trans h4; have f4 := Br4.free (j * 9 + 4); have c5 := (Br4.cell _).trans h5; have f5 := Br4.free (j * 9 + 5); have c6 := (Br4.cell _).trans h6; have f6 := Br4.free (j * 9 + 6); have c7 := (Br4.cell _).trans h7; have f7 := Br4.free (j * 9 + 7); have c8 := (Br4.cell _).trans h8; have f8 := Br4.free (j * 9 + 8); have cl4 := Br4.lt; have Tr4 := Tr.below hb4; have Bp4 := B2'.below hb4; have Bq4 := Bp'.below hb4; have Bo4 := Bo'.below hb4; have Bl4 := Bl'.below hb4
      refine hK _ _ ?_
      refine wpList_plain rfl fun K hK => ?_
      go_simp
      refine hK _ _ ?_
      refine wpList_store_mid rfl 42 (.tmp 62) (.tmp 61) rfl qr (j * 9) #[.int .i64 n0, .int .i64 (l0 0), .int .i64 (l0 1), .int .i64 (l0 2), .int .i64 (l0 3), .int .i64 (l0 4), .int .i64 (l0 5), .int .i64 (l0 6), .int .i64 (l0 7)] rfl rfl (blkThere Br4 (show j * 9 + 9 ≤ 27 by omega)) (by kernel_rfl) (by kernel_rfl) ?_
      refine wpList_nil ?_
      simp only [setCells9]
      go_wp2_with (fail)
      go_roundw
      case rel => exact ⟨j + 1, updN rn j n0, updN rl j l0, hj3, by go_num, (rtsRow Tr4 Br4 hj3 n0 l0).1, (rtsRow Tr4 Br4 hj3 n0 l0).2.2 _ _ _ (by decide) Bp4, (rtsRow Tr4 Br4 hj3 n0 l0).2.2 _ _ _ (by decide) Bq4, (rtsRow Tr4 Br4 hj3 n0 l0).2.2 _ _ _ (by decide) Bo4, (rtsRow Tr4 Br4 hj3 n0 l0).2.2 _ _ _ (by decide) Bl4, (rtsRow Tr4 Br4 hj3 n0 l0).2.1, updN_le hrn hn8⟩
      case measure => simp [intOf]; omega
    case neg => as_aux_lemma =>
      obtain rfl : j = 3 := by omega
      have hjd : decide (((3 : Nat) : Int) < 3) = false := by decide
      clear hj hj3 B2' hjd
      have Twr := Tr
      have Bp := Bp'
      have Bo := Bo'
      have Bl := Bl'
      have Br := Br'
      clear Tr Bp' Bo' Bl' Br'
      go_upto_region 14 with (fail)
      have hbx : Below wr.heap.size wr (wr.alloc (.cells #[.pointer none, .pointer none, .pointer none] 46)) := (Below.refl _ _).alloc (Nat.le_refl _) _
      have Ba : Blk w (wr.alloc (.cells #[.pointer none, .pointer none, .pointer none] 46)) wr.heap.size 46 (arr3 (fun _ => .pointer none)) := Blk.new Twr.bel.size _ (by decide)
      have Tu5 := Twr.below hbx
      replace Bp := Bp.below hbx
      replace Bo := Bo.below hbx
      replace Bl := Bl.below hbx
      replace Br := Br.below hbx
      clear hbx Twr
      generalize wr.alloc (.cells #[.pointer none, .pointer none, .pointer none] 46) = u5 at Bp Bo Bl Br Ba Tu5 ⊢
      generalize wr.heap.size = qa at Ba ⊢
      go_upto_region 15 with (fail)
      have hbx : Below u5.heap.size u5 (u5.alloc (.cells #[.pointer none, .pointer none, .pointer none] 48)) := (Below.refl _ _).alloc (Nat.le_refl _) _
      have Bb : Blk w (u5.alloc (.cells #[.pointer none, .pointer none, .pointer none] 48)) u5.heap.size 48 (arr3 (fun _ => .pointer none)) := Blk.new Tu5.bel.size _ (by decide)
      have Tu6 := Tu5.below hbx
      replace Bp := Bp.below hbx
      replace Bo := Bo.below hbx
      replace Bl := Bl.below hbx
      replace Br := Br.below hbx
      replace Ba := Ba.below hbx
      clear hbx Tu5
      generalize u5.alloc (.cells #[.pointer none, .pointer none, .pointer none] 48) = u6 at Bp Bo Bl Br Ba Bb Tu6 ⊢
      generalize u5.heap.size = qb at Bb ⊢
      have x0 : u6.cell? ⟨qp, 0, none⟩ = some (.int .i64 3) := Bp.cell 0
      have x1 : u6.cell? ⟨qp, 1, none⟩ = some (.int .i64 4) := Bp.cell 1
      have x2 : u6.cell? ⟨qp, 2, none⟩ = some (.int .i64 13) := Bp.cell 2
      have x3 : u6.cell? ⟨qp, 3, none⟩ = some (.int .i64 32) := Bp.cell 3
      have x4 : u6.cell? ⟨qp, 4, none⟩ = some (.int .i64 160) := Bp.cell 4
      have xl := Bp.lt
      go_upto_region 16 with (go_at_call 10; refine (nAsk (w0 := w) U34 Ph.zero 3 Tu6.bel.size).mono ?_; rintro e u7 ⟨za, rfl, MA, hb7, hz7⟩)
      clear x0 x1 x2 x3 x4 xl
      have Bp7 := Bp.below hb7
      have x0 : u7.cell? ⟨qp, 0, none⟩ = some (.int .i64 3) := Bp7.cell 0
      have x1 : u7.cell? ⟨qp, 1, none⟩ = some (.int .i64 4) := Bp7.cell 1
      have x2 : u7.cell? ⟨qp, 2, none⟩ = some (.int .i64 13) := Bp7.cell 2
      have x3 : u7.cell? ⟨qp, 3, none⟩ = some (.int .i64 32) := Bp7.cell 3
      have x4 : u7.cell? ⟨qp, 4, none⟩ = some (.int .i64 160) := Bp7.cell 4
      have xl := Bp7.lt
      go_upto_region 17 with (go_at_call 11; refine (nRAsk (w0 := w) U34 Ph.zero 3 (Nat.le_trans Tu6.bel.size hb7.size)).mono ?_; rintro e u8 ⟨zd, rfl, MR, hb8, hz8⟩)
      have hb78 := bel_trans hb7 hb8
      have M0 : Ap 3 w u8 b y 34 S S qp qo ql qr qa qb za zd (AskS.new Ph.zero 3) (AskS.new Ph.zero 3) (fun _ => Ph.zero) (fun _ => 0) rn rl (fun _ => .pointer none) (fun _ => .pointer none) (fun _ => none) (fun _ => []) := ⟨Tu6.below hb78, Bp.below hb78, Bo.below hb78, Bl.below hb78, Br.below hb78, Ba.below hb78, Bb.below hb78, Blk.below MA hb8, MR, fun k hk _ => .inl ⟨rfl, rfl, rfl⟩, fun j k _ _ _ _ _ q hq => by simp at hq⟩
      clear x0 x1 x2 x3 x4 xl
      clear Tu6 Bp Bo Bl Br Ba Bb MA MR hb7 hb8 hb78 hz7 hz8 Bp7
      go_wp2_with (fail)
      go_loopw [18, 19, 20, 21] (fun vc vd ve vi wr => ∃ (j e : Nat) (s : St) (a : AskS) (za zd : Nat) (ow : Nat → Ph) (al : Nat → Int) (rn : Nat → Nat) (rl : Nat → Nat → Int) (pa pr : Nat → Value) (bs : Nat → Option PollS) (Fs : Nat → List Nat), j ≤ m1 ∧ e ≤ 8 ∧ vc = pt za ∧ vd = pt zd ∧ ve = .int .i64 e ∧ vi = .int .i64 j ∧ Ap 3 w wr b y (100 + 2 * j) s s qp qo ql qr qa qb za zd a a ow al rn rl pa pr bs Fs ∧ s.ws.length = 160 ∧ a.Ok ∧ a.N = 3 ∧ ∀ k, k < 3 → rn k ≤ 8) (fun _ _ _ vi _ => 400 - (intOf vi).toNat)
      case atStart => exact ⟨0, 0, S, _, za, zd, _, _, _, _, _, _, _, _, Nat.zero_le _, Nat.zero_le _, rfl, rfl, rfl, rfl, M0.mono (by decide), hSl, okAsk _, rfl, hrn⟩
      case round =>
        clear M0 hrn hSl
        obtain ⟨j, e, s, a, za, zd, ow, al, rn, rl, pa, pr, bs, Fs, hj, he8, rfl, rfl, rfl, rfl, M, hl, okA, aN, hrn⟩ := hrel
        by_cases hje : j < m1
        case neg => as_aux_lemma =>
          obtain rfl : j = m1 := by omega
          have hcond : decide ((j : Int) < (lp : Int)) = false ∨ decide ((j : Int) < (lp : Int)) = true ∧ decide ((j : Int) < 400) = false := by
            rcases Nat.lt_or_ge j lp with h | h
            · exact .inr ⟨by simp; omega, by simp; omega⟩
            · exact .inl (by simp; omega)
          clear hml hmm hje hj
          have hN1 : 100 + 2 * j ≤ 100000 := by omega
          rcases hcond with h1 | ⟨h1, h2⟩
          all_goals (
            go_wp2_with (go_at_call 20; refine (cSame M.two hl hN1).mono ?_; rintro e wz ⟨rfl, hbz⟩)
            all_goals first
              | (exfalso; have := of_decide_eq_false h1; omega)
              | (go_ret; exact ⟨rfl, bel_trans M.two.bel hbz⟩))
        case pos =>
          have hc1 : decide ((j : Int) < (lp : Int)) = true := by simp; omega
          have hc2 : decide ((j : Int) < 400) = true := by simp; omega
          obtain ⟨kb, koff, rfl, hkb, hz⟩ : ∃ b off, ap = some ⟨b, off, none⟩ ∧ b < wr.heap.size ∧ ∀ j, j < lp → wr.cell? ⟨b, off + j, none⟩ = some (.int .i64 (zp j)) ∧ -9223372036854775808 ≤ zp j ∧ zp j ≤ 9223372036854775807 := (ip.on M.two.bel).resolve_left (by omega)
          obtain ⟨d0, dl, du⟩ := hz j (by omega)
          obtain ⟨z, hzz⟩ : ∃ z, zp j = z := ⟨_, rfl⟩
          rw [hzz] at d0 dl du
          clear hz hzz
          obtain ⟨kk, hkk, hk4⟩ : ∃ kk : Nat, kd z 4 = (kk : Int) ∧ kk < 4 := ⟨(kd z 4).toNat, by have := kd_lt z 4 (by decide); omega, by have := kd_lt z 4 (by decide); omega⟩
          have hj0 : (0 : Int) ≤ (j : Int) := by omega
          go_upto_region 22 with (go_at_call 12; refine (cKind _ z 4 dl du (by decide)).mono ?_; rintro e wk ⟨rfl, hwk⟩; rw [hwk, hkk]; clear hwk wk)
          clear d0 hkb hc1 hc2 dl du hkk
          by_cases hk3' : kk = 3
          · as_aux_lemma =>
            have hk3 : ((kk : Int) == 3) = true := by simp [hk3']
            clear hk3'
            obtain ⟨dn, hdn⟩ : ∃ d, ((a.next s).pc == 0) = d := ⟨_, rfl⟩
            go_upto_region 26 with (go_at_call 13; refine (tAsk M.two M.ask okA (by rw [aN]; rfl) (by omega)).mono ?_; rintro e w1 ⟨rfl, T1, A1, o1⟩; rw [hdn])
            have R1 : RAM w w1 zd U34 a := ⟨Blk.oth M.rask.1 o1 (by simpa using Blk.ne M.rask.1 M.ask (by decide)), M.rask.2⟩
            have nb := neBool dn
            go_upto_region 28 with (go_at_call 14; refine (yAsk T1 R1 okA (by rw [aN]; rfl) (by omega)).mono ?_; rintro e w2 ⟨rfl, T2, R2, o2⟩; rw [hdn])
            have A2 : AM w w2 za U34 (a.next s) := Blk.oth A1 o2 (by simpa using Blk.ne A1 R1.1 (by decide))
            have M2 := M.asked T2 ((o1.mono (by simp)).trans (o2.mono (by simp))) A2 R2
            clear M T1 A1 R1 o1 o2 T2 A2 R2 nb hdn hk3
            cases dn with
            | false =>
              go_wp2_with (fail)
              go_roundw
              case rel => exact ⟨j + 1, e, a.mem s, a.next s, za, zd, ow, al, rn, rl, pa, pr, bs, Fs, by omega, he8, rfl, rfl, by go_num, by go_num, M2.mono (by omega), lenA hl, okA.next, by rw [AskS.N_next]; exact aN, hrn⟩
              case measure => simp [intOf]; omega
            | true =>
              by_cases hem : e < lm ∧ e < 8
              · obtain ⟨hem, he⟩ := hem
                have c1 : decide ((e : Int) < (lm : Int)) = true := by simp; omega
                have c2 : decide ((e : Int) < 8) = true := by simp; omega
                obtain ⟨kb, koff, rfl, hkb, hz⟩ : ∃ b off, am = some ⟨b, off, none⟩ ∧ b < w2.heap.size ∧ ∀ j, j < lm → w2.cell? ⟨b, off + j, none⟩ = some (.int .i64 (zm j)) ∧ -9223372036854775808 ≤ zm j ∧ zm j ≤ 9223372036854775807 := (im.on M2.two.bel).resolve_left (by omega)
                obtain ⟨d0, dl, du⟩ := hz e hem
                obtain ⟨z, hzz⟩ : ∃ z, zm e = z := ⟨_, rfl⟩
                rw [hzz] at d0 dl du
                clear hz hzz
                obtain ⟨km, hkm⟩ : ∃ k, kd z 9 = k := ⟨_, rfl⟩
                have eb : (0 : Int) ≤ (e : Int) ∧ (e : Int) < 8 := by omega
                go_upto_region 30 with (go_at_call 12; refine (cKind _ z 9 dl du (by decide)).mono ?_; rintro e wk ⟨rfl, hwk⟩; rw [hwk, hkm]; clear hwk wk)
                have hbx : Below w2.heap.size w2 (w2.alloc (.cells #[.int .i64 ((e : Int) + 1), .int .i64 km, .int .i64 ((e : Int) % 2), .int .i64 ((e : Int) / 2 % 2)] 37)) := (Below.refl _ _).alloc (Nat.le_refl _) _
                have M3 := M2.below hbx
                have Bq : Blk w (w2.alloc (.cells #[.int .i64 ((e : Int) + 1), .int .i64 km, .int .i64 ((e : Int) % 2), .int .i64 ((e : Int) / 2 % 2)] 37)) w2.heap.size 37 #[.int .i64 ((e : Int) + 1), .int .i64 km, .int .i64 ((e : Int) % 2), .int .i64 ((e : Int) / 2 % 2)] := Blk.new M2.two.bel.size _ (by decide)
                clear hbx M2 d0 dl du hkm hkb
                generalize w2.alloc (.cells #[.int .i64 ((e : Int) + 1), .int .i64 km, .int .i64 ((e : Int) % 2), .int .i64 ((e : Int) / 2 % 2)] 37) = w3 at M3 Bq ⊢
                generalize w2.heap.size = qq at Bq ⊢
                obtain ⟨Q, hQ⟩ : ∃ Q : Ph, Q = ⟨(e : Int) + 1, km, (e : Int) % 2, (e : Int) / 2 % 2⟩ := ⟨_, rfl⟩
                have BQ : Blk w w3 qq 37 #[.int .i64 Q.no, .int .i64 Q.md, .int .i64 Q.mr, .int .i64 Q.ls] := by rw [hQ]; exact Bq
                clear hQ Bq
                have x0 : w3.cell? ⟨qp, 0, none⟩ = some (.int .i64 3) := M3.bp.cell 0
                have x1 : w3.cell? ⟨qp, 1, none⟩ = some (.int .i64 4) := M3.bp.cell 1
                have x2 : w3.cell? ⟨qp, 2, none⟩ = some (.int .i64 13) := M3.bp.cell 2
                have x3 : w3.cell? ⟨qp, 3, none⟩ = some (.int .i64 32) := M3.bp.cell 3
                have x4 : w3.cell? ⟨qp, 4, none⟩ = some (.int .i64 160) := M3.bp.cell 4
                have xl := M3.bp.lt
                have y0 : w3.cell? ⟨qq, 0, none⟩ = some (.int .i64 Q.no) := BQ.cell 0
                have y1 : w3.cell? ⟨qq, 1, none⟩ = some (.int .i64 Q.md) := BQ.cell 1
                have y2 : w3.cell? ⟨qq, 2, none⟩ = some (.int .i64 Q.mr) := BQ.cell 2
                have y3 : w3.cell? ⟨qq, 3, none⟩ = some (.int .i64 Q.ls) := BQ.cell 3
                have yl := BQ.lt
                go_upto_region 31 with (go_at_call 10; refine (nAsk (w0 := w) U34 Q 3 M3.two.bel.size).mono ?_; rintro e u7 ⟨za', rfl, MA, hb7, hz7⟩)
                have M4 := M3.below hb7
                have BQ4 := BQ.below hb7
                clear M3 BQ x0 x1 x2 x3 x4 xl y0 y1 y2 y3 yl
                have x0 : u7.cell? ⟨qp, 0, none⟩ = some (.int .i64 3) := M4.bp.cell 0
                have x1 : u7.cell? ⟨qp, 1, none⟩ = some (.int .i64 4) := M4.bp.cell 1
                have x2 : u7.cell? ⟨qp, 2, none⟩ = some (.int .i64 13) := M4.bp.cell 2
                have x3 : u7.cell? ⟨qp, 3, none⟩ = some (.int .i64 32) := M4.bp.cell 3
                have x4 : u7.cell? ⟨qp, 4, none⟩ = some (.int .i64 160) := M4.bp.cell 4
                have xl := M4.bp.lt
                have y0 : u7.cell? ⟨qq, 0, none⟩ = some (.int .i64 Q.no) := BQ4.cell 0
                have y1 : u7.cell? ⟨qq, 1, none⟩ = some (.int .i64 Q.md) := BQ4.cell 1
                have y2 : u7.cell? ⟨qq, 2, none⟩ = some (.int .i64 Q.mr) := BQ4.cell 2
                have y3 : u7.cell? ⟨qq, 3, none⟩ = some (.int .i64 Q.ls) := BQ4.cell 3
                have yl := BQ4.lt
                go_upto_region 32 with (go_at_call 11; refine (nRAsk (w0 := w) U34 Q 3 M4.two.bel.size).mono ?_; rintro e u8 ⟨zd', rfl, MR, hb8, hz8⟩)
                have M6 := (M4.below hb8).again (Blk.below MA hb8) MR
                clear M4 BQ4 MA MR hb7 hb8 hz7 hz8 x0 x1 x2 x3 x4 xl y0 y1 y2 y3 yl
                go_wp2_with (fail)
                go_roundw
                case rel => exact ⟨j + 1, e + 1, a.mem s, AskS.new Q 3, za', zd', ow, al, rn, rl, pa, pr, bs, Fs, by omega, by omega, rfl, rfl, by go_num, by go_num, M6.mono (by omega), lenA hl, okAsk _, rfl, hrn⟩
                case measure => simp [intOf]; omega
              · have hcond : decide ((e : Int) < (lm : Int)) = false ∨ decide ((e : Int) < (lm : Int)) = true ∧ decide ((e : Int) < 8) = false := by
                  rcases Nat.lt_or_ge e lm with h | h
                  · exact .inr ⟨by simp; omega, by simp; omega⟩
                  · exact .inl (by simp; omega)
                clear hem
                rcases hcond with h1 | ⟨h1, h2⟩
                all_goals (
                  go_wp2_with (fail)
                  all_goals first
                    | (exfalso; have := of_decide_eq_false h1; omega)
                    | (go_roundw; (case rel => exact ⟨j + 1, e, a.mem s, a.next s, za, zd, ow, al, rn, rl, pa, pr, bs, Fs, by omega, he8, rfl, rfl, by go_num, by go_num, M2.mono (by omega), lenA hl, okA.next, by rw [AskS.N_next]; exact aN, hrn⟩); (case measure => simp [intOf]; omega)))
          · have hk3 : kk < 3 := by omega
            have hkq : ((kk : Int) == 3) = false := by simp; omega
            have hki3 : (0 : Int) ≤ (kk : Int) ∧ (kk : Int) < 3 := by omega
            clear hk3' hk4
            rcases M.either hk3 with hpa | ⟨p, q, F, x, hpa, hpr, h, ok, nd, hxn⟩
            · as_aux_lemma =>
              obtain ⟨o, ho⟩ : ∃ o, ow kk = o := ⟨_, rfl⟩
              obtain ⟨al0, hal⟩ : ∃ v, al kk = v := ⟨_, rfl⟩
              obtain ⟨n0, hn0⟩ : ∃ n, rn kk = n := ⟨_, rfl⟩
              obtain ⟨l0, hl0⟩ : ∃ l, rl kk = l := ⟨_, rfl⟩
              have hn8 : n0 ≤ 8 := hn0 ▸ hrn kk hk3
              have cp := M.ca hk3 hpa
              have cpl := M.ba.lt
              go_upto_region 34 with (fail)
              clear cp cpl
              have keep : ∀ w', Below wr.heap.size wr w' → w'.cell? ⟨qp, 0, none⟩ = some (.int .i64 3) ∧ w'.cell? ⟨qp, 1, none⟩ = some (.int .i64 4) ∧ w'.cell? ⟨qp, 2, none⟩ = some (.int .i64 13) ∧ w'.cell? ⟨qp, 3, none⟩ = some (.int .i64 32) ∧ w'.cell? ⟨qp, 4, none⟩ = some (.int .i64 160) ∧ w'.cell? ⟨qo, kk * 4, none⟩ = some (.int .i64 o.no) ∧ w'.cell? ⟨qo, kk * 4 + 1, none⟩ = some (.int .i64 o.md) ∧ w'.cell? ⟨qo, kk * 4 + 2, none⟩ = some (.int .i64 o.mr) ∧ w'.cell? ⟨qo, kk * 4 + 3, none⟩ = some (.int .i64 o.ls) ∧ w'.cell? ⟨ql, kk, none⟩ = some (.int .i64 al0) ∧ w'.rangeAt qr (kk * 9) [.int .i64 n0, .int .i64 (l0 0), .int .i64 (l0 1), .int .i64 (l0 2), .int .i64 (l0 3), .int .i64 (l0 4), .int .i64 (l0 5), .int .i64 (l0 6), .int .i64 (l0 7)] := fun w' hb => ⟨(M.below hb).bp.cell 0, (M.below hb).bp.cell 1, (M.below hb).bp.cell 2, (M.below hb).bp.cell 3, (M.below hb).bp.cell 4, ((M.below hb).co hk3 ho).1, ((M.below hb).co hk3 ho).2.1, ((M.below hb).co hk3 ho).2.2.1, ((M.below hb).co hk3 ho).2.2.2, (M.below hb).cl hk3 hal, (M.below hb).rq hk3 hn0 hl0⟩
              have hbd : Below wr.heap.size wr wr.drew := (Below.refl wr.heap.size wr).drew
              have RD := keep _ hbd
              have f1 := M.bp.lt
              have f2 := M.bo.lt
              have f3 := M.bl.lt
              have f4 := M.br.lt
              have f5 := M.ba.lt
              refine wp_region_held_drew (S := fun w' => w'.cell? ⟨qp, 0, none⟩ = some (.int .i64 3) ∧ w'.cell? ⟨qp, 1, none⟩ = some (.int .i64 4) ∧ w'.cell? ⟨qp, 2, none⟩ = some (.int .i64 13) ∧ w'.cell? ⟨qp, 3, none⟩ = some (.int .i64 32) ∧ w'.cell? ⟨qp, 4, none⟩ = some (.int .i64 160) ∧ w'.cell? ⟨qo, kk * 4, none⟩ = some (.int .i64 o.no) ∧ w'.cell? ⟨qo, kk * 4 + 1, none⟩ = some (.int .i64 o.md) ∧ w'.cell? ⟨qo, kk * 4 + 2, none⟩ = some (.int .i64 o.mr) ∧ w'.cell? ⟨qo, kk * 4 + 3, none⟩ = some (.int .i64 o.ls) ∧ w'.cell? ⟨ql, kk, none⟩ = some (.int .i64 al0) ∧ w'.rangeAt qr (kk * 9) [.int .i64 n0, .int .i64 (l0 0), .int .i64 (l0 1), .int .i64 (l0 2), .int .i64 (l0 3), .int .i64 (l0 4), .int .i64 (l0 5), .int .i64 (l0 6), .int .i64 (l0 7)]) (by kernel_rfl) RD (fun hHeld => ?_)
              refine takeH (i := 0) 134 (.int .i64 kk) rfl rfl (by kernel_rfl) (by kernel_rfl) (by kernel_rfl) (fun _ _ _ h => h) (by rfl) ?_ (by assumption) ?_
              · intro w hSw; (try dsimp only at hSw); go_simp
              try simp only [List.setIfInBounds_toArray, List.set_cons_zero, List.set_cons_succ]
              refine takeH (i := 1) 135 (.agg #[.int .i64 3, .int .i64 4, .int .i64 13, .int .i64 32, .int .i64 160]) rfl rfl (by kernel_rfl) (by kernel_rfl) (by kernel_rfl) (fun _ _ _ h => h) (by rfl) ?_ (by assumption) ?_
              · intro w hSw; (try dsimp only at hSw); go_simp
              try simp only [List.setIfInBounds_toArray, List.set_cons_zero, List.set_cons_succ]
              refine takeH (i := 2) 136 (.int .i64 kk) rfl rfl (by kernel_rfl) (by kernel_rfl) (by kernel_rfl) (fun _ _ _ h => h) (by rfl) ?_ (by assumption) ?_
              · intro w hSw; (try dsimp only at hSw); go_simp
              try simp only [List.setIfInBounds_toArray, List.set_cons_zero, List.set_cons_succ]
              refine takeH (i := 3) 137 (.int .i64 kk) rfl rfl (by kernel_rfl) (by kernel_rfl) (by kernel_rfl) (fun _ _ _ h => h) (by rfl) ?_ (by assumption) ?_
              · intro w hSw; (try dsimp only at hSw); go_simp
              try simp only [List.setIfInBounds_toArray, List.set_cons_zero, List.set_cons_succ]
              refine takeH (i := 4) 138 (.pointer (some ⟨qo, kk * 4, none⟩)) rfl rfl (by kernel_rfl) (by kernel_rfl) (by kernel_rfl) (fun _ _ _ h => h) (by rfl) ?_ (by assumption) ?_
              · intro w hSw; (try dsimp only at hSw); go_simp
              try simp only [List.setIfInBounds_toArray, List.set_cons_zero, List.set_cons_succ]
              refine takeH (i := 5) 139 (.agg #[.int .i64 o.no, .int .i64 o.md, .int .i64 o.mr, .int .i64 o.ls]) rfl rfl (by kernel_rfl) (by kernel_rfl) (by kernel_rfl) (fun _ _ _ h => h) (by rfl) ?_ (by assumption) ?_
              · intro w hSw; (try dsimp only at hSw); go_simp
              try simp only [List.setIfInBounds_toArray, List.set_cons_zero, List.set_cons_succ]
              refine takeH (i := 6) 140 (.int .i64 kk) rfl rfl (by kernel_rfl) (by kernel_rfl) (by kernel_rfl) (fun _ _ _ h => h) (by rfl) ?_ (by assumption) ?_
              · intro w hSw; (try dsimp only at hSw); go_simp
              try simp only [List.setIfInBounds_toArray, List.set_cons_zero, List.set_cons_succ]
              refine takeH (i := 7) 141 (.pointer (some ⟨ql, kk, none⟩)) rfl rfl (by kernel_rfl) (by kernel_rfl) (by kernel_rfl) (fun _ _ _ h => h) (by rfl) ?_ (by assumption) ?_
              · intro w hSw; (try dsimp only at hSw); go_simp
              try simp only [List.setIfInBounds_toArray, List.set_cons_zero, List.set_cons_succ]
              refine takeH (i := 8) 142 (.int .i64 al0) rfl rfl (by kernel_rfl) (by kernel_rfl) (by kernel_rfl) (fun _ _ _ h => h) (by rfl) ?_ (by assumption) ?_
              · intro w hSw; (try dsimp only at hSw); go_simp
              try simp only [List.setIfInBounds_toArray, List.set_cons_zero, List.set_cons_succ]
              refine takeH (i := 9) 143 (.int .i64 kk) rfl rfl (by kernel_rfl) (by kernel_rfl) (by kernel_rfl) (fun _ _ _ h => h) (by rfl) ?_ (by assumption) ?_
              · intro w hSw; (try dsimp only at hSw); go_simp
              try simp only [List.setIfInBounds_toArray, List.set_cons_zero, List.set_cons_succ]
              refine takeH (i := 10) 144 (.pointer (some ⟨qr, kk * 9, none⟩)) rfl rfl (by kernel_rfl) (by kernel_rfl) (by kernel_rfl) (fun _ _ _ h => h) (by rfl) ?_ (by assumption) ?_
              · intro w hSw; (try dsimp only at hSw); go_simp
              try simp only [List.setIfInBounds_toArray, List.set_cons_zero, List.set_cons_succ]
              refine takeH (i := 11) 145 (.agg #[.int .i64 n0, .int .i64 (l0 0), .int .i64 (l0 1), .int .i64 (l0 2), .int .i64 (l0 3), .int .i64 (l0 4), .int .i64 (l0 5), .int .i64 (l0 6), .int .i64 (l0 7)]) rfl rfl (by kernel_rfl) (by kernel_rfl) (by kernel_rfl) (fun _ _ _ h => h) (by rfl) (fun w hSw => yRoots (.tmp 144) rfl qr (kk * 9) rfl [.int .i64 n0, .int .i64 (l0 0), .int .i64 (l0 1), .int .i64 (l0 2), .int .i64 (l0 3), .int .i64 (l0 4), .int .i64 (l0 5), .int .i64 (l0 6), .int .i64 (l0 7)] rfl (hSw.2.2.2.2.2.2.2.2.2.2)) (by assumption) ?_
              simp only [List.setIfInBounds_toArray, List.set_cons_zero, List.set_cons_succ]
              refine wpAnyH_ready (rs := [12]) (by kernel_rfl) (by simp) ?_
              refine AllReadyH.cons rfl (fun K hK => ?_) AllReadyH.nil
              go_simp
              go_at_call 15
              refine (nPoll (w0 := w) U34 (i := (kk : Int)) (by omega) (by omega) o al0 n0 l0 (Nat.le_trans M.two.bel.size hbd.size)).mono ?_
              rintro e w5 ⟨p, rfl, MB, hb5', hz5⟩
              have hb5 : Below wr.heap.size wr w5 := bel_trans hbd hb5'
              obtain ⟨M6, P6, D6⟩ := M.born1 hk3 hb5 MB (Nat.le_trans hbd.size hz5)
              have S5 := keep _ hb5
              have S6 : (w5.setCell ⟨qa, kk, none⟩ (pt p)).cell? ⟨qp, 0, none⟩ = some (.int .i64 3) ∧ (w5.setCell ⟨qa, kk, none⟩ (pt p)).cell? ⟨qp, 1, none⟩ = some (.int .i64 4) ∧ (w5.setCell ⟨qa, kk, none⟩ (pt p)).cell? ⟨qp, 2, none⟩ = some (.int .i64 13) ∧ (w5.setCell ⟨qa, kk, none⟩ (pt p)).cell? ⟨qp, 3, none⟩ = some (.int .i64 32) ∧ (w5.setCell ⟨qa, kk, none⟩ (pt p)).cell? ⟨qp, 4, none⟩ = some (.int .i64 160) ∧ (w5.setCell ⟨qa, kk, none⟩ (pt p)).cell? ⟨qo, kk * 4, none⟩ = some (.int .i64 o.no) ∧ (w5.setCell ⟨qa, kk, none⟩ (pt p)).cell? ⟨qo, kk * 4 + 1, none⟩ = some (.int .i64 o.md) ∧ (w5.setCell ⟨qa, kk, none⟩ (pt p)).cell? ⟨qo, kk * 4 + 2, none⟩ = some (.int .i64 o.mr) ∧ (w5.setCell ⟨qa, kk, none⟩ (pt p)).cell? ⟨qo, kk * 4 + 3, none⟩ = some (.int .i64 o.ls) ∧ (w5.setCell ⟨qa, kk, none⟩ (pt p)).cell? ⟨ql, kk, none⟩ = some (.int .i64 al0) ∧ (w5.setCell ⟨qa, kk, none⟩ (pt p)).rangeAt qr (kk * 9) [.int .i64 n0, .int .i64 (l0 0), .int .i64 (l0 1), .int .i64 (l0 2), .int .i64 (l0 3), .int .i64 (l0 4), .int .i64 (l0 5), .int .i64 (l0 6), .int .i64 (l0 7)] := ⟨M6.bp.cell 0, M6.bp.cell 1, M6.bp.cell 2, M6.bp.cell 3, M6.bp.cell 4, (M6.co hk3 ho).1, (M6.co hk3 ho).2.1, (M6.co hk3 ho).2.2.1, (M6.co hk3 ho).2.2.2, M6.cl hk3 hal, M6.rq hk3 hn0 hl0⟩
              have ca5 := (M.below hb5).ca hk3 hpa
              have caf5 := (M.below hb5).ba.free kk
              have cal5 := (M.below hb5).ba.lt
              refine hK.out _ _ S5 (fun hHeld => ?_)
              clear hK K
              try simp only [Act.put, List.setIfInBounds_toArray, List.set_cons_zero, List.set_cons_succ]
              refine takeH (i := 13) 147 (.pointer (some ⟨qa, kk, none⟩)) rfl rfl (by kernel_rfl) (by kernel_rfl) (by kernel_rfl) (fun _ _ _ h => h) (by rfl) ?_ (by assumption) ?_
              · intro w hSw; (try dsimp only at hSw); go_simp
              try simp only [List.setIfInBounds_toArray, List.set_cons_zero, List.set_cons_succ]
              refine wpAnyH_ready (rs := [14]) (by kernel_rfl) (by simp) ?_
              refine AllReadyH.cons rfl (fun K hK => ?_) AllReadyH.nil
              go_simp
              refine hK.out _ _ S6 (fun hHeld => ?_)
              clear hK K
              try simp only [Act.put, List.setIfInBounds_toArray, List.set_cons_zero, List.set_cons_succ]
              refine wpAnyH_done (by kernel_rfl) ?_ _
              clear keep RD f1 f2 f3 f4 f5 ca5 caf5 cal5 S5 S6 MB hb5 hb5' hz5 M hbd
              generalize w5.setCell ⟨qa, kk, none⟩ (pt p) = w6 at M6 P6 ⊢
              go_upto_region 35 with (fail)
              have keep : ∀ w', Below w6.heap.size w6 w' → w'.cell? ⟨qp, 0, none⟩ = some (.int .i64 3) ∧ w'.cell? ⟨qp, 1, none⟩ = some (.int .i64 4) ∧ w'.cell? ⟨qp, 2, none⟩ = some (.int .i64 13) ∧ w'.cell? ⟨qp, 3, none⟩ = some (.int .i64 32) ∧ w'.cell? ⟨qp, 4, none⟩ = some (.int .i64 160) ∧ w'.cell? ⟨qo, kk * 4, none⟩ = some (.int .i64 o.no) ∧ w'.cell? ⟨qo, kk * 4 + 1, none⟩ = some (.int .i64 o.md) ∧ w'.cell? ⟨qo, kk * 4 + 2, none⟩ = some (.int .i64 o.mr) ∧ w'.cell? ⟨qo, kk * 4 + 3, none⟩ = some (.int .i64 o.ls) ∧ w'.cell? ⟨ql, kk, none⟩ = some (.int .i64 al0) ∧ w'.rangeAt qr (kk * 9) [.int .i64 n0, .int .i64 (l0 0), .int .i64 (l0 1), .int .i64 (l0 2), .int .i64 (l0 3), .int .i64 (l0 4), .int .i64 (l0 5), .int .i64 (l0 6), .int .i64 (l0 7)] := fun w' hb => ⟨(M6.below hb).bp.cell 0, (M6.below hb).bp.cell 1, (M6.below hb).bp.cell 2, (M6.below hb).bp.cell 3, (M6.below hb).bp.cell 4, ((M6.below hb).co hk3 ho).1, ((M6.below hb).co hk3 ho).2.1, ((M6.below hb).co hk3 ho).2.2.1, ((M6.below hb).co hk3 ho).2.2.2, (M6.below hb).cl hk3 hal, (M6.below hb).rq hk3 hn0 hl0⟩
              have hbd : Below w6.heap.size w6 w6.drew := (Below.refl w6.heap.size w6).drew
              have RD := keep _ hbd
              have f1 := M6.bp.lt
              have f2 := M6.bo.lt
              have f3 := M6.bl.lt
              have f4 := M6.br.lt
              have f5 := M6.bb.lt
              obtain ⟨v0, hv0⟩ : ∃ v, pr kk = v := ⟨_, rfl⟩
              refine wp_region_held_drew (S := fun w' => w'.cell? ⟨qp, 0, none⟩ = some (.int .i64 3) ∧ w'.cell? ⟨qp, 1, none⟩ = some (.int .i64 4) ∧ w'.cell? ⟨qp, 2, none⟩ = some (.int .i64 13) ∧ w'.cell? ⟨qp, 3, none⟩ = some (.int .i64 32) ∧ w'.cell? ⟨qp, 4, none⟩ = some (.int .i64 160) ∧ w'.cell? ⟨qo, kk * 4, none⟩ = some (.int .i64 o.no) ∧ w'.cell? ⟨qo, kk * 4 + 1, none⟩ = some (.int .i64 o.md) ∧ w'.cell? ⟨qo, kk * 4 + 2, none⟩ = some (.int .i64 o.mr) ∧ w'.cell? ⟨qo, kk * 4 + 3, none⟩ = some (.int .i64 o.ls) ∧ w'.cell? ⟨ql, kk, none⟩ = some (.int .i64 al0) ∧ w'.rangeAt qr (kk * 9) [.int .i64 n0, .int .i64 (l0 0), .int .i64 (l0 1), .int .i64 (l0 2), .int .i64 (l0 3), .int .i64 (l0 4), .int .i64 (l0 5), .int .i64 (l0 6), .int .i64 (l0 7)]) (by kernel_rfl) RD (fun hHeld => ?_)
              refine takeH (i := 0) 148 (.int .i64 kk) rfl rfl (by kernel_rfl) (by kernel_rfl) (by kernel_rfl) (fun _ _ _ h => h) (by rfl) ?_ (by assumption) ?_
              · intro w hSw; (try dsimp only at hSw); go_simp
              try simp only [List.setIfInBounds_toArray, List.set_cons_zero, List.set_cons_succ]
              refine takeH (i := 1) 149 (.agg #[.int .i64 3, .int .i64 4, .int .i64 13, .int .i64 32, .int .i64 160]) rfl rfl (by kernel_rfl) (by kernel_rfl) (by kernel_rfl) (fun _ _ _ h => h) (by rfl) ?_ (by assumption) ?_
              · intro w hSw; (try dsimp only at hSw); go_simp
              try simp only [List.setIfInBounds_toArray, List.set_cons_zero, List.set_cons_succ]
              refine takeH (i := 2) 150 (.int .i64 kk) rfl rfl (by kernel_rfl) (by kernel_rfl) (by kernel_rfl) (fun _ _ _ h => h) (by rfl) ?_ (by assumption) ?_
              · intro w hSw; (try dsimp only at hSw); go_simp
              try simp only [List.setIfInBounds_toArray, List.set_cons_zero, List.set_cons_succ]
              refine takeH (i := 3) 151 (.int .i64 kk) rfl rfl (by kernel_rfl) (by kernel_rfl) (by kernel_rfl) (fun _ _ _ h => h) (by rfl) ?_ (by assumption) ?_
              · intro w hSw; (try dsimp only at hSw); go_simp
              try simp only [List.setIfInBounds_toArray, List.set_cons_zero, List.set_cons_succ]
              refine takeH (i := 4) 152 (.pointer (some ⟨qo, kk * 4, none⟩)) rfl rfl (by kernel_rfl) (by kernel_rfl) (by kernel_rfl) (fun _ _ _ h => h) (by rfl) ?_ (by assumption) ?_
              · intro w hSw; (try dsimp only at hSw); go_simp
              try simp only [List.setIfInBounds_toArray, List.set_cons_zero, List.set_cons_succ]
              refine takeH (i := 5) 153 (.agg #[.int .i64 o.no, .int .i64 o.md, .int .i64 o.mr, .int .i64 o.ls]) rfl rfl (by kernel_rfl) (by kernel_rfl) (by kernel_rfl) (fun _ _ _ h => h) (by rfl) ?_ (by assumption) ?_
              · intro w hSw; (try dsimp only at hSw); go_simp
              try simp only [List.setIfInBounds_toArray, List.set_cons_zero, List.set_cons_succ]
              refine takeH (i := 6) 154 (.int .i64 kk) rfl rfl (by kernel_rfl) (by kernel_rfl) (by kernel_rfl) (fun _ _ _ h => h) (by rfl) ?_ (by assumption) ?_
              · intro w hSw; (try dsimp only at hSw); go_simp
              try simp only [List.setIfInBounds_toArray, List.set_cons_zero, List.set_cons_succ]
              refine takeH (i := 7) 155 (.pointer (some ⟨ql, kk, none⟩)) rfl rfl (by kernel_rfl) (by kernel_rfl) (by kernel_rfl) (fun _ _ _ h => h) (by rfl) ?_ (by assumption) ?_
              · intro w hSw; (try dsimp only at hSw); go_simp
              try simp only [List.setIfInBounds_toArray, List.set_cons_zero, List.set_cons_succ]
              refine takeH (i := 8) 156 (.int .i64 al0) rfl rfl (by kernel_rfl) (by kernel_rfl) (by kernel_rfl) (fun _ _ _ h => h) (by rfl) ?_ (by assumption) ?_
              · intro w hSw; (try dsimp only at hSw); go_simp
              try simp only [List.setIfInBounds_toArray, List.set_cons_zero, List.set_cons_succ]
              refine takeH (i := 9) 157 (.int .i64 kk) rfl rfl (by kernel_rfl) (by kernel_rfl) (by kernel_rfl) (fun _ _ _ h => h) (by rfl) ?_ (by assumption) ?_
              · intro w hSw; (try dsimp only at hSw); go_simp
              try simp only [List.setIfInBounds_toArray, List.set_cons_zero, List.set_cons_succ]
              refine takeH (i := 10) 158 (.pointer (some ⟨qr, kk * 9, none⟩)) rfl rfl (by kernel_rfl) (by kernel_rfl) (by kernel_rfl) (fun _ _ _ h => h) (by rfl) ?_ (by assumption) ?_
              · intro w hSw; (try dsimp only at hSw); go_simp
              try simp only [List.setIfInBounds_toArray, List.set_cons_zero, List.set_cons_succ]
              refine takeH (i := 11) 159 (.agg #[.int .i64 n0, .int .i64 (l0 0), .int .i64 (l0 1), .int .i64 (l0 2), .int .i64 (l0 3), .int .i64 (l0 4), .int .i64 (l0 5), .int .i64 (l0 6), .int .i64 (l0 7)]) rfl rfl (by kernel_rfl) (by kernel_rfl) (by kernel_rfl) (fun _ _ _ h => h) (by rfl) (fun w hSw => yRoots (.tmp 158) rfl qr (kk * 9) rfl [.int .i64 n0, .int .i64 (l0 0), .int .i64 (l0 1), .int .i64 (l0 2), .int .i64 (l0 3), .int .i64 (l0 4), .int .i64 (l0 5), .int .i64 (l0 6), .int .i64 (l0 7)] rfl (hSw.2.2.2.2.2.2.2.2.2.2)) (by assumption) ?_
              simp only [List.setIfInBounds_toArray, List.set_cons_zero, List.set_cons_succ]
              refine wpAnyH_ready (rs := [12]) (by kernel_rfl) (by simp) ?_
              refine AllReadyH.cons rfl (fun K hK => ?_) AllReadyH.nil
              go_simp
              go_at_call 16
              refine (nRPoll (w0 := w) U34 (i := (kk : Int)) (by omega) (by omega) o al0 n0 l0 (Nat.le_trans M6.two.bel.size hbd.size)).mono ?_
              rintro e w7 ⟨q, rfl, MB, hb7', hz7⟩
              have hb7 : Below w6.heap.size w6 w7 := bel_trans hbd hb7'
              have H8 := M6.born2 hk3 P6 D6 hb7 MB (Nat.le_trans hbd.size hz7)
              have S5 := keep _ hb7
              have S7 : (w7.setCell ⟨qb, kk, none⟩ (pt q)).cell? ⟨qp, 0, none⟩ = some (.int .i64 3) ∧ (w7.setCell ⟨qb, kk, none⟩ (pt q)).cell? ⟨qp, 1, none⟩ = some (.int .i64 4) ∧ (w7.setCell ⟨qb, kk, none⟩ (pt q)).cell? ⟨qp, 2, none⟩ = some (.int .i64 13) ∧ (w7.setCell ⟨qb, kk, none⟩ (pt q)).cell? ⟨qp, 3, none⟩ = some (.int .i64 32) ∧ (w7.setCell ⟨qb, kk, none⟩ (pt q)).cell? ⟨qp, 4, none⟩ = some (.int .i64 160) ∧ (w7.setCell ⟨qb, kk, none⟩ (pt q)).cell? ⟨qo, kk * 4, none⟩ = some (.int .i64 o.no) ∧ (w7.setCell ⟨qb, kk, none⟩ (pt q)).cell? ⟨qo, kk * 4 + 1, none⟩ = some (.int .i64 o.md) ∧ (w7.setCell ⟨qb, kk, none⟩ (pt q)).cell? ⟨qo, kk * 4 + 2, none⟩ = some (.int .i64 o.mr) ∧ (w7.setCell ⟨qb, kk, none⟩ (pt q)).cell? ⟨qo, kk * 4 + 3, none⟩ = some (.int .i64 o.ls) ∧ (w7.setCell ⟨qb, kk, none⟩ (pt q)).cell? ⟨ql, kk, none⟩ = some (.int .i64 al0) ∧ (w7.setCell ⟨qb, kk, none⟩ (pt q)).rangeAt qr (kk * 9) [.int .i64 n0, .int .i64 (l0 0), .int .i64 (l0 1), .int .i64 (l0 2), .int .i64 (l0 3), .int .i64 (l0 4), .int .i64 (l0 5), .int .i64 (l0 6), .int .i64 (l0 7)] := ⟨H8.ap.bp.cell 0, H8.ap.bp.cell 1, H8.ap.bp.cell 2, H8.ap.bp.cell 3, H8.ap.bp.cell 4, (H8.ap.co hk3 ho).1, (H8.ap.co hk3 ho).2.1, (H8.ap.co hk3 ho).2.2.1, (H8.ap.co hk3 ho).2.2.2, H8.ap.cl hk3 hal, H8.ap.rq hk3 hn0 hl0⟩
              have ca7 := (M6.below hb7).cr hk3 hv0
              have caf7 := (M6.below hb7).bb.free kk
              have cal7 := (M6.below hb7).bb.lt
              refine hK.out _ _ S5 (fun hHeld => ?_)
              clear hK K
              try simp only [Act.put, List.setIfInBounds_toArray, List.set_cons_zero, List.set_cons_succ]
              refine takeH (i := 13) 161 (.pointer (some ⟨qb, kk, none⟩)) rfl rfl (by kernel_rfl) (by kernel_rfl) (by kernel_rfl) (fun _ _ _ h => h) (by rfl) ?_ (by assumption) ?_
              · intro w hSw; (try dsimp only at hSw); go_simp
              try simp only [List.setIfInBounds_toArray, List.set_cons_zero, List.set_cons_succ]
              refine wpAnyH_ready (rs := [14]) (by kernel_rfl) (by simp) ?_
              refine AllReadyH.cons rfl (fun K hK => ?_) AllReadyH.nil
              go_simp
              refine hK.out _ _ S7 (fun hHeld => ?_)
              clear hK K
              try simp only [Act.put, List.setIfInBounds_toArray, List.set_cons_zero, List.set_cons_succ]
              refine wpAnyH_done (by kernel_rfl) ?_ _
              clear keep RD f1 f2 f3 f4 f5 ca7 caf7 cal7 S5 S7 MB hb7 hb7' hz7 M6 P6 D6 hbd hv0
              generalize w7.setCell ⟨qb, kk, none⟩ (pt q) = wB at H8 ⊢
              obtain ⟨x, hx⟩ : ∃ x, PollS.new (10 + (kk : Int)) o al0 n0 l0 = x := ⟨_, rfl⟩
              have ok : x.wh.Ok := by rw [← hx]; trivial
              have nd : x.wh.pc ≠ 0 := by rw [← hx]; simp [PollS.new, Wh.pc]
              have n8 : x.n ≤ 8 := by rw [← hx]; exact hn8
              rw [hx] at H8
              have hpa' : updN pa kk (pt p) kk = pt p := updN_at _ _ _
              have hpr' : updN pr kk (pt q) kk = pt q := updN_at _ _ _
              clear hx ho hal hn0 hl0 hn8 hpa
              generalize updN pa kk (pt p) = pa' at H8 hpa'
              generalize updN pr kk (pt q) = pr' at H8 hpr'
              have h := H8
              clear H8
              obtain ⟨dn, hdn⟩ : ∃ d, ((x.next s).wh.pc == 0) = d := ⟨_, rfl⟩
              have cp := h.ap.ca hk3 hpa'
              have cpl := h.ap.ba.lt
              have rng := h.ap.two.rng1
              go_upto_region 39 with (go_at_call 17; refine (h.poll ok nd n8 (by omega)).mono ?_; rintro e w1 ⟨rfl, h1⟩; rw [hdn])
              clear cp cpl
              have cp := h1.ap.ca hk3 hpa'
              have cpl := h1.ap.ba.lt
              obtain ⟨x', hx'⟩ : ∃ x', x.next s = x' := ⟨_, rfl⟩
              rw [hx'] at h1 hdn
              go_upto_region 40 with (go_at_call 18; refine (hResult h1.pm).mono ?_; rintro e w2 ⟨rfl, hb2⟩)
              clear cp cpl
              have hbb : Below w2.heap.size w2 ((w2.alloc (.cells #[.int .i64 x'.own.no, .int .i64 x'.own.md, .int .i64 x'.own.mr, .int .i64 x'.own.ls] 37)).alloc (.cells #[.int .i64 x'.n, .int .i64 (x'.l 0), .int .i64 (x'.l 1), .int .i64 (x'.l 2), .int .i64 (x'.l 3), .int .i64 (x'.l 4), .int .i64 (x'.l 5), .int .i64 (x'.l 6), .int .i64 (x'.l 7)] 42)) := ((Below.refl _ _).alloc (Nat.le_refl _) _).alloc (by simp) _
              have h3 := (h1.below hb2).below hbb
              have Bo3 : Blk w ((w2.alloc (.cells #[.int .i64 x'.own.no, .int .i64 x'.own.md, .int .i64 x'.own.mr, .int .i64 x'.own.ls] 37)).alloc (.cells #[.int .i64 x'.n, .int .i64 (x'.l 0), .int .i64 (x'.l 1), .int .i64 (x'.l 2), .int .i64 (x'.l 3), .int .i64 (x'.l 4), .int .i64 (x'.l 5), .int .i64 (x'.l 6), .int .i64 (x'.l 7)] 42)) w2.heap.size 37 x'.own.cells := (Blk.new (Nat.le_trans h1.ap.two.bel.size hb2.size) _ (by decide)).below ((Below.refl _ _).alloc (Nat.le_refl _) _)
              have Br3 : Blk w ((w2.alloc (.cells #[.int .i64 x'.own.no, .int .i64 x'.own.md, .int .i64 x'.own.mr, .int .i64 x'.own.ls] 37)).alloc (.cells #[.int .i64 x'.n, .int .i64 (x'.l 0), .int .i64 (x'.l 1), .int .i64 (x'.l 2), .int .i64 (x'.l 3), .int .i64 (x'.l 4), .int .i64 (x'.l 5), .int .i64 (x'.l 6), .int .i64 (x'.l 7)] 42)) (w2.heap.size + 1) 42 #[.int .i64 x'.n, .int .i64 (x'.l 0), .int .i64 (x'.l 1), .int .i64 (x'.l 2), .int .i64 (x'.l 3), .int .i64 (x'.l 4), .int .i64 (x'.l 5), .int .i64 (x'.l 6), .int .i64 (x'.l 7)] := by
                have := Blk.new (w := w2.alloc (.cells #[.int .i64 x'.own.no, .int .i64 x'.own.md, .int .i64 x'.own.mr, .int .i64 x'.own.ls] 37)) (Nat.le_trans (Nat.le_trans h1.ap.two.bel.size hb2.size) ((Below.refl w2.heap.size w2).alloc (Nat.le_refl _) (.cells #[.int .i64 x'.own.no, .int .i64 x'.own.md, .int .i64 x'.own.mr, .int .i64 x'.own.ls] 37)).size) #[.int .i64 x'.n, .int .i64 (x'.l 0), .int .i64 (x'.l 1), .int .i64 (x'.l 2), .int .i64 (x'.l 3), .int .i64 (x'.l 4), .int .i64 (x'.l 5), .int .i64 (x'.l 6), .int .i64 (x'.l 7)] (T := 42) (by decide)
                simpa using this
              clear h1 hbb hb2 h
              generalize (w2.alloc (.cells #[.int .i64 x'.own.no, .int .i64 x'.own.md, .int .i64 x'.own.mr, .int .i64 x'.own.ls] 37)).alloc (.cells #[.int .i64 x'.n, .int .i64 (x'.l 0), .int .i64 (x'.l 1), .int .i64 (x'.l 2), .int .i64 (x'.l 3), .int .i64 (x'.l 4), .int .i64 (x'.l 5), .int .i64 (x'.l 6), .int .i64 (x'.l 7)] 42) = w3 at h3 Bo3 Br3 ⊢
              generalize w2.heap.size + 1 = qs at Br3 ⊢
              generalize w2.heap.size = qw at Bo3 ⊢
              have v0 : w3.cell? ⟨qw, 0, none⟩ = some (.int .i64 x'.own.no) := Bo3.cell 0
              have v1 : w3.cell? ⟨qw, 1, none⟩ = some (.int .i64 x'.own.md) := Bo3.cell 1
              have v2 : w3.cell? ⟨qw, 2, none⟩ = some (.int .i64 x'.own.mr) := Bo3.cell 2
              have v3 : w3.cell? ⟨qw, 3, none⟩ = some (.int .i64 x'.own.ls) := Bo3.cell 3
              have vl := Bo3.lt
              refine wp_region_lit ?_
              refine wpList_plain rfl fun K hK => ?_
              go_simp
              refine hK _ _ ?_
              refine wpList_plain rfl fun K hK => ?_
              go_simp
              refine hK _ _ ?_
              refine wpList_plain rfl fun K hK => ?_
              go_simp
              refine hK _ _ ?_
              refine wpList_store_mid rfl 37 (.tmp 181) (.tmp 180) rfl qo (kk * 4) #[.int .i64 x'.own.no, .int .i64 x'.own.md, .int .i64 x'.own.mr, .int .i64 x'.own.ls] rfl rfl (blkThere h3.ap.bo (show kk * 4 + 4 ≤ 12 by omega)) (by kernel_rfl) (by kernel_rfl) ?_
              refine wpList_nil ?_
              simp only [setCells4]
              clear v0 v1 v2 v3 vl Bo3
              have h4 := h3.setO hk3 x'.own
              have Br4 := Br3.oth (othO (qo := qo) (k := kk) w3 x'.own) (by simpa using Br3.ne h3.ap.bo (by decide))
              clear h3 Br3
              generalize ((((w3.setCell ⟨qo, kk * 4, none⟩ (.int .i64 x'.own.no)).setCell ⟨qo, kk * 4 + 1, none⟩ (.int .i64 x'.own.md)).setCell ⟨qo, kk * 4 + 2, none⟩ (.int .i64 x'.own.mr)).setCell ⟨qo, kk * 4 + 3, none⟩ (.int .i64 x'.own.ls)) = w4 at h4 Br4 ⊢
              obtain ⟨aa, haa⟩ : ∃ v, al kk = v := ⟨_, rfl⟩
              have l0 := h4.ap.cl hk3 haa
              have lf0 := h4.ap.bl.free kk
              have ll := h4.ap.bl.lt
              go_upto_region 42 with (fail)
              clear l0 lf0 ll haa aa
              have h5 := h4.setL hk3 x'.al
              have Br5 := Br4.oth (show Oth [ql] w4 (w4.setCell ⟨ql, kk, none⟩ (.int .i64 x'.al)) from Oth.set _ _ _ _ (by simp)) (by simpa using Br4.ne h4.ap.bl (by decide))
              clear h4 Br4
              generalize w4.setCell ⟨ql, kk, none⟩ (.int .i64 x'.al) = w5 at h5 Br5 ⊢
              refine wp_region_lit ?_
              refine wpList_plain rfl fun K hK => ?_
              go_simp
              refine hK _ _ ?_
              refine wpList_ldRoots rfl (.tmp 28) rfl qs 0 rfl [.int .i64 x'.n, .int .i64 (x'.l 0), .int .i64 (x'.l 1), .int .i64 (x'.l 2), .int .i64 (x'.l 3), .int .i64 (x'.l 4), .int .i64 (x'.l 5), .int .i64 (x'.l 6), .int .i64 (x'.l 7)] rfl (blkRange Br5) ?_
              simp only [Act.put, List.setIfInBounds_toArray, List.set_cons_zero, List.set_cons_succ]
              refine wpList_plain rfl fun K hK => ?_
              go_simp
              refine hK _ _ ?_
              refine wpList_store_mid rfl 42 (.tmp 187) (.tmp 186) rfl qr (kk * 9) #[.int .i64 x'.n, .int .i64 (x'.l 0), .int .i64 (x'.l 1), .int .i64 (x'.l 2), .int .i64 (x'.l 3), .int .i64 (x'.l 4), .int .i64 (x'.l 5), .int .i64 (x'.l 6), .int .i64 (x'.l 7)] rfl rfl (blkThere h5.ap.br (show kk * 9 + 9 ≤ 27 by omega)) (by kernel_rfl) (by kernel_rfl) ?_
              refine wpList_nil ?_
              simp only [Act.put]
              simp only [setCells9]
              clear Br5
              have h6 := h5.setQ hk3 x'.n x'.l
              clear h5
              generalize (((((((((w5.setCell ⟨qr, kk * 9, none⟩ (.int .i64 x'.n)).setCell ⟨qr, kk * 9 + 1, none⟩ (.int .i64 (x'.l 0))).setCell ⟨qr, kk * 9 + 2, none⟩ (.int .i64 (x'.l 1))).setCell ⟨qr, kk * 9 + 3, none⟩ (.int .i64 (x'.l 2))).setCell ⟨qr, kk * 9 + 4, none⟩ (.int .i64 (x'.l 3))).setCell ⟨qr, kk * 9 + 5, none⟩ (.int .i64 (x'.l 4))).setCell ⟨qr, kk * 9 + 6, none⟩ (.int .i64 (x'.l 5))).setCell ⟨qr, kk * 9 + 7, none⟩ (.int .i64 (x'.l 6))).setCell ⟨qr, kk * 9 + 8, none⟩ (.int .i64 (x'.l 7))) = w6 at h6 ⊢
              go_upto_region 43 with (fail)
              have hbd : Below w6.heap.size w6 w6.drew := (Below.refl w6.heap.size w6).drew
              have h6d := h6.below hbd
              have RD : w6.drew.cell? ⟨qb, kk, none⟩ = some (pt q) ∧ w6.drew.cell? ⟨qo, kk * 4, none⟩ = some (.int .i64 x'.own.no) ∧ w6.drew.cell? ⟨qo, kk * 4 + 1, none⟩ = some (.int .i64 x'.own.md) ∧ w6.drew.cell? ⟨qo, kk * 4 + 2, none⟩ = some (.int .i64 x'.own.mr) ∧ w6.drew.cell? ⟨qo, kk * 4 + 3, none⟩ = some (.int .i64 x'.own.ls) ∧ w6.drew.cell? ⟨ql, kk, none⟩ = some (.int .i64 x'.al) ∧ w6.drew.rangeAt qr (kk * 9) [.int .i64 x'.n, .int .i64 (x'.l 0), .int .i64 (x'.l 1), .int .i64 (x'.l 2), .int .i64 (x'.l 3), .int .i64 (x'.l 4), .int .i64 (x'.l 5), .int .i64 (x'.l 6), .int .i64 (x'.l 7)] := ⟨h6d.ap.cr hk3 hpr', (h6d.ap.co hk3 (updN_at _ _ _)).1, (h6d.ap.co hk3 (updN_at _ _ _)).2.1, (h6d.ap.co hk3 (updN_at _ _ _)).2.2.1, (h6d.ap.co hk3 (updN_at _ _ _)).2.2.2, h6d.ap.cl hk3 (updN_at _ _ _), h6d.ap.rq hk3 (updN_at _ _ _) (updN_at _ _ _)⟩
              have kbl := h6d.ap.bb.lt
              have nb := neBool dn
              have np := nePh x'.own.no x'.own.md x'.own.mr x'.own.ls
              have nr := neRoots x'.n x'.l
              have na : (x'.al != x'.al) = false := by simp
              refine wp_region_held_drew (S := fun w' => w'.cell? ⟨qb, kk, none⟩ = some (pt q) ∧ w'.cell? ⟨qo, kk * 4, none⟩ = some (.int .i64 x'.own.no) ∧ w'.cell? ⟨qo, kk * 4 + 1, none⟩ = some (.int .i64 x'.own.md) ∧ w'.cell? ⟨qo, kk * 4 + 2, none⟩ = some (.int .i64 x'.own.mr) ∧ w'.cell? ⟨qo, kk * 4 + 3, none⟩ = some (.int .i64 x'.own.ls) ∧ w'.cell? ⟨ql, kk, none⟩ = some (.int .i64 x'.al) ∧ w'.rangeAt qr (kk * 9) [.int .i64 x'.n, .int .i64 (x'.l 0), .int .i64 (x'.l 1), .int .i64 (x'.l 2), .int .i64 (x'.l 3), .int .i64 (x'.l 4), .int .i64 (x'.l 5), .int .i64 (x'.l 6), .int .i64 (x'.l 7)]) (by kernel_rfl) RD (fun hHeld => ?_)
              refine takeH (i := 0) 188 (.bool dn) rfl rfl (by kernel_rfl) (by kernel_rfl) (by kernel_rfl) (fun _ _ _ h => h) (by rfl) ?_ (by assumption) ?_
              · intro w hSw; (try dsimp only at hSw); go_simp
              try simp only [List.setIfInBounds_toArray, List.set_cons_zero, List.set_cons_succ]
              refine takeH (i := 1) 189 (.int .i64 kk) rfl rfl (by kernel_rfl) (by kernel_rfl) (by kernel_rfl) (fun _ _ _ h => h) (by rfl) ?_ (by assumption) ?_
              · intro w hSw; (try dsimp only at hSw); go_simp
              try simp only [List.setIfInBounds_toArray, List.set_cons_zero, List.set_cons_succ]
              refine takeH (i := 2) 190 (.pointer (some ⟨qb, kk, none⟩)) rfl rfl (by kernel_rfl) (by kernel_rfl) (by kernel_rfl) (fun _ _ _ h => h) (by rfl) ?_ (by assumption) ?_
              · intro w hSw; (try dsimp only at hSw); go_simp
              try simp only [List.setIfInBounds_toArray, List.set_cons_zero, List.set_cons_succ]
              refine takeH (i := 3) 191 (pt q) rfl rfl (by kernel_rfl) (by kernel_rfl) (by kernel_rfl) (fun _ _ _ h => h) (by rfl) ?_ (by assumption) ?_
              · intro w hSw; (try dsimp only at hSw); go_simp
              try simp only [List.setIfInBounds_toArray, List.set_cons_zero, List.set_cons_succ]
              refine takeH (i := 4) 192 (.pointer (some ⟨y, 0, none⟩)) rfl rfl (by kernel_rfl) (by kernel_rfl) (by kernel_rfl) (fun _ _ _ h => h) (by rfl) ?_ (by assumption) ?_
              · intro w hSw; (try dsimp only at hSw); go_simp
              try simp only [List.setIfInBounds_toArray, List.set_cons_zero, List.set_cons_succ]
              refine wpAnyH_ready (rs := [5]) (by kernel_rfl) (by simp) ?_
              refine AllReadyH.cons rfl (fun K hK => ?_) AllReadyH.nil
              go_simp
              go_at_call 19
              refine (h6d.rpoll ok nd n8 (by omega)).mono ?_
              rintro e w7 ⟨rfl, F', h7⟩
              rw [hx'] at h7
              rw [hx', hdn]
              have S7 : w7.cell? ⟨qb, kk, none⟩ = some (pt q) ∧ w7.cell? ⟨qo, kk * 4, none⟩ = some (.int .i64 x'.own.no) ∧ w7.cell? ⟨qo, kk * 4 + 1, none⟩ = some (.int .i64 x'.own.md) ∧ w7.cell? ⟨qo, kk * 4 + 2, none⟩ = some (.int .i64 x'.own.mr) ∧ w7.cell? ⟨qo, kk * 4 + 3, none⟩ = some (.int .i64 x'.own.ls) ∧ w7.cell? ⟨ql, kk, none⟩ = some (.int .i64 x'.al) ∧ w7.rangeAt qr (kk * 9) [.int .i64 x'.n, .int .i64 (x'.l 0), .int .i64 (x'.l 1), .int .i64 (x'.l 2), .int .i64 (x'.l 3), .int .i64 (x'.l 4), .int .i64 (x'.l 5), .int .i64 (x'.l 6), .int .i64 (x'.l 7)] := ⟨h7.ap.cr hk3 hpr', (h7.ap.co hk3 (updN_at _ _ _)).1, (h7.ap.co hk3 (updN_at _ _ _)).2.1, (h7.ap.co hk3 (updN_at _ _ _)).2.2.1, (h7.ap.co hk3 (updN_at _ _ _)).2.2.2, h7.ap.cl hk3 (updN_at _ _ _), h7.ap.rq hk3 (updN_at _ _ _) (updN_at _ _ _)⟩
              obtain ⟨z8, z9, z10, z11, z16, z17, z18, z19, z20, z21, z22, z23, z24, z25, zl⟩ := rpCells h7.rm
              have ld17 : w7.rangeAt q 17 [.int .i64 x'.n, .int .i64 (x'.l 0), .int .i64 (x'.l 1), .int .i64 (x'.l 2), .int .i64 (x'.l 3), .int .i64 (x'.l 4), .int .i64 (x'.l 5), .int .i64 (x'.l 6), .int .i64 (x'.l 7)] := rangeOf ⟨z17, z18, z19, z20, z21, z22, z23, z24, z25⟩
              obtain ⟨d42, u42, v42⟩ := und42
              clear z17 z18 z19 z20 z21 z22 z23 z24 z25
              refine hK.out _ _ S7 (fun hHeld => ?_)
              clear hK K
              try simp only [Act.put, List.setIfInBounds_toArray, List.set_cons_zero, List.set_cons_succ]
              refine takeH (i := 6) 194 (.bool false) rfl rfl (by kernel_rfl) (by kernel_rfl) (by kernel_rfl) (fun _ _ _ h => h) (by rfl) ?_ (by assumption) ?_
              · intro w hSw; (try dsimp only at hSw); go_simp
              try simp only [List.setIfInBounds_toArray, List.set_cons_zero, List.set_cons_succ]
              refine takeH (i := 7) 195 (.bool false) rfl rfl (by kernel_rfl) (by kernel_rfl) (by kernel_rfl) (fun _ _ _ h => h) (by rfl) ?_ (by assumption) ?_
              · intro w hSw; (try dsimp only at hSw); go_simp
              try simp only [List.setIfInBounds_toArray, List.set_cons_zero, List.set_cons_succ]
              refine takeH (i := 8) 196 (.int .i64 kk) rfl rfl (by kernel_rfl) (by kernel_rfl) (by kernel_rfl) (fun _ _ _ h => h) (by rfl) ?_ (by assumption) ?_
              · intro w hSw; (try dsimp only at hSw); go_simp
              try simp only [List.setIfInBounds_toArray, List.set_cons_zero, List.set_cons_succ]
              refine takeH (i := 9) 197 (.pointer (some ⟨qo, kk * 4, none⟩)) rfl rfl (by kernel_rfl) (by kernel_rfl) (by kernel_rfl) (fun _ _ _ h => h) (by rfl) ?_ (by assumption) ?_
              · intro w hSw; (try dsimp only at hSw); go_simp
              try simp only [List.setIfInBounds_toArray, List.set_cons_zero, List.set_cons_succ]
              refine takeH (i := 10) 198 (.agg #[.int .i64 x'.own.no, .int .i64 x'.own.md, .int .i64 x'.own.mr, .int .i64 x'.own.ls]) rfl rfl (by kernel_rfl) (by kernel_rfl) (by kernel_rfl) (fun _ _ _ h => h) (by rfl) ?_ (by assumption) ?_
              · intro w hSw; (try dsimp only at hSw); go_simp
              try simp only [List.setIfInBounds_toArray, List.set_cons_zero, List.set_cons_succ]
              refine takeH (i := 11) 199 (.int .i64 kk) rfl rfl (by kernel_rfl) (by kernel_rfl) (by kernel_rfl) (fun _ _ _ h => h) (by rfl) ?_ (by assumption) ?_
              · intro w hSw; (try dsimp only at hSw); go_simp
              try simp only [List.setIfInBounds_toArray, List.set_cons_zero, List.set_cons_succ]
              refine takeH (i := 12) 200 (.pointer (some ⟨qb, kk, none⟩)) rfl rfl (by kernel_rfl) (by kernel_rfl) (by kernel_rfl) (fun _ _ _ h => h) (by rfl) ?_ (by assumption) ?_
              · intro w hSw; (try dsimp only at hSw); go_simp
              try simp only [List.setIfInBounds_toArray, List.set_cons_zero, List.set_cons_succ]
              refine takeH (i := 13) 201 (pt q) rfl rfl (by kernel_rfl) (by kernel_rfl) (by kernel_rfl) (fun _ _ _ h => h) (by rfl) ?_ (by assumption) ?_
              · intro w hSw; (try dsimp only at hSw); go_simp
              try simp only [List.setIfInBounds_toArray, List.set_cons_zero, List.set_cons_succ]
              refine takeH (i := 14) 202 (pt q) rfl rfl (by kernel_rfl) (by kernel_rfl) (by kernel_rfl) (fun _ _ _ h => h) (by rfl) ?_ (by assumption) ?_
              · intro w hSw; (try dsimp only at hSw); go_simp
              try simp only [List.setIfInBounds_toArray, List.set_cons_zero, List.set_cons_succ]
              refine takeH (i := 15) 203 (.pointer (some ⟨q, 8, none⟩)) rfl rfl (by kernel_rfl) (by kernel_rfl) (by kernel_rfl) (fun _ _ _ h => h) (by rfl) ?_ (by assumption) ?_
              · intro w hSw; (try dsimp only at hSw); go_simp
              try simp only [List.setIfInBounds_toArray, List.set_cons_zero, List.set_cons_succ]
              refine wpAnyH_ready (rs := [16]) (by kernel_rfl) (by simp) ?_
              refine AllReadyH.cons rfl (fun K hK => ?_) AllReadyH.nil
              go_simp
              refine hK.out _ _ hHeld (fun hHeld => ?_)
              clear hK K
              try simp only [Act.put, List.setIfInBounds_toArray, List.set_cons_zero, List.set_cons_succ]
              refine takeH (i := 17) 205 (.bool false) rfl rfl (by kernel_rfl) (by kernel_rfl) (by kernel_rfl) (fun _ _ _ h => h) (by rfl) ?_ (by assumption) ?_
              · intro w hSw; (try dsimp only at hSw); go_simp
              try simp only [List.setIfInBounds_toArray, List.set_cons_zero, List.set_cons_succ]
              refine takeH (i := 18) 206 (.bool false) rfl rfl (by kernel_rfl) (by kernel_rfl) (by kernel_rfl) (fun _ _ _ h => h) (by rfl) ?_ (by assumption) ?_
              · intro w hSw; (try dsimp only at hSw); go_simp
              try simp only [List.setIfInBounds_toArray, List.set_cons_zero, List.set_cons_succ]
              refine takeH (i := 19) 207 (.bool false) rfl rfl (by kernel_rfl) (by kernel_rfl) (by kernel_rfl) (fun _ _ _ h => h) (by rfl) ?_ (by assumption) ?_
              · intro w hSw; (try dsimp only at hSw); go_simp
              try simp only [List.setIfInBounds_toArray, List.set_cons_zero, List.set_cons_succ]
              refine takeH (i := 20) 208 (.int .i64 kk) rfl rfl (by kernel_rfl) (by kernel_rfl) (by kernel_rfl) (fun _ _ _ h => h) (by rfl) ?_ (by assumption) ?_
              · intro w hSw; (try dsimp only at hSw); go_simp
              try simp only [List.setIfInBounds_toArray, List.set_cons_zero, List.set_cons_succ]
              refine takeH (i := 21) 209 (.pointer (some ⟨ql, kk, none⟩)) rfl rfl (by kernel_rfl) (by kernel_rfl) (by kernel_rfl) (fun _ _ _ h => h) (by rfl) ?_ (by assumption) ?_
              · intro w hSw; (try dsimp only at hSw); go_simp
              try simp only [List.setIfInBounds_toArray, List.set_cons_zero, List.set_cons_succ]
              refine takeH (i := 22) 210 (.int .i64 x'.al) rfl rfl (by kernel_rfl) (by kernel_rfl) (by kernel_rfl) (fun _ _ _ h => h) (by rfl) ?_ (by assumption) ?_
              · intro w hSw; (try dsimp only at hSw); go_simp
              try simp only [List.setIfInBounds_toArray, List.set_cons_zero, List.set_cons_succ]
              refine takeH (i := 23) 211 (.int .i64 kk) rfl rfl (by kernel_rfl) (by kernel_rfl) (by kernel_rfl) (fun _ _ _ h => h) (by rfl) ?_ (by assumption) ?_
              · intro w hSw; (try dsimp only at hSw); go_simp
              try simp only [List.setIfInBounds_toArray, List.set_cons_zero, List.set_cons_succ]
              refine takeH (i := 24) 212 (.pointer (some ⟨qb, kk, none⟩)) rfl rfl (by kernel_rfl) (by kernel_rfl) (by kernel_rfl) (fun _ _ _ h => h) (by rfl) ?_ (by assumption) ?_
              · intro w hSw; (try dsimp only at hSw); go_simp
              try simp only [List.setIfInBounds_toArray, List.set_cons_zero, List.set_cons_succ]
              refine takeH (i := 25) 213 (pt q) rfl rfl (by kernel_rfl) (by kernel_rfl) (by kernel_rfl) (fun _ _ _ h => h) (by rfl) ?_ (by assumption) ?_
              · intro w hSw; (try dsimp only at hSw); go_simp
              try simp only [List.setIfInBounds_toArray, List.set_cons_zero, List.set_cons_succ]
              refine takeH (i := 26) 214 (pt q) rfl rfl (by kernel_rfl) (by kernel_rfl) (by kernel_rfl) (fun _ _ _ h => h) (by rfl) ?_ (by assumption) ?_
              · intro w hSw; (try dsimp only at hSw); go_simp
              try simp only [List.setIfInBounds_toArray, List.set_cons_zero, List.set_cons_succ]
              refine takeH (i := 27) 215 (.pointer (some ⟨q, 16, none⟩)) rfl rfl (by kernel_rfl) (by kernel_rfl) (by kernel_rfl) (fun _ _ _ h => h) (by rfl) ?_ (by assumption) ?_
              · intro w hSw; (try dsimp only at hSw); go_simp
              try simp only [List.setIfInBounds_toArray, List.set_cons_zero, List.set_cons_succ]
              refine wpAnyH_ready (rs := [28]) (by kernel_rfl) (by simp) ?_
              refine AllReadyH.cons rfl (fun K hK => ?_) AllReadyH.nil
              go_simp
              refine hK.out _ _ hHeld (fun hHeld => ?_)
              clear hK K
              try simp only [Act.put, List.setIfInBounds_toArray, List.set_cons_zero, List.set_cons_succ]
              refine takeH (i := 29) 217 (.bool false) rfl rfl (by kernel_rfl) (by kernel_rfl) (by kernel_rfl) (fun _ _ _ h => h) (by rfl) ?_ (by assumption) ?_
              · intro w hSw; (try dsimp only at hSw); go_simp
              try simp only [List.setIfInBounds_toArray, List.set_cons_zero, List.set_cons_succ]
              refine takeH (i := 30) 218 (.bool false) rfl rfl (by kernel_rfl) (by kernel_rfl) (by kernel_rfl) (fun _ _ _ h => h) (by rfl) ?_ (by assumption) ?_
              · intro w hSw; (try dsimp only at hSw); go_simp
              try simp only [List.setIfInBounds_toArray, List.set_cons_zero, List.set_cons_succ]
              refine takeH (i := 31) 219 (.bool false) rfl rfl (by kernel_rfl) (by kernel_rfl) (by kernel_rfl) (fun _ _ _ h => h) (by rfl) ?_ (by assumption) ?_
              · intro w hSw; (try dsimp only at hSw); go_simp
              try simp only [List.setIfInBounds_toArray, List.set_cons_zero, List.set_cons_succ]
              refine takeH (i := 32) 220 (.int .i64 kk) rfl rfl (by kernel_rfl) (by kernel_rfl) (by kernel_rfl) (fun _ _ _ h => h) (by rfl) ?_ (by assumption) ?_
              · intro w hSw; (try dsimp only at hSw); go_simp
              try simp only [List.setIfInBounds_toArray, List.set_cons_zero, List.set_cons_succ]
              refine takeH (i := 33) 221 (.pointer (some ⟨qr, kk * 9, none⟩)) rfl rfl (by kernel_rfl) (by kernel_rfl) (by kernel_rfl) (fun _ _ _ h => h) (by rfl) ?_ (by assumption) ?_
              · intro w hSw; (try dsimp only at hSw); go_simp
              try simp only [List.setIfInBounds_toArray, List.set_cons_zero, List.set_cons_succ]
              refine takeH (i := 34) 222 (.agg #[.int .i64 x'.n, .int .i64 (x'.l 0), .int .i64 (x'.l 1), .int .i64 (x'.l 2), .int .i64 (x'.l 3), .int .i64 (x'.l 4), .int .i64 (x'.l 5), .int .i64 (x'.l 6), .int .i64 (x'.l 7)]) rfl rfl (by kernel_rfl) (by kernel_rfl) (by kernel_rfl) (fun _ _ _ h => h) (by rfl) (fun w hSw => yRoots (.tmp 221) rfl qr (kk * 9) rfl [.int .i64 x'.n, .int .i64 (x'.l 0), .int .i64 (x'.l 1), .int .i64 (x'.l 2), .int .i64 (x'.l 3), .int .i64 (x'.l 4), .int .i64 (x'.l 5), .int .i64 (x'.l 6), .int .i64 (x'.l 7)] rfl (hSw.2.2.2.2.2.2)) (by assumption) ?_
              simp only [List.setIfInBounds_toArray, List.set_cons_zero, List.set_cons_succ]
              refine takeH (i := 35) 223 (.int .i64 kk) rfl rfl (by kernel_rfl) (by kernel_rfl) (by kernel_rfl) (fun _ _ _ h => h) (by rfl) ?_ (by assumption) ?_
              · intro w hSw; (try dsimp only at hSw); go_simp
              try simp only [List.setIfInBounds_toArray, List.set_cons_zero, List.set_cons_succ]
              refine takeH (i := 36) 224 (.pointer (some ⟨qb, kk, none⟩)) rfl rfl (by kernel_rfl) (by kernel_rfl) (by kernel_rfl) (fun _ _ _ h => h) (by rfl) ?_ (by assumption) ?_
              · intro w hSw; (try dsimp only at hSw); go_simp
              try simp only [List.setIfInBounds_toArray, List.set_cons_zero, List.set_cons_succ]
              refine takeH (i := 37) 225 (pt q) rfl rfl (by kernel_rfl) (by kernel_rfl) (by kernel_rfl) (fun _ _ _ h => h) (by rfl) ?_ (by assumption) ?_
              · intro w hSw; (try dsimp only at hSw); go_simp
              try simp only [List.setIfInBounds_toArray, List.set_cons_zero, List.set_cons_succ]
              refine takeH (i := 38) 226 (pt q) rfl rfl (by kernel_rfl) (by kernel_rfl) (by kernel_rfl) (fun _ _ _ h => h) (by rfl) ?_ (by assumption) ?_
              · intro w hSw; (try dsimp only at hSw); go_simp
              try simp only [List.setIfInBounds_toArray, List.set_cons_zero, List.set_cons_succ]
              refine takeH (i := 39) 227 (.pointer (some ⟨q, 17, none⟩)) rfl rfl (by kernel_rfl) (by kernel_rfl) (by kernel_rfl) (fun _ _ _ h => h) (by rfl) ?_ (by assumption) ?_
              · intro w hSw; (try dsimp only at hSw); go_simp
              try simp only [List.setIfInBounds_toArray, List.set_cons_zero, List.set_cons_succ]
              refine wpAnyH_ready (rs := [40]) (by kernel_rfl) (by simp) ?_
              refine AllReadyH.cons rfl (fun K hK => ?_) AllReadyH.nil
              refine wp_load_mid 42 (.tmp 227) rfl q 17 rfl [.int .i64 x'.n, .int .i64 (x'.l 0), .int .i64 (x'.l 1), .int .i64 (x'.l 2), .int .i64 (x'.l 3), .int .i64 (x'.l 4), .int .i64 (x'.l 5), .int .i64 (x'.l 6), .int .i64 (x'.l 7)] d42 ld17 u42 v42 (by kernel_rfl) ?_
              refine hK.out _ _ hHeld (fun hHeld => ?_)
              clear hK K
              try simp only [Act.put, List.setIfInBounds_toArray, List.set_cons_zero, List.set_cons_succ]
              refine takeH (i := 41) 229 (.bool false) rfl rfl (by kernel_rfl) (by kernel_rfl) (by kernel_rfl) (fun _ _ _ h => h) (by rfl) ?_ (by assumption) ?_
              · intro w hSw; (try dsimp only at hSw); go_simp
              try simp only [List.setIfInBounds_toArray, List.set_cons_zero, List.set_cons_succ]
              refine takeH (i := 42) 230 (.bool false) rfl rfl (by kernel_rfl) (by kernel_rfl) (by kernel_rfl) (fun _ _ _ h => h) (by rfl) ?_ (by assumption) ?_
              · intro w hSw; (try dsimp only at hSw); go_simp
              try simp only [List.setIfInBounds_toArray, List.set_cons_zero, List.set_cons_succ]
              refine wpAnyH_done (by kernel_rfl) ?_ _
              clear RD kbl nb np nr na hbd h6d S7 ld17 u42 v42 d42 z8 z9 z10 z11 z16 zl hHeld
              have l1 : (x.mem s).ws.length = 160 := lenP hl
              have n1 : x'.n = x.n := by rw [← hx']; exact n_nextP
              have ok1 : x'.wh.Ok := by rw [← hx']; exact PollS.ok_next ok rng
              have hr1 : ∀ i, i < 3 → updN rn kk x'.n i ≤ 8 := updN_le hrn (by omega)
              clear hx' hrn hl rng ok nd n8 n1
              cases dn with
              | false =>
                have nd1 : x'.wh.pc ≠ 0 := by simpa using hdn
                have M9 := h7.close_ hk3 hpa' hpr' ok1 nd1 (updN_at _ _ _) (updN_at _ _ _) (updN_at _ _ _) (updN_at _ _ _)
                clear hdn nd1 ok1 h7
                go_wp2_with (fail)
                go_roundw
                case rel => exact ⟨j + 1, e, (x.mem s), a, za, zd, (updN ow kk x'.own), (updN al kk x'.al), (updN rn kk x'.n), (updN rl kk x'.l), pa', pr', _, _, by omega, he8, rfl, rfl, by go_num, by go_num, M9.mono (by omega), l1, okA, aN, hr1⟩
                case measure => simp [intOf]; omega
              | true =>
                have ca9 := h7.ap.ca hk3 hpa'
                have cf9 := h7.ap.ba.free kk
                have cl9 := h7.ap.ba.lt
                have M9 := (h7.setA hk3 (.pointer none)).ap.none_ hk3 (updN_at _ _ _)
                clear hdn ok1 h7
                go_wp2_with (fail)
                go_roundw
                case rel => exact ⟨j + 1, e, (x.mem s), a, za, zd, (updN ow kk x'.own), (updN al kk x'.al), (updN rn kk x'.n), (updN rl kk x'.l), (updN pa' kk (.pointer none)), pr', _, _, by omega, he8, rfl, rfl, by go_num, by go_num, M9.mono (by omega), l1, okA, aN, hr1⟩
                case measure => simp [intOf]; omega
            · have n8 : x.n ≤ 8 := hxn ▸ hrn kk hk3
              clear M hxn
              as_aux_lemma =>
              obtain ⟨dn, hdn⟩ : ∃ d, ((x.next s).wh.pc == 0) = d := ⟨_, rfl⟩
              have cp := h.ap.ca hk3 hpa
              have cpl := h.ap.ba.lt
              have rng := h.ap.two.rng1
              go_upto_region 39 with (go_at_call 17; refine (h.poll ok nd n8 (by omega)).mono ?_; rintro e w1 ⟨rfl, h1⟩; rw [hdn])
              clear cp cpl
              have cp := h1.ap.ca hk3 hpa
              have cpl := h1.ap.ba.lt
              obtain ⟨x', hx'⟩ : ∃ x', x.next s = x' := ⟨_, rfl⟩
              rw [hx'] at h1 hdn
              go_upto_region 40 with (go_at_call 18; refine (hResult h1.pm).mono ?_; rintro e w2 ⟨rfl, hb2⟩)
              clear cp cpl
              have hbb : Below w2.heap.size w2 ((w2.alloc (.cells #[.int .i64 x'.own.no, .int .i64 x'.own.md, .int .i64 x'.own.mr, .int .i64 x'.own.ls] 37)).alloc (.cells #[.int .i64 x'.n, .int .i64 (x'.l 0), .int .i64 (x'.l 1), .int .i64 (x'.l 2), .int .i64 (x'.l 3), .int .i64 (x'.l 4), .int .i64 (x'.l 5), .int .i64 (x'.l 6), .int .i64 (x'.l 7)] 42)) := ((Below.refl _ _).alloc (Nat.le_refl _) _).alloc (by simp) _
              have h3 := (h1.below hb2).below hbb
              have Bo3 : Blk w ((w2.alloc (.cells #[.int .i64 x'.own.no, .int .i64 x'.own.md, .int .i64 x'.own.mr, .int .i64 x'.own.ls] 37)).alloc (.cells #[.int .i64 x'.n, .int .i64 (x'.l 0), .int .i64 (x'.l 1), .int .i64 (x'.l 2), .int .i64 (x'.l 3), .int .i64 (x'.l 4), .int .i64 (x'.l 5), .int .i64 (x'.l 6), .int .i64 (x'.l 7)] 42)) w2.heap.size 37 x'.own.cells := (Blk.new (Nat.le_trans h1.ap.two.bel.size hb2.size) _ (by decide)).below ((Below.refl _ _).alloc (Nat.le_refl _) _)
              have Br3 : Blk w ((w2.alloc (.cells #[.int .i64 x'.own.no, .int .i64 x'.own.md, .int .i64 x'.own.mr, .int .i64 x'.own.ls] 37)).alloc (.cells #[.int .i64 x'.n, .int .i64 (x'.l 0), .int .i64 (x'.l 1), .int .i64 (x'.l 2), .int .i64 (x'.l 3), .int .i64 (x'.l 4), .int .i64 (x'.l 5), .int .i64 (x'.l 6), .int .i64 (x'.l 7)] 42)) (w2.heap.size + 1) 42 #[.int .i64 x'.n, .int .i64 (x'.l 0), .int .i64 (x'.l 1), .int .i64 (x'.l 2), .int .i64 (x'.l 3), .int .i64 (x'.l 4), .int .i64 (x'.l 5), .int .i64 (x'.l 6), .int .i64 (x'.l 7)] := by
                have := Blk.new (w := w2.alloc (.cells #[.int .i64 x'.own.no, .int .i64 x'.own.md, .int .i64 x'.own.mr, .int .i64 x'.own.ls] 37)) (Nat.le_trans (Nat.le_trans h1.ap.two.bel.size hb2.size) ((Below.refl w2.heap.size w2).alloc (Nat.le_refl _) (.cells #[.int .i64 x'.own.no, .int .i64 x'.own.md, .int .i64 x'.own.mr, .int .i64 x'.own.ls] 37)).size) #[.int .i64 x'.n, .int .i64 (x'.l 0), .int .i64 (x'.l 1), .int .i64 (x'.l 2), .int .i64 (x'.l 3), .int .i64 (x'.l 4), .int .i64 (x'.l 5), .int .i64 (x'.l 6), .int .i64 (x'.l 7)] (T := 42) (by decide)
                simpa using this
              clear h1 hbb hb2 h
              generalize (w2.alloc (.cells #[.int .i64 x'.own.no, .int .i64 x'.own.md, .int .i64 x'.own.mr, .int .i64 x'.own.ls] 37)).alloc (.cells #[.int .i64 x'.n, .int .i64 (x'.l 0), .int .i64 (x'.l 1), .int .i64 (x'.l 2), .int .i64 (x'.l 3), .int .i64 (x'.l 4), .int .i64 (x'.l 5), .int .i64 (x'.l 6), .int .i64 (x'.l 7)] 42) = w3 at h3 Bo3 Br3 ⊢
              generalize w2.heap.size + 1 = qs at Br3 ⊢
              generalize w2.heap.size = qw at Bo3 ⊢
              have v0 : w3.cell? ⟨qw, 0, none⟩ = some (.int .i64 x'.own.no) := Bo3.cell 0
              have v1 : w3.cell? ⟨qw, 1, none⟩ = some (.int .i64 x'.own.md) := Bo3.cell 1
              have v2 : w3.cell? ⟨qw, 2, none⟩ = some (.int .i64 x'.own.mr) := Bo3.cell 2
              have v3 : w3.cell? ⟨qw, 3, none⟩ = some (.int .i64 x'.own.ls) := Bo3.cell 3
              have vl := Bo3.lt
              refine wp_region_lit ?_
              refine wpList_plain rfl fun K hK => ?_
              go_simp
              refine hK _ _ ?_
              refine wpList_plain rfl fun K hK => ?_
              go_simp
              refine hK _ _ ?_
              refine wpList_plain rfl fun K hK => ?_
              go_simp
              refine hK _ _ ?_
              refine wpList_store_mid rfl 37 (.tmp 181) (.tmp 180) rfl qo (kk * 4) #[.int .i64 x'.own.no, .int .i64 x'.own.md, .int .i64 x'.own.mr, .int .i64 x'.own.ls] rfl rfl (blkThere h3.ap.bo (show kk * 4 + 4 ≤ 12 by omega)) (by kernel_rfl) (by kernel_rfl) ?_
              refine wpList_nil ?_
              simp only [setCells4]
              clear v0 v1 v2 v3 vl Bo3
              have h4 := h3.setO hk3 x'.own
              have Br4 := Br3.oth (othO (qo := qo) (k := kk) w3 x'.own) (by simpa using Br3.ne h3.ap.bo (by decide))
              clear h3 Br3
              generalize ((((w3.setCell ⟨qo, kk * 4, none⟩ (.int .i64 x'.own.no)).setCell ⟨qo, kk * 4 + 1, none⟩ (.int .i64 x'.own.md)).setCell ⟨qo, kk * 4 + 2, none⟩ (.int .i64 x'.own.mr)).setCell ⟨qo, kk * 4 + 3, none⟩ (.int .i64 x'.own.ls)) = w4 at h4 Br4 ⊢
              obtain ⟨aa, haa⟩ : ∃ v, al kk = v := ⟨_, rfl⟩
              have l0 := h4.ap.cl hk3 haa
              have lf0 := h4.ap.bl.free kk
              have ll := h4.ap.bl.lt
              go_upto_region 42 with (fail)
              clear l0 lf0 ll haa aa
              have h5 := h4.setL hk3 x'.al
              have Br5 := Br4.oth (show Oth [ql] w4 (w4.setCell ⟨ql, kk, none⟩ (.int .i64 x'.al)) from Oth.set _ _ _ _ (by simp)) (by simpa using Br4.ne h4.ap.bl (by decide))
              clear h4 Br4
              generalize w4.setCell ⟨ql, kk, none⟩ (.int .i64 x'.al) = w5 at h5 Br5 ⊢
              refine wp_region_lit ?_
              refine wpList_plain rfl fun K hK => ?_
              go_simp
              refine hK _ _ ?_
              refine wpList_ldRoots rfl (.tmp 28) rfl qs 0 rfl [.int .i64 x'.n, .int .i64 (x'.l 0), .int .i64 (x'.l 1), .int .i64 (x'.l 2), .int .i64 (x'.l 3), .int .i64 (x'.l 4), .int .i64 (x'.l 5), .int .i64 (x'.l 6), .int .i64 (x'.l 7)] rfl (blkRange Br5) ?_
              simp only [Act.put, List.setIfInBounds_toArray, List.set_cons_zero, List.set_cons_succ]
              refine wpList_plain rfl fun K hK => ?_
              go_simp
              refine hK _ _ ?_
              refine wpList_store_mid rfl 42 (.tmp 187) (.tmp 186) rfl qr (kk * 9) #[.int .i64 x'.n, .int .i64 (x'.l 0), .int .i64 (x'.l 1), .int .i64 (x'.l 2), .int .i64 (x'.l 3), .int .i64 (x'.l 4), .int .i64 (x'.l 5), .int .i64 (x'.l 6), .int .i64 (x'.l 7)] rfl rfl (blkThere h5.ap.br (show kk * 9 + 9 ≤ 27 by omega)) (by kernel_rfl) (by kernel_rfl) ?_
              refine wpList_nil ?_
              simp only [Act.put]
              simp only [setCells9]
              clear Br5
              have h6 := h5.setQ hk3 x'.n x'.l
              clear h5
              generalize (((((((((w5.setCell ⟨qr, kk * 9, none⟩ (.int .i64 x'.n)).setCell ⟨qr, kk * 9 + 1, none⟩ (.int .i64 (x'.l 0))).setCell ⟨qr, kk * 9 + 2, none⟩ (.int .i64 (x'.l 1))).setCell ⟨qr, kk * 9 + 3, none⟩ (.int .i64 (x'.l 2))).setCell ⟨qr, kk * 9 + 4, none⟩ (.int .i64 (x'.l 3))).setCell ⟨qr, kk * 9 + 5, none⟩ (.int .i64 (x'.l 4))).setCell ⟨qr, kk * 9 + 6, none⟩ (.int .i64 (x'.l 5))).setCell ⟨qr, kk * 9 + 7, none⟩ (.int .i64 (x'.l 6))).setCell ⟨qr, kk * 9 + 8, none⟩ (.int .i64 (x'.l 7))) = w6 at h6 ⊢
              go_upto_region 43 with (fail)
              have hbd : Below w6.heap.size w6 w6.drew := (Below.refl w6.heap.size w6).drew
              have h6d := h6.below hbd
              have RD : w6.drew.cell? ⟨qb, kk, none⟩ = some (pt q) ∧ w6.drew.cell? ⟨qo, kk * 4, none⟩ = some (.int .i64 x'.own.no) ∧ w6.drew.cell? ⟨qo, kk * 4 + 1, none⟩ = some (.int .i64 x'.own.md) ∧ w6.drew.cell? ⟨qo, kk * 4 + 2, none⟩ = some (.int .i64 x'.own.mr) ∧ w6.drew.cell? ⟨qo, kk * 4 + 3, none⟩ = some (.int .i64 x'.own.ls) ∧ w6.drew.cell? ⟨ql, kk, none⟩ = some (.int .i64 x'.al) ∧ w6.drew.rangeAt qr (kk * 9) [.int .i64 x'.n, .int .i64 (x'.l 0), .int .i64 (x'.l 1), .int .i64 (x'.l 2), .int .i64 (x'.l 3), .int .i64 (x'.l 4), .int .i64 (x'.l 5), .int .i64 (x'.l 6), .int .i64 (x'.l 7)] := ⟨h6d.ap.cr hk3 hpr, (h6d.ap.co hk3 (updN_at _ _ _)).1, (h6d.ap.co hk3 (updN_at _ _ _)).2.1, (h6d.ap.co hk3 (updN_at _ _ _)).2.2.1, (h6d.ap.co hk3 (updN_at _ _ _)).2.2.2, h6d.ap.cl hk3 (updN_at _ _ _), h6d.ap.rq hk3 (updN_at _ _ _) (updN_at _ _ _)⟩
              have kbl := h6d.ap.bb.lt
              have nb := neBool dn
              have np := nePh x'.own.no x'.own.md x'.own.mr x'.own.ls
              have nr := neRoots x'.n x'.l
              have na : (x'.al != x'.al) = false := by simp
              refine wp_region_held_drew (S := fun w' => w'.cell? ⟨qb, kk, none⟩ = some (pt q) ∧ w'.cell? ⟨qo, kk * 4, none⟩ = some (.int .i64 x'.own.no) ∧ w'.cell? ⟨qo, kk * 4 + 1, none⟩ = some (.int .i64 x'.own.md) ∧ w'.cell? ⟨qo, kk * 4 + 2, none⟩ = some (.int .i64 x'.own.mr) ∧ w'.cell? ⟨qo, kk * 4 + 3, none⟩ = some (.int .i64 x'.own.ls) ∧ w'.cell? ⟨ql, kk, none⟩ = some (.int .i64 x'.al) ∧ w'.rangeAt qr (kk * 9) [.int .i64 x'.n, .int .i64 (x'.l 0), .int .i64 (x'.l 1), .int .i64 (x'.l 2), .int .i64 (x'.l 3), .int .i64 (x'.l 4), .int .i64 (x'.l 5), .int .i64 (x'.l 6), .int .i64 (x'.l 7)]) (by kernel_rfl) RD (fun hHeld => ?_)
              refine takeH (i := 0) 188 (.bool dn) rfl rfl (by kernel_rfl) (by kernel_rfl) (by kernel_rfl) (fun _ _ _ h => h) (by rfl) ?_ (by assumption) ?_
              · intro w hSw; (try dsimp only at hSw); go_simp
              try simp only [List.setIfInBounds_toArray, List.set_cons_zero, List.set_cons_succ]
              refine takeH (i := 1) 189 (.int .i64 kk) rfl rfl (by kernel_rfl) (by kernel_rfl) (by kernel_rfl) (fun _ _ _ h => h) (by rfl) ?_ (by assumption) ?_
              · intro w hSw; (try dsimp only at hSw); go_simp
              try simp only [List.setIfInBounds_toArray, List.set_cons_zero, List.set_cons_succ]
              refine takeH (i := 2) 190 (.pointer (some ⟨qb, kk, none⟩)) rfl rfl (by kernel_rfl) (by kernel_rfl) (by kernel_rfl) (fun _ _ _ h => h) (by rfl) ?_ (by assumption) ?_
              · intro w hSw; (try dsimp only at hSw); go_simp
              try simp only [List.setIfInBounds_toArray, List.set_cons_zero, List.set_cons_succ]
              refine takeH (i := 3) 191 (pt q) rfl rfl (by kernel_rfl) (by kernel_rfl) (by kernel_rfl) (fun _ _ _ h => h) (by rfl) ?_ (by assumption) ?_
              · intro w hSw; (try dsimp only at hSw); go_simp
              try simp only [List.setIfInBounds_toArray, List.set_cons_zero, List.set_cons_succ]
              refine takeH (i := 4) 192 (.pointer (some ⟨y, 0, none⟩)) rfl rfl (by kernel_rfl) (by kernel_rfl) (by kernel_rfl) (fun _ _ _ h => h) (by rfl) ?_ (by assumption) ?_
              · intro w hSw; (try dsimp only at hSw); go_simp
              try simp only [List.setIfInBounds_toArray, List.set_cons_zero, List.set_cons_succ]
              refine wpAnyH_ready (rs := [5]) (by kernel_rfl) (by simp) ?_
              refine AllReadyH.cons rfl (fun K hK => ?_) AllReadyH.nil
              go_simp
              go_at_call 19
              refine (h6d.rpoll ok nd n8 (by omega)).mono ?_
              rintro e w7 ⟨rfl, F', h7⟩
              rw [hx'] at h7
              rw [hx', hdn]
              have S7 : w7.cell? ⟨qb, kk, none⟩ = some (pt q) ∧ w7.cell? ⟨qo, kk * 4, none⟩ = some (.int .i64 x'.own.no) ∧ w7.cell? ⟨qo, kk * 4 + 1, none⟩ = some (.int .i64 x'.own.md) ∧ w7.cell? ⟨qo, kk * 4 + 2, none⟩ = some (.int .i64 x'.own.mr) ∧ w7.cell? ⟨qo, kk * 4 + 3, none⟩ = some (.int .i64 x'.own.ls) ∧ w7.cell? ⟨ql, kk, none⟩ = some (.int .i64 x'.al) ∧ w7.rangeAt qr (kk * 9) [.int .i64 x'.n, .int .i64 (x'.l 0), .int .i64 (x'.l 1), .int .i64 (x'.l 2), .int .i64 (x'.l 3), .int .i64 (x'.l 4), .int .i64 (x'.l 5), .int .i64 (x'.l 6), .int .i64 (x'.l 7)] := ⟨h7.ap.cr hk3 hpr, (h7.ap.co hk3 (updN_at _ _ _)).1, (h7.ap.co hk3 (updN_at _ _ _)).2.1, (h7.ap.co hk3 (updN_at _ _ _)).2.2.1, (h7.ap.co hk3 (updN_at _ _ _)).2.2.2, h7.ap.cl hk3 (updN_at _ _ _), h7.ap.rq hk3 (updN_at _ _ _) (updN_at _ _ _)⟩
              obtain ⟨z8, z9, z10, z11, z16, z17, z18, z19, z20, z21, z22, z23, z24, z25, zl⟩ := rpCells h7.rm
              have ld17 : w7.rangeAt q 17 [.int .i64 x'.n, .int .i64 (x'.l 0), .int .i64 (x'.l 1), .int .i64 (x'.l 2), .int .i64 (x'.l 3), .int .i64 (x'.l 4), .int .i64 (x'.l 5), .int .i64 (x'.l 6), .int .i64 (x'.l 7)] := rangeOf ⟨z17, z18, z19, z20, z21, z22, z23, z24, z25⟩
              obtain ⟨d42, u42, v42⟩ := und42
              clear z17 z18 z19 z20 z21 z22 z23 z24 z25
              refine hK.out _ _ S7 (fun hHeld => ?_)
              clear hK K
              try simp only [Act.put, List.setIfInBounds_toArray, List.set_cons_zero, List.set_cons_succ]
              refine takeH (i := 6) 194 (.bool false) rfl rfl (by kernel_rfl) (by kernel_rfl) (by kernel_rfl) (fun _ _ _ h => h) (by rfl) ?_ (by assumption) ?_
              · intro w hSw; (try dsimp only at hSw); go_simp
              try simp only [List.setIfInBounds_toArray, List.set_cons_zero, List.set_cons_succ]
              refine takeH (i := 7) 195 (.bool false) rfl rfl (by kernel_rfl) (by kernel_rfl) (by kernel_rfl) (fun _ _ _ h => h) (by rfl) ?_ (by assumption) ?_
              · intro w hSw; (try dsimp only at hSw); go_simp
              try simp only [List.setIfInBounds_toArray, List.set_cons_zero, List.set_cons_succ]
              refine takeH (i := 8) 196 (.int .i64 kk) rfl rfl (by kernel_rfl) (by kernel_rfl) (by kernel_rfl) (fun _ _ _ h => h) (by rfl) ?_ (by assumption) ?_
              · intro w hSw; (try dsimp only at hSw); go_simp
              try simp only [List.setIfInBounds_toArray, List.set_cons_zero, List.set_cons_succ]
              refine takeH (i := 9) 197 (.pointer (some ⟨qo, kk * 4, none⟩)) rfl rfl (by kernel_rfl) (by kernel_rfl) (by kernel_rfl) (fun _ _ _ h => h) (by rfl) ?_ (by assumption) ?_
              · intro w hSw; (try dsimp only at hSw); go_simp
              try simp only [List.setIfInBounds_toArray, List.set_cons_zero, List.set_cons_succ]
              refine takeH (i := 10) 198 (.agg #[.int .i64 x'.own.no, .int .i64 x'.own.md, .int .i64 x'.own.mr, .int .i64 x'.own.ls]) rfl rfl (by kernel_rfl) (by kernel_rfl) (by kernel_rfl) (fun _ _ _ h => h) (by rfl) ?_ (by assumption) ?_
              · intro w hSw; (try dsimp only at hSw); go_simp
              try simp only [List.setIfInBounds_toArray, List.set_cons_zero, List.set_cons_succ]
              refine takeH (i := 11) 199 (.int .i64 kk) rfl rfl (by kernel_rfl) (by kernel_rfl) (by kernel_rfl) (fun _ _ _ h => h) (by rfl) ?_ (by assumption) ?_
              · intro w hSw; (try dsimp only at hSw); go_simp
              try simp only [List.setIfInBounds_toArray, List.set_cons_zero, List.set_cons_succ]
              refine takeH (i := 12) 200 (.pointer (some ⟨qb, kk, none⟩)) rfl rfl (by kernel_rfl) (by kernel_rfl) (by kernel_rfl) (fun _ _ _ h => h) (by rfl) ?_ (by assumption) ?_
              · intro w hSw; (try dsimp only at hSw); go_simp
              try simp only [List.setIfInBounds_toArray, List.set_cons_zero, List.set_cons_succ]
              refine takeH (i := 13) 201 (pt q) rfl rfl (by kernel_rfl) (by kernel_rfl) (by kernel_rfl) (fun _ _ _ h => h) (by rfl) ?_ (by assumption) ?_
              · intro w hSw; (try dsimp only at hSw); go_simp
              try simp only [List.setIfInBounds_toArray, List.set_cons_zero, List.set_cons_succ]
              refine takeH (i := 14) 202 (pt q) rfl rfl (by kernel_rfl) (by kernel_rfl) (by kernel_rfl) (fun _ _ _ h => h) (by rfl) ?_ (by assumption) ?_
              · intro w hSw; (try dsimp only at hSw); go_simp
              try simp only [List.setIfInBounds_toArray, List.set_cons_zero, List.set_cons_succ]
              refine takeH (i := 15) 203 (.pointer (some ⟨q, 8, none⟩)) rfl rfl (by kernel_rfl) (by kernel_rfl) (by kernel_rfl) (fun _ _ _ h => h) (by rfl) ?_ (by assumption) ?_
              · intro w hSw; (try dsimp only at hSw); go_simp
              try simp only [List.setIfInBounds_toArray, List.set_cons_zero, List.set_cons_succ]
              refine wpAnyH_ready (rs := [16]) (by kernel_rfl) (by simp) ?_
              refine AllReadyH.cons rfl (fun K hK => ?_) AllReadyH.nil
              go_simp
              refine hK.out _ _ hHeld (fun hHeld => ?_)
              clear hK K
              try simp only [Act.put, List.setIfInBounds_toArray, List.set_cons_zero, List.set_cons_succ]
              refine takeH (i := 17) 205 (.bool false) rfl rfl (by kernel_rfl) (by kernel_rfl) (by kernel_rfl) (fun _ _ _ h => h) (by rfl) ?_ (by assumption) ?_
              · intro w hSw; (try dsimp only at hSw); go_simp
              try simp only [List.setIfInBounds_toArray, List.set_cons_zero, List.set_cons_succ]
              refine takeH (i := 18) 206 (.bool false) rfl rfl (by kernel_rfl) (by kernel_rfl) (by kernel_rfl) (fun _ _ _ h => h) (by rfl) ?_ (by assumption) ?_
              · intro w hSw; (try dsimp only at hSw); go_simp
              try simp only [List.setIfInBounds_toArray, List.set_cons_zero, List.set_cons_succ]
              refine takeH (i := 19) 207 (.bool false) rfl rfl (by kernel_rfl) (by kernel_rfl) (by kernel_rfl) (fun _ _ _ h => h) (by rfl) ?_ (by assumption) ?_
              · intro w hSw; (try dsimp only at hSw); go_simp
              try simp only [List.setIfInBounds_toArray, List.set_cons_zero, List.set_cons_succ]
              refine takeH (i := 20) 208 (.int .i64 kk) rfl rfl (by kernel_rfl) (by kernel_rfl) (by kernel_rfl) (fun _ _ _ h => h) (by rfl) ?_ (by assumption) ?_
              · intro w hSw; (try dsimp only at hSw); go_simp
              try simp only [List.setIfInBounds_toArray, List.set_cons_zero, List.set_cons_succ]
              refine takeH (i := 21) 209 (.pointer (some ⟨ql, kk, none⟩)) rfl rfl (by kernel_rfl) (by kernel_rfl) (by kernel_rfl) (fun _ _ _ h => h) (by rfl) ?_ (by assumption) ?_
              · intro w hSw; (try dsimp only at hSw); go_simp
              try simp only [List.setIfInBounds_toArray, List.set_cons_zero, List.set_cons_succ]
              refine takeH (i := 22) 210 (.int .i64 x'.al) rfl rfl (by kernel_rfl) (by kernel_rfl) (by kernel_rfl) (fun _ _ _ h => h) (by rfl) ?_ (by assumption) ?_
              · intro w hSw; (try dsimp only at hSw); go_simp
              try simp only [List.setIfInBounds_toArray, List.set_cons_zero, List.set_cons_succ]
              refine takeH (i := 23) 211 (.int .i64 kk) rfl rfl (by kernel_rfl) (by kernel_rfl) (by kernel_rfl) (fun _ _ _ h => h) (by rfl) ?_ (by assumption) ?_
              · intro w hSw; (try dsimp only at hSw); go_simp
              try simp only [List.setIfInBounds_toArray, List.set_cons_zero, List.set_cons_succ]
              refine takeH (i := 24) 212 (.pointer (some ⟨qb, kk, none⟩)) rfl rfl (by kernel_rfl) (by kernel_rfl) (by kernel_rfl) (fun _ _ _ h => h) (by rfl) ?_ (by assumption) ?_
              · intro w hSw; (try dsimp only at hSw); go_simp
              try simp only [List.setIfInBounds_toArray, List.set_cons_zero, List.set_cons_succ]
              refine takeH (i := 25) 213 (pt q) rfl rfl (by kernel_rfl) (by kernel_rfl) (by kernel_rfl) (fun _ _ _ h => h) (by rfl) ?_ (by assumption) ?_
              · intro w hSw; (try dsimp only at hSw); go_simp
              try simp only [List.setIfInBounds_toArray, List.set_cons_zero, List.set_cons_succ]
              refine takeH (i := 26) 214 (pt q) rfl rfl (by kernel_rfl) (by kernel_rfl) (by kernel_rfl) (fun _ _ _ h => h) (by rfl) ?_ (by assumption) ?_
              · intro w hSw; (try dsimp only at hSw); go_simp
              try simp only [List.setIfInBounds_toArray, List.set_cons_zero, List.set_cons_succ]
              refine takeH (i := 27) 215 (.pointer (some ⟨q, 16, none⟩)) rfl rfl (by kernel_rfl) (by kernel_rfl) (by kernel_rfl) (fun _ _ _ h => h) (by rfl) ?_ (by assumption) ?_
              · intro w hSw; (try dsimp only at hSw); go_simp
              try simp only [List.setIfInBounds_toArray, List.set_cons_zero, List.set_cons_succ]
              refine wpAnyH_ready (rs := [28]) (by kernel_rfl) (by simp) ?_
              refine AllReadyH.cons rfl (fun K hK => ?_) AllReadyH.nil
              go_simp
              refine hK.out _ _ hHeld (fun hHeld => ?_)
              clear hK K
              try simp only [Act.put, List.setIfInBounds_toArray, List.set_cons_zero, List.set_cons_succ]
              refine takeH (i := 29) 217 (.bool false) rfl rfl (by kernel_rfl) (by kernel_rfl) (by kernel_rfl) (fun _ _ _ h => h) (by rfl) ?_ (by assumption) ?_
              · intro w hSw; (try dsimp only at hSw); go_simp
              try simp only [List.setIfInBounds_toArray, List.set_cons_zero, List.set_cons_succ]
              refine takeH (i := 30) 218 (.bool false) rfl rfl (by kernel_rfl) (by kernel_rfl) (by kernel_rfl) (fun _ _ _ h => h) (by rfl) ?_ (by assumption) ?_
              · intro w hSw; (try dsimp only at hSw); go_simp
              try simp only [List.setIfInBounds_toArray, List.set_cons_zero, List.set_cons_succ]
              refine takeH (i := 31) 219 (.bool false) rfl rfl (by kernel_rfl) (by kernel_rfl) (by kernel_rfl) (fun _ _ _ h => h) (by rfl) ?_ (by assumption) ?_
              · intro w hSw; (try dsimp only at hSw); go_simp
              try simp only [List.setIfInBounds_toArray, List.set_cons_zero, List.set_cons_succ]
              refine takeH (i := 32) 220 (.int .i64 kk) rfl rfl (by kernel_rfl) (by kernel_rfl) (by kernel_rfl) (fun _ _ _ h => h) (by rfl) ?_ (by assumption) ?_
              · intro w hSw; (try dsimp only at hSw); go_simp
              try simp only [List.setIfInBounds_toArray, List.set_cons_zero, List.set_cons_succ]
              refine takeH (i := 33) 221 (.pointer (some ⟨qr, kk * 9, none⟩)) rfl rfl (by kernel_rfl) (by kernel_rfl) (by kernel_rfl) (fun _ _ _ h => h) (by rfl) ?_ (by assumption) ?_
              · intro w hSw; (try dsimp only at hSw); go_simp
              try simp only [List.setIfInBounds_toArray, List.set_cons_zero, List.set_cons_succ]
              refine takeH (i := 34) 222 (.agg #[.int .i64 x'.n, .int .i64 (x'.l 0), .int .i64 (x'.l 1), .int .i64 (x'.l 2), .int .i64 (x'.l 3), .int .i64 (x'.l 4), .int .i64 (x'.l 5), .int .i64 (x'.l 6), .int .i64 (x'.l 7)]) rfl rfl (by kernel_rfl) (by kernel_rfl) (by kernel_rfl) (fun _ _ _ h => h) (by rfl) (fun w hSw => yRoots (.tmp 221) rfl qr (kk * 9) rfl [.int .i64 x'.n, .int .i64 (x'.l 0), .int .i64 (x'.l 1), .int .i64 (x'.l 2), .int .i64 (x'.l 3), .int .i64 (x'.l 4), .int .i64 (x'.l 5), .int .i64 (x'.l 6), .int .i64 (x'.l 7)] rfl (hSw.2.2.2.2.2.2)) (by assumption) ?_
              simp only [List.setIfInBounds_toArray, List.set_cons_zero, List.set_cons_succ]
              refine takeH (i := 35) 223 (.int .i64 kk) rfl rfl (by kernel_rfl) (by kernel_rfl) (by kernel_rfl) (fun _ _ _ h => h) (by rfl) ?_ (by assumption) ?_
              · intro w hSw; (try dsimp only at hSw); go_simp
              try simp only [List.setIfInBounds_toArray, List.set_cons_zero, List.set_cons_succ]
              refine takeH (i := 36) 224 (.pointer (some ⟨qb, kk, none⟩)) rfl rfl (by kernel_rfl) (by kernel_rfl) (by kernel_rfl) (fun _ _ _ h => h) (by rfl) ?_ (by assumption) ?_
              · intro w hSw; (try dsimp only at hSw); go_simp
              try simp only [List.setIfInBounds_toArray, List.set_cons_zero, List.set_cons_succ]
              refine takeH (i := 37) 225 (pt q) rfl rfl (by kernel_rfl) (by kernel_rfl) (by kernel_rfl) (fun _ _ _ h => h) (by rfl) ?_ (by assumption) ?_
              · intro w hSw; (try dsimp only at hSw); go_simp
              try simp only [List.setIfInBounds_toArray, List.set_cons_zero, List.set_cons_succ]
              refine takeH (i := 38) 226 (pt q) rfl rfl (by kernel_rfl) (by kernel_rfl) (by kernel_rfl) (fun _ _ _ h => h) (by rfl) ?_ (by assumption) ?_
              · intro w hSw; (try dsimp only at hSw); go_simp
              try simp only [List.setIfInBounds_toArray, List.set_cons_zero, List.set_cons_succ]
              refine takeH (i := 39) 227 (.pointer (some ⟨q, 17, none⟩)) rfl rfl (by kernel_rfl) (by kernel_rfl) (by kernel_rfl) (fun _ _ _ h => h) (by rfl) ?_ (by assumption) ?_
              · intro w hSw; (try dsimp only at hSw); go_simp
              try simp only [List.setIfInBounds_toArray, List.set_cons_zero, List.set_cons_succ]
              refine wpAnyH_ready (rs := [40]) (by kernel_rfl) (by simp) ?_
              refine AllReadyH.cons rfl (fun K hK => ?_) AllReadyH.nil
              refine wp_load_mid 42 (.tmp 227) rfl q 17 rfl [.int .i64 x'.n, .int .i64 (x'.l 0), .int .i64 (x'.l 1), .int .i64 (x'.l 2), .int .i64 (x'.l 3), .int .i64 (x'.l 4), .int .i64 (x'.l 5), .int .i64 (x'.l 6), .int .i64 (x'.l 7)] d42 ld17 u42 v42 (by kernel_rfl) ?_
              refine hK.out _ _ hHeld (fun hHeld => ?_)
              clear hK K
              try simp only [Act.put, List.setIfInBounds_toArray, List.set_cons_zero, List.set_cons_succ]
              refine takeH (i := 41) 229 (.bool false) rfl rfl (by kernel_rfl) (by kernel_rfl) (by kernel_rfl) (fun _ _ _ h => h) (by rfl) ?_ (by assumption) ?_
              · intro w hSw; (try dsimp only at hSw); go_simp
              try simp only [List.setIfInBounds_toArray, List.set_cons_zero, List.set_cons_succ]
              refine takeH (i := 42) 230 (.bool false) rfl rfl (by kernel_rfl) (by kernel_rfl) (by kernel_rfl) (fun _ _ _ h => h) (by rfl) ?_ (by assumption) ?_
              · intro w hSw; (try dsimp only at hSw); go_simp
              try simp only [List.setIfInBounds_toArray, List.set_cons_zero, List.set_cons_succ]
              refine wpAnyH_done (by kernel_rfl) ?_ _
              clear RD kbl nb np nr na hbd h6d S7 ld17 u42 v42 d42 z8 z9 z10 z11 z16 zl hHeld
              have l1 : (x.mem s).ws.length = 160 := lenP hl
              have n1 : x'.n = x.n := by rw [← hx']; exact n_nextP
              have ok1 : x'.wh.Ok := by rw [← hx']; exact PollS.ok_next ok rng
              have hr1 : ∀ i, i < 3 → updN rn kk x'.n i ≤ 8 := updN_le hrn (by omega)
              clear hx' hrn hl rng ok nd n8 n1
              cases dn with
              | false =>
                have nd1 : x'.wh.pc ≠ 0 := by simpa using hdn
                have M9 := h7.close_ hk3 hpa hpr ok1 nd1 (updN_at _ _ _) (updN_at _ _ _) (updN_at _ _ _) (updN_at _ _ _)
                clear hdn nd1 ok1 h7
                go_wp2_with (fail)
                go_roundw
                case rel => exact ⟨j + 1, e, (x.mem s), a, za, zd, (updN ow kk x'.own), (updN al kk x'.al), (updN rn kk x'.n), (updN rl kk x'.l), pa, pr, _, _, by omega, he8, rfl, rfl, by go_num, by go_num, M9.mono (by omega), l1, okA, aN, hr1⟩
                case measure => simp [intOf]; omega
              | true =>
                have ca9 := h7.ap.ca hk3 hpa
                have cf9 := h7.ap.ba.free kk
                have cl9 := h7.ap.ba.lt
                have M9 := (h7.setA hk3 (.pointer none)).ap.none_ hk3 (updN_at _ _ _)
                clear hdn ok1 h7
                go_wp2_with (fail)
                go_roundw
                case rel => exact ⟨j + 1, e, (x.mem s), a, za, zd, (updN ow kk x'.own), (updN al kk x'.al), (updN rn kk x'.n), (updN rl kk x'.l), (updN pa kk (.pointer none)), pr, _, _, by omega, he8, rfl, rfl, by go_num, by go_num, M9.mono (by omega), l1, okA, aN, hr1⟩
                case measure => simp [intOf]; omega
end Go.Proofs.YtoablodmodnamaaDoor
