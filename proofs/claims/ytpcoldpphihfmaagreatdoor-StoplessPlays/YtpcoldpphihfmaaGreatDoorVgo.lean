import Derived.Test.YtpcoldpphihfmaaGreatDoorVu
import Derived.Test.YtpcoldpphihfmaaGreatDoorVr
import Derived.Test.YtpcoldpphihfmaaGreatDoorVl
import Derived.Test.YtpcoldpphihfmaaGreatDoorVco
namespace Go.Proofs.YtpcoldpphihfmaaGreatDoor
set_option linter.unusedVariables false
set_option linter.unusedSimpArgs false
set_option maxRecDepth 100000
open Go.ChangeShapes Go.WideShapes Go.RowKit
open H.Plain (hw pS pC pN pM pG pT pL mv)
theorem sh_g10 : gl 3 (fldP 1 fun _ => ⟨0, 5⟩) (stP 0 fun _ => 0) 10 = 0 := by have := ((gl_at 3 (fldP 1 fun _ => ⟨0, 5⟩) (stP 0 fun _ => 0)).2.2.2.2 0 (by decide)).2.1; simpa [stP] using this
theorem sh_g1 : gl 3 (fldP 1 fun _ => ⟨0, 5⟩) (stP 0 fun _ => 0) 1 = (fldP 1 (fun _ => ⟨0, 5⟩) 0).w := by have := ((gl_at 3 (fldP 1 fun _ => ⟨0, 5⟩) (stP 0 fun _ => 0)).2.2.2.2 0 (by decide)).1; simpa [stP] using this
theorem sh_v0 : fldP 1 (fun _ => ⟨0, 5⟩) 0 = ⟨0, 5⟩ := by unfold fldP valP; simp [kd]
def shQ : Wq := ⟨⟨1, 96, 0, ⟨0, 0⟩, ⟨0, 0⟩⟩, true, false⟩
def shR : Wq := ⟨⟨2, 96, 0, ⟨0, 0⟩, ⟨0, 7⟩⟩, true, false⟩
theorem sh_x {s : St} {g : Nat → Int} {v : Nat → Vl} (O : Ob s g v) (h0 : g 10 = 0) (h1 : g 1 = (v 0).w) (hv : v 0 = ⟨0, 5⟩) :
  runC (.hd shQ) s 3 = (.fin true ⟨0, ⟨0, 5⟩, false⟩, ((s.load 96).load 106).load 97) ∧ (runC (.hd shQ) s 1).1.done = false ∧ (runC (.hd shQ) s 2).1.done = false := by
 have e1 := go_hd (q := shQ) (k := 0) rfl rfl (by decide) O
 have O1 := O.load (x := 96) ⟨by decide, by decide⟩
 have e2 := go_a2 (q := shQ) (k := 0) rfl (by decide) O1
 rw [show Cw.by_ shQ 104 (g (10 + 2 * 0)) = .a3 shQ 104 by unfold Cw.by_; rw [show 10 + 2 * 0 = 10 from rfl, h0]; rfl] at e2
 have O2 := O1.load (x := 106) ⟨by decide, by decide⟩
 have e3 := go_a3o (q := shQ) (k := 0) rfl rfl (by decide) O2 h1
 rw [hv, if_pos (show Cw.told shQ (Vl.mk 0 5).w from .inl rfl)] at e3
 simp only [runC, e1.1, e1.2]
 rw [e2.1, show (Cw.a2 shQ 104).mem (s.load 96) = (s.load 96).load 106 from e2.2]
 rw [e3.1, show (Cw.a3 shQ 104).mem ((s.load 96).load 106) = ((s.load 96).load 106).load 97 from e3.2]
 exact ⟨by unfold Cw.tells; rw [if_pos (show shQ.r.op = 1 from rfl), show Vl.of (Vl.mk 0 5).w = ⟨0, 5⟩ by decide], rfl, rfl⟩
theorem sh_y {s : St} {g : Nat → Int} {v : Nat → Vl} (O : Ob s g v) (h0 : g 10 = 0) (h1 : g 1 = (v 0).w) (hv : v 0 = ⟨0, 5⟩) :
  (runC (.hd shR) s 4).1 = Cw.wrote shR ∧ (runC (.hd shR) s 1).1.done = false ∧ (runC (.hd shR) s 2).1.done = false ∧ (runC (.hd shR) s 3).1.done = false ∧ (runC (.hd shR) s 4).2.got 106 = 0 ∧ ((runC (.hd shR) s 4).2.load 106).got 97 = 56 := by
 have e1 := go_hd (q := shR) (k := 0) rfl rfl (by decide) O
 have O1 := O.load (x := 96) ⟨by decide, by decide⟩
 have e2 := go_a2 (q := shR) (k := 0) rfl (by decide) O1
 rw [show Cw.by_ shR 104 (g (10 + 2 * 0)) = .a3 shR 104 by unfold Cw.by_; rw [show 10 + 2 * 0 = 10 from rfl, h0]; rfl] at e2
 have O2 := O1.load (x := 106) ⟨by decide, by decide⟩
 have e3 := go_a3o (q := shR) (k := 0) rfl rfl (by decide) O2 h1
 rw [hv, if_neg (show ¬ Cw.told shR (Vl.mk 0 5).w by unfold Cw.told shR; simp)] at e3
 have O3 := O2.load (x := 97) ⟨by decide, by decide⟩
 have e5 : g (1 + 0) = (Vl.mk 0 5).w := by rw [← hv]; exact h1
 obtain ⟨q1, q2⟩ := O3.m.cas (i := 1) (by decide) e5 (Vl.mk 0 7).w
 have q1' : (((s.load 96).load 106).load 97).ok1 97 (Vl.mk 0 5).w = true := q1
 have q2' : MW ((((s.load 96).load 106).load 97).cas 97 (Vl.mk 0 5).w (Vl.mk 0 7).w) (updN g 1 (Vl.mk 0 7).w) := q2
 have e4n : (Cw.a4 shR 104 (Vl.mk 0 5).w).next (((s.load 96).load 106).load 97) = Cw.wrote shR := by
  simp only [Cw.next, e_fa' (q := shR) (k := 0) rfl rfl]
  rw [show (97 : Int) + ((0 : Nat) : Int) = 97 from rfl, q1']
  rfl
 have e4m : (Cw.a4 shR 104 (Vl.mk 0 5).w).mem (((s.load 96).load 106).load 97) = (((s.load 96).load 106).load 97).cas 97 (Vl.mk 0 5).w (Vl.mk 0 7).w := rfl
 simp only [runC, e1.1, e1.2]
 rw [e2.1, show (Cw.a2 shR 104).mem (s.load 96) = (s.load 96).load 106 from e2.2]
 rw [e3.1, show (Cw.a3 shR 104).mem ((s.load 96).load 106) = ((s.load 96).load 106).load 97 from e3.2]
 rw [e4n, e4m]
 refine ⟨rfl, rfl, rfl, rfl, ?_, ?_⟩
 ·have := q2'.got (i := 10) (by decide)
  rw [updN_ne _ _ (by decide), h0] at this
  exact this
 ·have := (q2'.load (x := 106) ⟨by decide, by decide⟩).got (i := 1) (by decide)
  rw [updN_at] at this
  exact this.trans (by decide)
set_option maxHeartbeats 4000000 in
theorem cShown (w : World) (L : Laid w) :
  Calls Tryz.prog 9 #[] w fun e w' => e = .returned (.bool true) ∧ Below w.heap.size w w' := by
 obtain ⟨W, Bw⟩ := L
 have hx := @sh_x
 have a1 : Below w.heap.size w (w.alloc (.cells #[.int .i64 6, .int .i64 0, .int .i64 0] 51)) := (Below.refl _ _).alloc (Nat.le_refl _) _
 have E1 : Blk w (w.alloc (.cells #[.int .i64 6, .int .i64 0, .int .i64 0] 51)) w.heap.size 51 #[.int .i64 6, .int .i64 0, .int .i64 0] := Blk.new (Nat.le_refl _) _ (by decide)
 go_enter Tryz.func9, Tryz.ntmps9
 go_upto_region 2 with (fail)
 generalize w.alloc (.cells #[.int .i64 6, .int .i64 0, .int .i64 0] 51) = wB at a1 E1 ⊢
 generalize w.heap.size = eb at E1 ⊢
 have WB := W.on a1
 have BB := Bw.on a1
 have e0 : wB.cell? ⟨eb, 0, none⟩ = some (.int .i64 6) := E1.cell 0
 have e1 : wB.cell? ⟨eb, 1, none⟩ = some (.int .i64 0) := E1.cell 1
 have e2 : wB.cell? ⟨eb, 2, none⟩ = some (.int .i64 0) := E1.cell 2
 have leb := E1.lt
 clear E1
 have cvA : CameV (wB.alloc (.cells #[.int .i64 0, .int .i64 5] 38)) (some ⟨wB.heap.size, 0, none⟩) 1 (fun _ => ⟨0, 5⟩) := .inr ⟨wB.heap.size, 0, rfl, by simp, fun j hj => by obtain rfl : j = 0 := (by omega); exact ⟨by go_cell, by go_cell, ⟨by decide, by decide, by decide, by decide⟩⟩⟩
 have ciA : CameI (wB.alloc (.cells #[.int .i64 0, .int .i64 5] 38)) none 0 (fun _ => 0) := .inl rfl
 have belA : Below wB.heap.size wB (wB.alloc (.cells #[.int .i64 0, .int .i64 5] 38)) := by go_grown
 go_upto_region 3 with (go_at_call 10; refine (cLaid (cv' := 1) (ct := 0) _ (WB.on belA) ciA cvA (by decide) (by decide)).mono ?_; rintro e w2 ⟨b, y, s, s2, rfl, h2, ews, M⟩; have d2 : Two wB w2 b y s s2 50 := h2.lift belA WB; rw [show kd 3 6 = 3 by decide] at M; have O := ob_gl M (fun k => good_fld _ _ k) (fun k => st_rng _ _ k); have g10 := sh_g10; have g1 := sh_g1; have hv0 := sh_v0; clear h2 M; have r0 : w2.cell? ⟨eb, 0, none⟩ = some (.int .i64 6) := (d2.bel.cell leb).trans e0; have r1 : w2.cell? ⟨eb, 1, none⟩ = some (.int .i64 0) := (d2.bel.cell leb).trans e1; have r2 : w2.cell? ⟨eb, 2, none⟩ = some (.int .i64 0) := (d2.bel.cell leb).trans e2; have rl : eb < w2.heap.size := Nat.lt_of_lt_of_le leb d2.bel.size)
 obtain ⟨x1, x2, x3⟩ := sh_x O g10 g1 hv0
 obtain ⟨y1, y2, y3, y4, y5, y6⟩ := sh_y (((O.load (x := 96) ⟨by decide, by decide⟩).load (x := 106) ⟨by decide, by decide⟩).load (x := 97) ⟨by decide, by decide⟩) g10 g1 hv0
 have z1 : (runC (.hd shQ) s 3).1 = .fin true ⟨0, ⟨0, 5⟩, false⟩ := by rw [x1]
 have z2 : (runC (.hd shQ) s 3).2 = ((s.load 96).load 106).load 97 := by rw [x1]
 rw [← z2] at y1 y2 y3 y4 y5 y6
 clear x1 z2 hx O g10 g1 hv0
 simp only [runC] at x2 x3 z1 y1 y2 y3 y4 y5 y6
 obtain ⟨X1, hX1⟩ : ∃ q, (Cw.hd shQ).next s = q := ⟨_, rfl⟩
 simp only [hX1] at x2 x3 z1 y1 y2 y3 y4 y5 y6
 obtain ⟨A1, hA1⟩ : ∃ q, (Cw.hd shQ).mem s = q := ⟨_, rfl⟩
 simp only [hA1] at x2 x3 z1 y1 y2 y3 y4 y5 y6
 obtain ⟨X2, hX2⟩ : ∃ q, X1.next A1 = q := ⟨_, rfl⟩
 simp only [hX2] at x2 x3 z1 y1 y2 y3 y4 y5 y6
 obtain ⟨A2, hA2⟩ : ∃ q, X1.mem A1 = q := ⟨_, rfl⟩
 simp only [hA2] at x2 x3 z1 y1 y2 y3 y4 y5 y6
 obtain ⟨X3, hX3⟩ : ∃ q, X2.next A2 = q := ⟨_, rfl⟩
 simp only [hX3] at x2 x3 z1 y1 y2 y3 y4 y5 y6
 obtain ⟨A3, hA3⟩ : ∃ q, X2.mem A2 = q := ⟨_, rfl⟩
 simp only [hA3] at x2 x3 z1 y1 y2 y3 y4 y5 y6
 obtain ⟨Y1, hY1⟩ : ∃ q, (Cw.hd shR).next A3 = q := ⟨_, rfl⟩
 simp only [hY1] at x2 x3 z1 y1 y2 y3 y4 y5 y6
 obtain ⟨A4, hA4⟩ : ∃ q, (Cw.hd shR).mem A3 = q := ⟨_, rfl⟩
 simp only [hA4] at x2 x3 z1 y1 y2 y3 y4 y5 y6
 obtain ⟨Y2, hY2⟩ : ∃ q, Y1.next A4 = q := ⟨_, rfl⟩
 simp only [hY2] at x2 x3 z1 y1 y2 y3 y4 y5 y6
 obtain ⟨A5, hA5⟩ : ∃ q, Y1.mem A4 = q := ⟨_, rfl⟩
 simp only [hA5] at x2 x3 z1 y1 y2 y3 y4 y5 y6
 obtain ⟨Y3, hY3⟩ : ∃ q, Y2.next A5 = q := ⟨_, rfl⟩
 simp only [hY3] at x2 x3 z1 y1 y2 y3 y4 y5 y6
 obtain ⟨A6, hA6⟩ : ∃ q, Y2.mem A5 = q := ⟨_, rfl⟩
 simp only [hA6] at x2 x3 z1 y1 y2 y3 y4 y5 y6
 obtain ⟨Y4, hY4⟩ : ∃ q, Y3.next A6 = q := ⟨_, rfl⟩
 simp only [hY4] at x2 x3 z1 y1 y2 y3 y4 y5 y6
 obtain ⟨A7, hA7⟩ : ∃ q, Y3.mem A6 = q := ⟨_, rfl⟩
 simp only [hA7] at x2 x3 z1 y1 y2 y3 y4 y5 y6
 have okQ : (Cw.hd shQ).Ok := ⟨.inl rfl, by decide, by decide, by decide, by decide⟩
 have okR : (Cw.hd shR).Ok := ⟨.inr (.inl rfl), by decide, by decide, by decide, by decide⟩
 have enQ : Cw.new ⟨1, 96, 0, ⟨0, 0⟩, ⟨0, 0⟩⟩ ⟨6, 0, 0⟩ = .hd shQ := by simp [Cw.new, shQ]
 have enR : Cw.new ⟨2, 96, 0, ⟨0, 0⟩, ⟨0, 7⟩⟩ ⟨6, 0, 0⟩ = .hd shR := by simp [Cw.new, shR]
 go_upto_region 4 with (go_at_call 15; refine (cNewC ⟨1, 96, 0, ⟨0, 0⟩, ⟨0, 0⟩⟩ ⟨6, 0, 0⟩ _).mono ?_; rintro e w4 ⟨px, rfl, Mx⟩; rw [enQ] at Mx; have d4 := d2.below Mx.bel; have mx : Cm wB w4 px (.hd shQ) := Mx.cm d2.bel.size okQ BB; clear Mx; have r0 : w4.cell? ⟨eb, 0, none⟩ = some (.int .i64 6) := (d4.bel.cell leb).trans e0; have r1 : w4.cell? ⟨eb, 1, none⟩ = some (.int .i64 0) := (d4.bel.cell leb).trans e1; have r2 : w4.cell? ⟨eb, 2, none⟩ = some (.int .i64 0) := (d4.bel.cell leb).trans e2; have rl : eb < w4.heap.size := Nat.lt_of_lt_of_le leb d4.bel.size)
 go_upto_region 7 with (go_at_call 15; refine (cNewC ⟨2, 96, 0, ⟨0, 0⟩, ⟨0, 7⟩⟩ ⟨6, 0, 0⟩ _).mono ?_; rintro e w5 ⟨py, rfl, My⟩; rw [enR] at My; have d5 := d4.below My.bel; have my : Cm wB w5 py (.hd shR) := My.cm d4.bel.size okR BB; have mx5 := mx.below My.bel; have nxy : px ≠ py := (by have := mx.lt; have := My.new; omega); clear My mx)
 go_upto_region 8 with (go_at_call 19; refine (tC d5 mx5 (by omega)).mono ?_; rintro e v0 ⟨rfl, dv0, mv0, ov0⟩; rw [hA1] at dv0; rw [hX1] at mv0 ⊢; obtain ⟨cv0, Bv0⟩ := mx5.blk; have qv0 := my.oth1 ov0 Bv0 (by decide) nxy.symm; clear Bv0)
 go_upto_region 9 with (go_at_call 19; refine (tC dv0 mv0 (by omega)).mono ?_; rintro e v1 ⟨rfl, dv1, mv1, ov1⟩; rw [hA2] at dv1; rw [hX2] at mv1 ⊢; obtain ⟨cv1, Bv1⟩ := mv0.blk; have qv1 := qv0.oth1 ov1 Bv1 (by decide) nxy.symm; clear Bv1)
 go_wp2_with (go_at_call 19; refine (tC dv1 mv1 (by omega)).mono ?_; rintro e v2 ⟨rfl, dv2, mv2, ov2⟩; rw [hA3] at dv2; rw [hX3] at mv2 ⊢; rw [show X3.done = true by rw [z1]; rfl]; obtain ⟨cv2, Bv2⟩ := mv1.blk; have qv2 := qv1.oth1 ov2 Bv2 (by decide) nxy.symm; clear Bv2)
 refine wp_loop_rounds 4 ?_
 rw [rounds_succ]
 go_wp2_with (go_at_call 19; refine (tC dv2 qv2 (by omega)).mono ?_; rintro e v3 ⟨rfl, dv3, mv3, ov3⟩; rw [hA4] at dv3; rw [hY1] at mv3 ⊢; rw [y2]; obtain ⟨cv3, Bv3⟩ := qv2.blk; have qv3 := mv2.oth1 ov3 Bv3 (by decide) nxy; clear Bv3)
 rw [rounds_succ]
 go_wp2_with (go_at_call 19; refine (tC dv3 mv3 (by omega)).mono ?_; rintro e v4 ⟨rfl, dv4, mv4, ov4⟩; rw [hA5] at dv4; rw [hY2] at mv4 ⊢; rw [y3]; obtain ⟨cv4, Bv4⟩ := mv3.blk; have qv4 := qv3.oth1 ov4 Bv4 (by decide) nxy; clear Bv4)
 rw [rounds_succ]
 go_wp2_with (go_at_call 19; refine (tC dv4 mv4 (by omega)).mono ?_; rintro e v5 ⟨rfl, dv5, mv5, ov5⟩; rw [hA6] at dv5; rw [hY3] at mv5 ⊢; rw [y4]; obtain ⟨cv5, Bv5⟩ := mv4.blk; have qv5 := qv4.oth1 ov5 Bv5 (by decide) nxy; clear Bv5)
 rw [rounds_succ]
 go_upto_region 17 with (go_at_call 19; refine (tC dv5 mv5 (by omega)).mono ?_; rintro e v6 ⟨rfl, dv6, mv6, ov6⟩; rw [hA7] at dv6; rw [hY4] at mv6 ⊢; rw [show Y4.done = true by rw [y1]; rfl]; obtain ⟨cv6, Bv6⟩ := mv5.blk; have qv6 := qv5.oth1 ov6 Bv6 (by decide) nxy; clear Bv6)
 have f0 := fOut0
 have f1 := fOut1
 have f2 := fVal1
 have hvx : X3.o.val = .agg #[.int .i64 0, .int .i64 0, .int .i64 5, .bool false] := by rw [z1]; rfl
 go_wp2_with (first
  | (go_at_call 22; refine (cCResult qv6).mono ?_; rintro e u2 ⟨rfl, hbu2⟩; rw [hvx]; have g2 := dv6.below hbu2)
  | (go_at_call_of 34 (Value.int .i64 106); refine (tLoad g2 (by omega) 106).mono ?_; rintro e u3 ⟨rfl, g3, ou3⟩; rw [y5])
  | (go_at_call_of 34 (Value.int .i64 97); refine (tLoad g3 (by omega) 97).mono ?_; rintro e u4 ⟨rfl, g4, ou4⟩; rw [y6])
  | (go_at_call 25; refine (cPair 104 0 (by decide) (by decide) (by decide) (by decide) _).mono ?_; rintro e u5 ⟨rfl, hu5⟩; rw [hu5, show pairP 104 0 = 106 by decide]; clear hu5 u5))
 go_ret
 exact ⟨rfl, bel_trans a1 g4.bel⟩
end Go.Proofs.YtpcoldpphihfmaaGreatDoor
