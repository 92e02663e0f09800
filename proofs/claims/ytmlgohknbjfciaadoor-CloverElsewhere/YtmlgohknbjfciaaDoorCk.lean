/-
  A claimed object none of whose fields has the sentinel, as the laws have it.
-/
import Derived.Test.YtmlgohknbjfciaaDoorCu
import Derived.Test.YtmlgohknbjfciaaDoorCg
import Derived.Test.YtmlgohknbjfciaaDoorCd
namespace Go.Proofs.YtmlgohknbjfciaaDoor
set_option linter.unusedVariables false
set_option linter.unusedSimpArgs false
set_option maxRecDepth 100000
open Go.ChangeShapes Go.WideShapes Go.RowKit
open H.Plain (hw pS pC pN pM pG pT pL mv)

def sh5 : St := laidS 4 2 (fldP 1 fun _ => ⟨0, 5⟩)
def sh9 : St := laidS 4 2 (fldP 1 fun _ => ⟨0, 9⟩)
def shX : Cw := .hd ⟨1, 96, 0, ⟨0, 0⟩, ⟨0, 0⟩⟩ false false
def shY : Cw := .hd ⟨2, 96, 0, ⟨0, 0⟩, ⟨0, 7⟩⟩ false false
def shZ : Cw := .hd ⟨2, 96, 0, ⟨0, 0⟩, ⟨0, 9⟩⟩ false false
theorem shown_x : (runC shX sh5 2).1.done = true ∧ (runC shX sh5 2).1.o = ⟨0, ⟨0, 5⟩, false⟩ := ⟨by kernel_rfl, by kernel_rfl⟩
theorem shown_y : (runC shY sh9 3).1.done = true ∧ (runC shY sh9 3).2.got 113 = 56 := ⟨by kernel_rfl, by kernel_rfl⟩
theorem shown_z : (runC shZ (runC shX sh5 2).2 2).1.done = true ∧ (runC shZ (runC shX sh5 2).2 2).1.o = ⟨3, ⟨0, 0⟩, false⟩ := ⟨by kernel_rfl, by kernel_rfl⟩
set_option maxHeartbeats 4000000 in
theorem cShown (w : World) (W : H.Wid w) :
    Calls Tryd.prog 5 #[] w fun e w' => e = .returned (.bool true) ∧ Below w.heap.size w w' := by
  obtain ⟨S5, hS5⟩ : ∃ S, sh5 = S := ⟨_, rfl⟩
  obtain ⟨S9, hS9⟩ : ∃ S, sh9 = S := ⟨_, rfl⟩
  have hx := shown_x
  have hy := shown_y
  have hz := shown_z
  rw [hS5] at hx hz
  rw [hS9] at hy
  simp only [runC] at hx hy hz
  obtain ⟨X1, hX1⟩ : ∃ q, shX.next S5 = q := ⟨_, rfl⟩
  obtain ⟨A1, hA1⟩ : ∃ q, shX.mem S5 = q := ⟨_, rfl⟩
  rw [hX1, hA1] at hx hz
  obtain ⟨X2, hX2⟩ : ∃ q, X1.next A1 = q := ⟨_, rfl⟩
  obtain ⟨A2, hA2⟩ : ∃ q, X1.mem A1 = q := ⟨_, rfl⟩
  rw [hX2] at hx
  rw [hA2] at hz
  obtain ⟨Z1, hZ1⟩ : ∃ q, shZ.next A2 = q := ⟨_, rfl⟩
  obtain ⟨A3, hA3⟩ : ∃ q, shZ.mem A2 = q := ⟨_, rfl⟩
  rw [hZ1, hA3] at hz
  obtain ⟨Z2, hZ2⟩ : ∃ q, Z1.next A3 = q := ⟨_, rfl⟩
  obtain ⟨A4, hA4⟩ : ∃ q, Z1.mem A3 = q := ⟨_, rfl⟩
  rw [hZ2] at hz
  obtain ⟨Y1, hY1⟩ : ∃ q, shY.next S9 = q := ⟨_, rfl⟩
  obtain ⟨B1, hB1⟩ : ∃ q, shY.mem S9 = q := ⟨_, rfl⟩
  rw [hY1, hB1] at hy
  obtain ⟨Y2, hY2⟩ : ∃ q, Y1.next B1 = q := ⟨_, rfl⟩
  obtain ⟨B2, hB2⟩ : ∃ q, Y1.mem B1 = q := ⟨_, rfl⟩
  rw [hY2, hB2] at hy
  obtain ⟨Y3, hY3⟩ : ∃ q, Y2.next B2 = q := ⟨_, rfl⟩
  obtain ⟨B3, hB3⟩ : ∃ q, Y2.mem B2 = q := ⟨_, rfl⟩
  rw [hY3, hB3] at hy
  obtain ⟨x1, x2⟩ := hx
  obtain ⟨y1, y2⟩ := hy
  obtain ⟨z1, z2⟩ := hz
  have okx : (Rq.mk 1 96 0 ⟨0, 0⟩ ⟨0, 0⟩).Ok := ⟨.inl rfl, by decide, by decide, by decide, by decide, .inr (by decide)⟩
  have oky : (Rq.mk 2 96 0 ⟨0, 0⟩ ⟨0, 7⟩).Ok := ⟨.inr (.inl rfl), by decide, by decide, by decide, by decide, .inr (by decide)⟩
  have okz : (Rq.mk 2 96 0 ⟨0, 0⟩ ⟨0, 9⟩).Ok := ⟨.inr (.inl rfl), by decide, by decide, by decide, by decide, .inr (by decide)⟩
  have okX : shX.Ok := ⟨.inl rfl, by decide, by decide, by decide, by decide⟩
  have okY : shY.Ok := ⟨.inr (.inl rfl), by decide, by decide, by decide, by decide⟩
  have okZ : shZ.Ok := ⟨.inr (.inl rfl), by decide, by decide, by decide, by decide⟩
  go_enter Tryd.func5, Tryd.ntmps5
  go_upto_region 2 with (go_at_call 12; refine (cAt _).mono ?_; rintro e wa ⟨rfl, hba⟩)
  have a1 : Below wa.heap.size wa (wa.alloc (.cells #[.int .i64 4, .int .i64 4, .int .i64 14, .int .i64 32, .int .i64 160] 45)) := (Below.refl _ _).alloc (Nat.le_refl _) _
  have P1 : Blk wa (wa.alloc (.cells #[.int .i64 4, .int .i64 4, .int .i64 14, .int .i64 32, .int .i64 160] 45)) wa.heap.size 45 #[.int .i64 4, .int .i64 4, .int .i64 14, .int .i64 32, .int .i64 160] := Blk.new (Nat.le_refl _) _ (by decide)
  have bel1 := bel_trans hba a1
  generalize wa.alloc (.cells #[.int .i64 4, .int .i64 4, .int .i64 14, .int .i64 32, .int .i64 160] 45) = wb at a1 P1 bel1 ⊢
  generalize wa.heap.size = pb at P1 ⊢
  have lpb1 := P1.lt
  go_upto_region 3 with (fail)
  have a2 : Below wb.heap.size wb (wb.alloc (.cells #[.int .i64 6, .int .i64 0, .int .i64 9] 39)) := (Below.refl _ _).alloc (Nat.le_refl _) _
  have P2 := P1.below a2
  have E2 : Blk wb (wb.alloc (.cells #[.int .i64 6, .int .i64 0, .int .i64 9] 39)) wb.heap.size 39 #[.int .i64 6, .int .i64 0, .int .i64 9] := Blk.new (Nat.le_refl _) _ (by decide)
  have bel2 := bel_trans bel1 a2
  generalize wb.alloc (.cells #[.int .i64 6, .int .i64 0, .int .i64 9] 39) = wB at a2 P2 E2 bel2 ⊢
  generalize wb.heap.size = eb at E2 ⊢
  have lpb := P2.lt
  have leb := E2.lt
  have p0 : wB.cell? ⟨pb, 0, none⟩ = some (.int .i64 4) := P2.cell 0
  have p1 : wB.cell? ⟨pb, 1, none⟩ = some (.int .i64 4) := P2.cell 1
  have p2 : wB.cell? ⟨pb, 2, none⟩ = some (.int .i64 14) := P2.cell 2
  have p3 : wB.cell? ⟨pb, 3, none⟩ = some (.int .i64 32) := P2.cell 3
  have p4 : wB.cell? ⟨pb, 4, none⟩ = some (.int .i64 160) := P2.cell 4
  have e0 : wB.cell? ⟨eb, 0, none⟩ = some (.int .i64 6) := E2.cell 0
  have e1 : wB.cell? ⟨eb, 1, none⟩ = some (.int .i64 0) := E2.cell 1
  have e2 : wB.cell? ⟨eb, 2, none⟩ = some (.int .i64 9) := E2.cell 2
  have WB := W.on bel2
  clear hba a1 P1 bel1 lpb1 a2 P2 E2
  have cvA : CameV (wB.alloc (.cells #[.int .i64 0, .int .i64 5] 24)) (some ⟨wB.heap.size, 0, none⟩) 1 (fun _ => ⟨0, 5⟩) := .inr ⟨wB.heap.size, 0, rfl, by simp, fun j hj => by obtain rfl : j = 0 := (by omega); exact ⟨by go_cell, by go_cell, ⟨by decide, by decide, by decide, by decide⟩⟩⟩
  have belA : Below wB.heap.size wB (wB.alloc (.cells #[.int .i64 0, .int .i64 5] 24)) := by go_grown
  go_upto_region 4 with (go_at_call 7; refine (cLaid (cv' := 1) _ (WB.on belA) cvA (by decide) (by decide) (by decide) (by decide)).mono ?_; rintro e w2 ⟨b1, z1', rfl, h2⟩; have h2' : Hand wB w2 b1 S5 20 := (by rw [← hS5]; exact h2.one.lift belA WB); clear h2)
  have cvC : CameV (w2.alloc (.cells #[.int .i64 0, .int .i64 9] 24)) (some ⟨w2.heap.size, 0, none⟩) 1 (fun _ => ⟨0, 9⟩) := .inr ⟨w2.heap.size, 0, rfl, by simp, fun j hj => by obtain rfl : j = 0 := (by omega); exact ⟨by go_cell, by go_cell, ⟨by decide, by decide, by decide, by decide⟩⟩⟩
  have belC : Below w2.heap.size w2 (w2.alloc (.cells #[.int .i64 0, .int .i64 9] 24)) := by go_grown
  go_upto_region 5 with (go_at_call 7; refine (cLaid (cv' := 1) _ (h2'.widw.on belC) cvC (by decide) (by decide) (by decide) (by decide)).mono ?_; rintro e w3 ⟨b2, z2', rfl, h3⟩; have h3' : Hand w2 w3 b2 S9 20 := (by rw [← hS9]; exact h3.one.lift belC h2'.widw); have d3 := h2'.duo h3' (Nat.le_refl _); clear h3 h3' h2'; have qp0 : w3.cell? ⟨pb, 0, none⟩ = some (.int .i64 4) := (d3.bel.cell lpb).trans p0; have qp1 : w3.cell? ⟨pb, 1, none⟩ = some (.int .i64 4) := (d3.bel.cell lpb).trans p1; have qp2 : w3.cell? ⟨pb, 2, none⟩ = some (.int .i64 14) := (d3.bel.cell lpb).trans p2; have qp3 : w3.cell? ⟨pb, 3, none⟩ = some (.int .i64 32) := (d3.bel.cell lpb).trans p3; have qp4 : w3.cell? ⟨pb, 4, none⟩ = some (.int .i64 160) := (d3.bel.cell lpb).trans p4; have qe0 : w3.cell? ⟨eb, 0, none⟩ = some (.int .i64 6) := (d3.bel.cell leb).trans e0; have qe1 : w3.cell? ⟨eb, 1, none⟩ = some (.int .i64 0) := (d3.bel.cell leb).trans e1; have qe2 : w3.cell? ⟨eb, 2, none⟩ = some (.int .i64 9) := (d3.bel.cell leb).trans e2; have qpl : pb < w3.heap.size := Nat.lt_of_lt_of_le lpb d3.bel.size; have qel : eb < w3.heap.size := Nat.lt_of_lt_of_le leb d3.bel.size)
  go_upto_region 6 with (go_at_call 11; refine (cNewC ⟨1, 96, 0, ⟨0, 0⟩, ⟨0, 0⟩⟩ ⟨6, 0, 9⟩ _ okx rfl).mono ?_; rintro e w4 ⟨px, rfl, Mx⟩; have d4 := d3.below Mx.bel; have mx : Cm wB w4 px shX := Mx.cm d3.bel.size okX; clear Mx; have rp0 : w4.cell? ⟨pb, 0, none⟩ = some (.int .i64 4) := (d4.bel.cell lpb).trans p0; have rp1 : w4.cell? ⟨pb, 1, none⟩ = some (.int .i64 4) := (d4.bel.cell lpb).trans p1; have rp2 : w4.cell? ⟨pb, 2, none⟩ = some (.int .i64 14) := (d4.bel.cell lpb).trans p2; have rp3 : w4.cell? ⟨pb, 3, none⟩ = some (.int .i64 32) := (d4.bel.cell lpb).trans p3; have rp4 : w4.cell? ⟨pb, 4, none⟩ = some (.int .i64 160) := (d4.bel.cell lpb).trans p4; have re0 : w4.cell? ⟨eb, 0, none⟩ = some (.int .i64 6) := (d4.bel.cell leb).trans e0; have re1 : w4.cell? ⟨eb, 1, none⟩ = some (.int .i64 0) := (d4.bel.cell leb).trans e1; have re2 : w4.cell? ⟨eb, 2, none⟩ = some (.int .i64 9) := (d4.bel.cell leb).trans e2; have rpl : pb < w4.heap.size := Nat.lt_of_lt_of_le lpb d4.bel.size; have rel : eb < w4.heap.size := Nat.lt_of_lt_of_le leb d4.bel.size)
  go_upto_region 7 with (go_at_call 11; refine (cNewC ⟨2, 96, 0, ⟨0, 0⟩, ⟨0, 7⟩⟩ ⟨6, 0, 9⟩ _ oky rfl).mono ?_; rintro e w5 ⟨py, rfl, My⟩; have d5 := d4.below My.bel; have my : Cm wB w5 py shY := My.cm d4.bel.size okY; have mx5 := mx.below My.bel; have nxy : px ≠ py := (by have := mx.lt; have := My.new; omega); clear My mx; have sp0 : w5.cell? ⟨pb, 0, none⟩ = some (.int .i64 4) := (d5.bel.cell lpb).trans p0; have sp1 : w5.cell? ⟨pb, 1, none⟩ = some (.int .i64 4) := (d5.bel.cell lpb).trans p1; have sp2 : w5.cell? ⟨pb, 2, none⟩ = some (.int .i64 14) := (d5.bel.cell lpb).trans p2; have sp3 : w5.cell? ⟨pb, 3, none⟩ = some (.int .i64 32) := (d5.bel.cell lpb).trans p3; have sp4 : w5.cell? ⟨pb, 4, none⟩ = some (.int .i64 160) := (d5.bel.cell lpb).trans p4; have se0 : w5.cell? ⟨eb, 0, none⟩ = some (.int .i64 6) := (d5.bel.cell leb).trans e0; have se1 : w5.cell? ⟨eb, 1, none⟩ = some (.int .i64 0) := (d5.bel.cell leb).trans e1; have se2 : w5.cell? ⟨eb, 2, none⟩ = some (.int .i64 9) := (d5.bel.cell leb).trans e2; have spl : pb < w5.heap.size := Nat.lt_of_lt_of_le lpb d5.bel.size; have sel : eb < w5.heap.size := Nat.lt_of_lt_of_le leb d5.bel.size)
  go_upto_region 8 with (go_at_call 11; refine (cNewC ⟨2, 96, 0, ⟨0, 0⟩, ⟨0, 9⟩⟩ ⟨6, 0, 9⟩ _ okz rfl).mono ?_; rintro e w6 ⟨pz, rfl, Mz⟩; have d6 := d5.below Mz.bel; have mz : Cm wB w6 pz shZ := Mz.cm d5.bel.size okZ; have mx6 := mx5.below Mz.bel; have my6 := my.below Mz.bel; have nxz : px ≠ pz := (by have := mx5.lt; have := Mz.new; omega); have nyz : py ≠ pz := (by have := my.lt; have := Mz.new; omega); clear Mz mx5 my)
  go_upto_region 10 with (fail)
  go_upto_region 11 with (go_at_call 13; refine (tC d6 mx6 (by omega)).mono ?_; rintro e v0 ⟨rfl, ev00, mxv0, ov0⟩; rw [hA1] at ev00; rw [hX1] at mxv0 ⊢; have ev0 := ev00; clear ev00; obtain ⟨cv0, Bv0⟩ := mx6.blk; have myv0 := my6.oth1 ov0 Bv0 (by decide) nxy.symm; have mzv0 := mz.oth1 ov0 Bv0 (by decide) nxz.symm; clear Bv0)
  go_upto_region 12 with (go_at_call 13; refine (tC ev0 mxv0 (by omega)).mono ?_; rintro e v1 ⟨rfl, ev10, mxv1, ov1⟩; rw [hA2] at ev10; rw [hX2] at mxv1 ⊢; rw [x1]; have ev1 := ev10; clear ev10; obtain ⟨cv1, Bv1⟩ := mxv0.blk; have myv1 := myv0.oth1 ov1 Bv1 (by decide) nxy.symm; have mzv1 := mzv0.oth1 ov1 Bv1 (by decide) nxz.symm; clear Bv1)
  go_upto_region 13 with (go_at_call 13; refine (tC ev1.flip myv1 (by omega)).mono ?_; rintro e v2 ⟨rfl, ev20, myv2, ov2⟩; rw [hB1] at ev20; rw [hY1] at myv2 ⊢; have ev2 := ev20.flip; clear ev20; obtain ⟨cv2, Bv2⟩ := myv1.blk; have mxv2 := mxv1.oth1 ov2 Bv2 (by decide) nxy; have mzv2 := mzv1.oth1 ov2 Bv2 (by decide) nyz.symm; clear Bv2)
  go_upto_region 14 with (go_at_call 13; refine (tC ev2.flip myv2 (by omega)).mono ?_; rintro e v3 ⟨rfl, ev30, myv3, ov3⟩; rw [hB2] at ev30; rw [hY2] at myv3 ⊢; have ev3 := ev30.flip; clear ev30; obtain ⟨cv3, Bv3⟩ := myv2.blk; have mxv3 := mxv2.oth1 ov3 Bv3 (by decide) nxy; have mzv3 := mzv2.oth1 ov3 Bv3 (by decide) nyz.symm; clear Bv3)
  go_upto_region 15 with (go_at_call 13; refine (tC ev3.flip myv3 (by omega)).mono ?_; rintro e v4 ⟨rfl, ev40, myv4, ov4⟩; rw [hB3] at ev40; rw [hY3] at myv4 ⊢; rw [y1]; have ev4 := ev40.flip; clear ev40; obtain ⟨cv4, Bv4⟩ := myv3.blk; have mxv4 := mxv3.oth1 ov4 Bv4 (by decide) nxy; have mzv4 := mzv3.oth1 ov4 Bv4 (by decide) nyz.symm; clear Bv4)
  go_upto_region 16 with (go_at_call 13; refine (tC ev4 mzv4 (by omega)).mono ?_; rintro e v5 ⟨rfl, ev50, mzv5, ov5⟩; rw [hA3] at ev50; rw [hZ1] at mzv5 ⊢; have ev5 := ev50; clear ev50; obtain ⟨cv5, Bv5⟩ := mzv4.blk; have mxv5 := mxv4.oth1 ov5 Bv5 (by decide) nxz; have myv5 := myv4.oth1 ov5 Bv5 (by decide) nyz; clear Bv5)
  go_upto_region 17 with (go_at_call 13; refine (tC ev5 mzv5 (by omega)).mono ?_; rintro e v6 ⟨rfl, ev60, mzv6, ov6⟩; rw [hA4] at ev60; rw [hZ2] at mzv6 ⊢; rw [z1]; have ev6 := ev60; clear ev60; obtain ⟨cv6, Bv6⟩ := mzv5.blk; have mxv6 := mxv5.oth1 ov6 Bv6 (by decide) nxz; have myv6 := myv5.oth1 ov6 Bv6 (by decide) nyz; clear Bv6)
  have f0 := fOut0
  have f1 := fOut1
  have f2 := fVal1
  have hvz : Z2.o.val = .agg #[.int .i64 3, .int .i64 0, .int .i64 0, .bool false] := by rw [z2]; rfl
  have hvx : X2.o.val = .agg #[.int .i64 0, .int .i64 0, .int .i64 5, .bool false] := by rw [x2]; rfl
  go_wp2_with (first
    | (go_at_call_of 16 (pt pz); refine (cCResult mzv6).mono ?_; rintro e u1 ⟨rfl, hbu1⟩; rw [hvz]; have g1 := ev6.below hbu1; have mxu := mxv6.below hbu1)
    | (go_at_call_of 16 (pt px); refine (cCResult mxu).mono ?_; rintro e u2 ⟨rfl, hbu2⟩; rw [hvx]; have g2 := g1.below hbu2)
    | (go_at_call 15; refine (tLoad g2.flip (by omega) 113).mono ?_; rintro e u3 ⟨rfl, g3, ou3⟩; rw [y2]))
  go_ret
  exact ⟨rfl, bel_trans bel2 g3.bel⟩
end Go.Proofs.YtmlgohknbjfciaaDoor

namespace Go.Proofs.YtmlgohknbjfciaaDoor
set_option linter.unusedVariables false
set_option linter.unusedSimpArgs false
set_option maxRecDepth 100000
open Go.ChangeShapes Go.WideShapes Go.RowKit

def zcP (zl : Nat → Vl) (j : Nat) : Vl := if valP (zl j) = nine then ⟨0, 8⟩ else zl j
def rowV (z : Nat → Vl) : Nat → List Value
  | 0 => []
  | j + 1 => rowV z j ++ [.int .i64 (z j).k, .int .i64 (z j).n]
theorem rowV_len (z : Nat → Vl) (n : Nat) : (rowV z n).length = n * 2 := by
  induction n with
  | zero => rfl
  | succ n ih => simp [rowV, ih]; omega
theorem rowV_get (z : Nat → Vl) {n j : Nat} (h : j < n) : (rowV z n)[j * 2]? = some (.int .i64 (z j).k) ∧ (rowV z n)[j * 2 + 1]? = some (.int .i64 (z j).n) := by
  induction n with
  | zero => omega
  | succ n ih =>
    have hl := rowV_len z n
    by_cases e : j = n
    · subst e
      simp only [rowV]
      rw [List.getElem?_append_right (by omega), List.getElem?_append_right (by omega), hl]
      constructor
      · rw [show j * 2 - j * 2 = 0 by omega]; rfl
      · rw [show j * 2 + 1 - j * 2 = 1 by omega]; rfl
    · simp only [rowV]
      rw [List.getElem?_append_left (by omega), List.getElem?_append_left (by omega)]
      exact ih (by omega)
theorem val8 : valP ⟨0, 8⟩ = ⟨0, 8⟩ := by decide
theorem cl_fld (ll : Nat) (zl : Nat → Vl) : fldP (min ll 3) (zcP zl) = clP ll zl := by
  funext j
  unfold fldP clP zcP
  by_cases h : j < ll ∧ j < 3
  · rw [if_pos (by omega), if_pos h]
    split
    · exact val8
    · rfl
  · rw [if_neg (by omega), if_neg h]
theorem fit_zc {zl : Nat → Vl} {j : Nat} (h : (zl j).Fit) : (zcP zl j).Fit := by
  unfold zcP; split
  · exact ⟨by decide, by decide, by decide, by decide⟩
  · exact h
section
variable {w w' : World} {v : Value} {n : Nat} {z : Nat → Vl}
theorem own_lt {e : TypeId} {size : Nat} {xs : List Value} (h : w.ownsRow 0 e size v n xs) : ∀ k, v.ownBlock = some k → k < w.heap.size := by
  intro k hk
  rcases h.2 with ⟨rfl, _⟩ | ⟨g, cap, cur, rfl, _, hg, _⟩
  · cases hk
  · cases hk; exact lt_of_block hg
theorem own_came (h : w.ownsRow 0 24 2 v n (rowV z n)) (hf : ∀ j, j < n → (z j).Fit) : ∃ ao cap, v = .slice ao n cap ∧ CameV w ao n z := by
  rcases h.2 with ⟨rfl, h0⟩ | ⟨g, cap, cur, rfl, _, hg, _, _, hs, hx⟩
  · exact ⟨none, 0, by rw [h0], .inl h0⟩
  · refine ⟨_, _, rfl, .inr ⟨g, 0, rfl, lt_of_block hg, fun j hj => ?_⟩⟩
    have q := rowV_get z hj
    rw [← hx] at q
    rw [List.getElem?_take_of_lt (by omega), List.getElem?_take_of_lt (by omega)] at q
    refine ⟨?_, ?_, hf j hj⟩
    · rw [Nat.zero_add, cell_of_row w _ _ _ _ _ hg]
      simpa using q.1
    · rw [Nat.zero_add, cell_of_row w _ _ _ _ _ hg]
      simpa using q.2
end
theorem new2 (W : World) (k : Nat) (hk : W.heap.size = k) (x y : Value) (T : TypeId) : ∀ j u, [x, y][j]? = some u → (W.alloc (.cells #[x, y] T)).cell? ((⟨k, 0, none⟩ : Addr).add j) = some u := by
  subst hk
  intro j u hu
  rw [Addr.add_lit, Nat.zero_add, cell_of_row _ _ _ _ _ _ (heap_alloc_new W _)]
  simpa using hu
theorem own_blk {w : World} {v : Value} {n size : Nat} {e : TypeId} {xs : List Value} (h : w.ownsRow 0 e size v n xs) : ∀ k, v.ownBlock = some k → ∃ cs fz, w.heap[k]? = some (.cells cs e fz) := by
  intro k hk
  rcases h.2 with ⟨rfl, _⟩ | ⟨g, cap, cur, rfl, _, hg, _⟩
  · cases hk
  · cases hk; exact ⟨_, _, hg⟩
theorem infoV : (Tryd.prog.info? 24).map (fun i => (i.zero, i.size, i.bytes)) = some (some (.agg #[.int .i64 0, .int .i64 0]), 2, 16) := by kernel_rfl
set_option maxHeartbeats 4000000 in
theorem cClaimed (w : World) {av : Option Addr} {ll cv' : Nat} {zl : Nat → Vl} (cv : CameV w av ll zl) :
    Calls Tryd.prog 6 #[.slice av ll cv'] w fun e w' => ∃ ao cap, e = .returned (.agg #[.int .i64 4, .int .i64 2, .slice ao (min ll 3) cap]) ∧ CameV w' ao (min ll 3) (zcP zl) ∧ Below w.heap.size w w' := by
  obtain ⟨i0, hi, hz0, hz1, hz2⟩ := info_parts infoV
  have a0 : Below w.heap.size w (w.alloc (.cells #[.int .i64 0, .int .i64 0, .slice none 0 0] 31)) := (Below.refl _ _).alloc (Nat.le_refl _) _
  have R0 : Blk w (w.alloc (.cells #[.int .i64 0, .int .i64 0, .slice none 0 0] 31)) w.heap.size 31 #[.int .i64 0, .int .i64 0, .slice none 0 0] := Blk.new (Nat.le_refl _) _ (by decide)
  go_enter Tryd.func6, Tryd.ntmps6
  go_upto_region 1 with (fail)
  generalize w.alloc (.cells #[.int .i64 0, .int .i64 0, .slice none 0 0] 31) = w1 at a0 R0 ⊢
  generalize w.heap.size = rb at R0 ⊢
  have a2 : Below w1.heap.size w1 (w1.alloc (.cells #[.int .i64 4, .int .i64 2, .slice none 0 0] 31)) := (Below.refl _ _).alloc (Nat.le_refl _) _
  have C2 : Blk w (w1.alloc (.cells #[.int .i64 4, .int .i64 2, .slice none 0 0] 31)) w1.heap.size 31 #[.int .i64 4, .int .i64 2, .slice none 0 0] := Blk.new a0.size _ (by decide)
  have R2 := R0.below a2
  have b2 := a0.trans (a2.mono a0.size)
  have nrb : w1.heap.size ≠ rb := by have := R0.lt; omega
  go_wp2_with (fail)
  generalize w1.alloc (.cells #[.int .i64 4, .int .i64 2, .slice none 0 0] 31) = w2 at a2 C2 R2 b2 ⊢
  generalize w1.heap.size = bb at C2 nrb ⊢
  go_loopw [4] (fun i wr => ∃ (j : Nat) (v : Value), j ≤ 3 ∧ j ≤ ll ∧ i = .int .i64 j ∧ wr.ownsRow 0 24 2 v j (rowV (zcP zl) j) ∧ (∀ k, v.ownBlock = some k → w.heap.size ≤ k) ∧ Blk w wr bb 31 #[.int .i64 4, .int .i64 2, v] ∧ Blk w wr rb 31 #[.int .i64 0, .int .i64 0, .slice none 0 0] ∧ Below w.heap.size w wr) (fun i _ => 3 - (intOf i).toNat)
  case atStart => exact ⟨0, .slice none 0 0, by omega, by omega, rfl, ⟨rfl, .inl ⟨rfl, rfl⟩⟩, (fun k hk => by cases hk), C2, R2, b2⟩
  case round =>
    clear a0 R0 a2 C2 R2 b2
    obtain ⟨j, v, hj3, hjl, rfl, own, bo, C, R, b⟩ := hrel
    by_cases hin : j < ll ∧ j < 3
    case pos =>
      have hA : (j : Int) < (ll : Int) := by omega
      have hB : (j : Int) < 3 := by omega
      have cv1 := cv.on b
      obtain ⟨lb, off, rfl, hlb, hz⟩ : ∃ b off, av = some ⟨b, off, none⟩ ∧ b < wr.heap.size ∧ ∀ j, j < ll → wr.cell? ⟨b, off + j * 2, none⟩ = some (.int .i64 (zl j).k) ∧ wr.cell? ⟨b, off + (j * 2 + 1), none⟩ = some (.int .i64 (zl j).n) ∧ (zl j).Fit := (cv1.resolve_left (by omega))
      obtain ⟨d0, d1, df⟩ := hz j hin.1
      obtain ⟨qv, hqv⟩ : ∃ qv, zl j = qv := ⟨_, rfl⟩
      have HZ0 : Hid (zcP zl j = if valP qv = nine then ⟨0, 8⟩ else qv) := (by rw [zcP, hqv] : zcP zl j = if valP qv = nine then ⟨0, 8⟩ else qv)
      rw [hqv] at d0 d1 df
      rw [← Nat.add_assoc] at d1
      clear hz hqv cv1 hin
      have a3 : Below wr.heap.size wr (wr.alloc (.cells #[.int .i64 qv.k, .int .i64 qv.n] 24)) := (Below.refl _ _).alloc (Nat.le_refl _) _
      have own3 := own_oth own (Oth.below (F := []) a3) (by decide) (by simp)
      have C3 := C.below a3
      have R3 := R.below a3
      have b3 := b.trans (a3.mono b.size)
      have V3 : Blk w (wr.alloc (.cells #[.int .i64 qv.k, .int .i64 qv.n] 24)) wr.heap.size 24 #[.int .i64 qv.k, .int .i64 qv.n] := Blk.new b.size _ (by decide)
      have nv : ∀ k, v.ownBlock = some k → k ≠ wr.heap.size := fun k hk => by have := own_lt own k hk; omega
      go_upto_region 6 with (fail)
      generalize wr.alloc (.cells #[.int .i64 qv.k, .int .i64 qv.n] 24) = w3 at own3 C3 R3 b3 V3 ⊢
      generalize wr.heap.size = vb at V3 nv ⊢
      clear d0 d1 a3 own C R
      have x0 : w3.cell? ⟨vb, 0, none⟩ = some (.int .i64 qv.k) := V3.cell 0
      have x1 : w3.cell? ⟨vb, 1, none⟩ = some (.int .i64 qv.n) := V3.cell 1
      have xl := V3.lt
      by_cases h9 : valP qv = nine
      · have e9 : ∀ w, (binOp .eql 24 (.agg #[.int .i64 (valP qv).k, .int .i64 (valP qv).n]) (.agg #[.int .i64 0, .int .i64 9])).run Tryd.prog w = .ok (.bool true) w := fun w => by have := eqVal (valP qv) nine w; rw [decide_eq_true h9] at this; exact this
        have HZ : Hid (zcP zl j = ⟨0, 8⟩) := (by rw [HZ0.out, if_pos h9] : zcP zl j = ⟨0, 8⟩)
        clear h9 HZ0
        obtain ⟨pv, hpv⟩ : ∃ q, valP qv = q := ⟨_, rfl⟩
        rw [hpv] at e9
        go_upto_region 8 with (go_at_call 10; refine (cVal qv df _).mono ?_; rintro e w5 ⟨rfl, hb5⟩; rw [hpv]; have own5 := own_oth own3 (Oth.below (F := []) hb5) (by decide) (by simp); have C5 := C3.below hb5; have R5 := R3.below hb5; have b5 := b3.trans (hb5.mono b3.size); have V5 := V3.below hb5; have s0 : w5.cell? ⟨vb, 0, none⟩ = some (.int .i64 qv.k) := V5.cell 0; have s1 : w5.cell? ⟨vb, 1, none⟩ = some (.int .i64 qv.n) := V5.cell 1; have sf0 := V5.free 0; have sf1 := V5.free 1)
        have K8 : Kept [vb] w5 ((w5.setCell ⟨vb, 0, none⟩ (.int .i64 0)).setCell ⟨vb, 1, none⟩ (.int .i64 8)) := (Kept.setCell [vb] _ _ _ (by simp)).trans (Kept.setCell [vb] _ _ _ (by simp)) (fun _ h => .inl h)
        have own8 := own_oth own5 (Oth.kept K8) (by decide) (fun k hk => by simpa using nv k hk)
        have C8 := C5.oth (Oth.kept K8) (by simpa using C5.ne V5 (by decide))
        have R8 := R5.oth (Oth.kept K8) (by simpa using R5.ne V5 (by decide))
        have V8 : Blk w ((w5.setCell ⟨vb, 0, none⟩ (.int .i64 0)).setCell ⟨vb, 1, none⟩ (.int .i64 8)) vb 24 #[.int .i64 0, .int .i64 8] := (V5.set 0 _).set 1 _
        have b8 := b5.trans (K8.below (fun k hk => by simp at hk; subst hk; exact V5.old) b5.size)
        clear x0 x1 xl s0 s1 sf0 sf1 own3 C3 R3 b3 V3 own5 C5 R5 b5 V5 K8
        generalize (w5.setCell ⟨vb, 0, none⟩ (.int .i64 0)).setCell ⟨vb, 1, none⟩ (.int .i64 8) = w8 at own8 C8 R8 V8 b8 ⊢
        obtain ⟨u, hu⟩ : ∃ u : Vl, u = ⟨0, 8⟩ := ⟨_, rfl⟩
        have HZ : Hid (zcP zl j = u) := (by rw [HZ.out, hu] : zcP zl j = u)
        rw [show (0 : Int) = u.k by rw [hu], show (8 : Int) = u.n by rw [hu]] at V8
        clear hu
        have x0 : w8.cell? ⟨vb, 0, none⟩ = some (.int .i64 u.k) := V8.cell 0
        have x1 : w8.cell? ⟨vb, 1, none⟩ = some (.int .i64 u.n) := V8.cell 1
        have xl := V8.lt
        have y2 : w8.cell? ⟨bb, 2, none⟩ = some v := C8.cell 2
        have a9 : Below w8.heap.size w8 (w8.alloc (.cells #[.int .i64 u.k, .int .i64 u.n] 24)) := (Below.refl _ _).alloc (Nat.le_refl _) _
        have own9 := own_oth own8 (Oth.below (F := []) a9) (by decide) (by simp)
        have C9 := C8.below a9
        have R9 := R8.below a9
        have yl := C8.lt
        go_wp2_with (at_builtin; refine wpList_append_mine _ rfl _ _ 22 rfl 24 i0 _ 2 16 Tryd.underlying22 hi hz0 hz1 hz2 rfl (by decide) v _ _ rfl own9 ⟨w8.heap.size, 0, none⟩ 1 1 [.int .i64 u.k, .int .i64 u.n] rfl rfl ?c1 ?c2 ?c3 ?c4 (by decide) ?_)
        case c1 => exact new2 _ _ (by simp) _ _ _
        case c2 => intro q hq; simp at hq; rcases hq with rfl | rfl <;> rfl
        case c3 => unfold maxLen; omega
        case c4 => omega
        intro g cp wA ownA hgr hnew
        have KA : Kept v.ownBlock.toList (w8.alloc (.cells #[.int .i64 u.k, .int .i64 u.n] 24)) wA := Kept.grown _ hgr (fun k hk => by rw [hk]; simp)
        have nb : ∀ k ∈ v.ownBlock.toList, ∃ cs fz, (w8.alloc (.cells #[.int .i64 u.k, .int .i64 u.n] 24)).heap[k]? = some (.cells cs 24 fz) := fun k hk => own_blk own9 k (by simpa using hk)
        have CA := C9.oth (Oth.kept KA) (fun h => by obtain ⟨cs, fz, e⟩ := nb _ h; rw [C9.at_] at e; simp at e)
        have RA := R9.oth (Oth.kept KA) (fun h => by obtain ⟨cs, fz, e⟩ := nb _ h; rw [R9.at_] at e; simp at e)
        have bA : Below w.heap.size w wA := (b8.trans (a9.mono b8.size)).trans (KA.below (fun k hk => bo k (by simpa using hk)) (by have := b8.size; have := a9.size; omega))
        have z2 : wA.cell? ⟨bb, 2, none⟩ = some v := CA.cell 2
        have zf2 := CA.free 2
        go_wp2
        go_roundw
        case rel =>
          have K : Kept [bb] wA (wA.setCell ⟨bb, 2, none⟩ (.slice (some ⟨g, 0, none⟩) (j + 1) cp)) := Kept.setCell [bb] _ _ _ (by simp)
          have ng : g ≠ bb := fun e => by
            rcases ownA.2 with ⟨h, _⟩ | ⟨g', _, cur, h, _, hg, _⟩
            · cases h
            · cases h; rw [e, CA.at_] at hg; simp at hg
          refine ⟨j + 1, .slice (some ⟨g, 0, none⟩) (j + 1) cp, by omega, by omega, by go_num, ?_, ?_, CA.set 2 _, RA.oth (Oth.kept K) (by simpa using nrb.symm), bA.trans (K.below (fun k hk => by simp at hk; subst hk; exact CA.old) bA.size)⟩
          · have q := own_oth ownA (Oth.kept K) (by decide) (fun k hk => by cases hk; simpa using ng)
            rw [show rowV (zcP zl) j ++ [.int .i64 u.k, .int .i64 u.n] = rowV (zcP zl) (j + 1) by rw [rowV, HZ.out]] at q
            exact q
          · intro k hk
            cases hk
            rcases hnew with h | h
            · exact bo _ h
            · show w.heap.size ≤ g
              have := b8.size; have := a9.size; omega
        case measure => simp [intOf]; omega
      · have e9 : ∀ w, (binOp .eql 24 (.agg #[.int .i64 (valP qv).k, .int .i64 (valP qv).n]) (.agg #[.int .i64 0, .int .i64 9])).run Tryd.prog w = .ok (.bool false) w := fun w => by have := eqVal (valP qv) nine w; rw [decide_eq_false h9] at this; exact this
        have HZ : Hid (zcP zl j = qv) := (by rw [HZ0.out, if_neg h9] : zcP zl j = qv)
        clear h9 HZ0
        obtain ⟨pv, hpv⟩ : ∃ q, valP qv = q := ⟨_, rfl⟩
        rw [hpv] at e9
        go_upto_region 8 with (go_at_call 10; refine (cVal qv df _).mono ?_; rintro e w8 ⟨rfl, hb8⟩; rw [hpv]; have own8 := own_oth own3 (Oth.below (F := []) hb8) (by decide) (by simp); have C8 := C3.below hb8; have R8 := R3.below hb8; have b8 := b3.trans (hb8.mono b3.size); have V8 := V3.below hb8)
        clear x0 x1 xl own3 C3 R3 b3 V3 hb8
        have x0 : w8.cell? ⟨vb, 0, none⟩ = some (.int .i64 qv.k) := V8.cell 0
        have x1 : w8.cell? ⟨vb, 1, none⟩ = some (.int .i64 qv.n) := V8.cell 1
        have xl := V8.lt
        have y2 : w8.cell? ⟨bb, 2, none⟩ = some v := C8.cell 2
        have a9 : Below w8.heap.size w8 (w8.alloc (.cells #[.int .i64 qv.k, .int .i64 qv.n] 24)) := (Below.refl _ _).alloc (Nat.le_refl _) _
        have own9 := own_oth own8 (Oth.below (F := []) a9) (by decide) (by simp)
        have C9 := C8.below a9
        have R9 := R8.below a9
        have yl := C8.lt
        go_wp2_with (at_builtin; refine wpList_append_mine _ rfl _ _ 22 rfl 24 i0 _ 2 16 Tryd.underlying22 hi hz0 hz1 hz2 rfl (by decide) v _ _ rfl own9 ⟨w8.heap.size, 0, none⟩ 1 1 [.int .i64 qv.k, .int .i64 qv.n] rfl rfl ?c1 ?c2 ?c3 ?c4 (by decide) ?_)
        case c1 => exact new2 _ _ (by simp) _ _ _
        case c2 => intro q hq; simp at hq; rcases hq with rfl | rfl <;> rfl
        case c3 => unfold maxLen; omega
        case c4 => omega
        intro g cp wA ownA hgr hnew
        have KA : Kept v.ownBlock.toList (w8.alloc (.cells #[.int .i64 qv.k, .int .i64 qv.n] 24)) wA := Kept.grown _ hgr (fun k hk => by rw [hk]; simp)
        have nb : ∀ k ∈ v.ownBlock.toList, ∃ cs fz, (w8.alloc (.cells #[.int .i64 qv.k, .int .i64 qv.n] 24)).heap[k]? = some (.cells cs 24 fz) := fun k hk => own_blk own9 k (by simpa using hk)
        have CA := C9.oth (Oth.kept KA) (fun h => by obtain ⟨cs, fz, e⟩ := nb _ h; rw [C9.at_] at e; simp at e)
        have RA := R9.oth (Oth.kept KA) (fun h => by obtain ⟨cs, fz, e⟩ := nb _ h; rw [R9.at_] at e; simp at e)
        have bA : Below w.heap.size w wA := (b8.trans (a9.mono b8.size)).trans (KA.below (fun k hk => bo k (by simpa using hk)) (by have := b8.size; have := a9.size; omega))
        have z2 : wA.cell? ⟨bb, 2, none⟩ = some v := CA.cell 2
        have zf2 := CA.free 2
        go_wp2
        go_roundw
        case rel =>
          have K : Kept [bb] wA (wA.setCell ⟨bb, 2, none⟩ (.slice (some ⟨g, 0, none⟩) (j + 1) cp)) := Kept.setCell [bb] _ _ _ (by simp)
          have ng : g ≠ bb := fun e => by
            rcases ownA.2 with ⟨h, _⟩ | ⟨g', _, cur, h, _, hg, _⟩
            · cases h
            · cases h; rw [e, CA.at_] at hg; simp at hg
          refine ⟨j + 1, .slice (some ⟨g, 0, none⟩) (j + 1) cp, by omega, by omega, by go_num, ?_, ?_, CA.set 2 _, RA.oth (Oth.kept K) (by simpa using nrb.symm), bA.trans (K.below (fun k hk => by simp at hk; subst hk; exact CA.old) bA.size)⟩
          · have q := own_oth ownA (Oth.kept K) (by decide) (fun k hk => by cases hk; simpa using ng)
            rw [show rowV (zcP zl) j ++ [.int .i64 qv.k, .int .i64 qv.n] = rowV (zcP zl) (j + 1) by rw [rowV, HZ.out]] at q
            exact q
          · intro k hk
            cases hk
            rcases hnew with h | h
            · exact bo _ h
            · show w.heap.size ≤ g
              have := b8.size; have := a9.size; omega
        case measure => simp [intOf]; omega
    case neg =>
      have hn : Hid (min ll 3 = j) := (by omega : min ll 3 = j)
      obtain ⟨ao, cap, rfl, cvr⟩ := own_came own (fun k hk => by
        rcases cv with h | ⟨lb, off, _, _, hz⟩
        · omega
        · exact fit_zc (hz k (by omega)).2.2)
      have y0 : wr.cell? ⟨bb, 0, none⟩ = some (.int .i64 4) := C.cell 0
      have y1 : wr.cell? ⟨bb, 1, none⟩ = some (.int .i64 2) := C.cell 1
      have y2 : wr.cell? ⟨bb, 2, none⟩ = some (.slice ao j cap) := C.cell 2
      have yl := C.lt
      have z0 : wr.cell? ⟨rb, 0, none⟩ = some (.int .i64 0) := R.cell 0
      have z1 : wr.cell? ⟨rb, 1, none⟩ = some (.int .i64 0) := R.cell 1
      have z2 : wr.cell? ⟨rb, 2, none⟩ = some (.slice none 0 0) := R.cell 2
      have zf0 := R.free 0
      have zf1 := R.free 1
      have zf2 := R.free 2
      have K : Kept [rb] wr (((wr.setCell ⟨rb, 0, none⟩ (.int .i64 4)).setCell ⟨rb, 1, none⟩ (.int .i64 2)).setCell ⟨rb, 2, none⟩ (.slice ao j cap)) := ((Kept.setCell [rb] _ _ _ (by simp)).trans (Kept.setCell [rb] _ _ _ (by simp)) fun _ h => .inl h).trans (Kept.setCell [rb] _ _ _ (by simp)) fun _ h => .inl h
      have R9 := ((R.set 0 (.int .i64 4)).set 1 (.int .i64 2)).set 2 (.slice ao j cap)
      have u0 := R9.cell 0
      have u1 := R9.cell 1
      have u2 := R9.cell 2
      simp at u0 u1 u2
      have nr : ∀ k, (Value.slice ao j cap).ownBlock = some k → k ≠ rb := fun k hk e => by obtain ⟨cs, fz, h⟩ := own_blk own k hk; rw [e, R.at_] at h; simp at h
      have ownR := own_oth own (Oth.kept K) (by decide) (fun k hk => by simpa using nr k hk)
      obtain ⟨ao', cap', e', cvr'⟩ := own_came ownR (fun k hk => by
        rcases cv with h | ⟨lb, off, _, _, hz⟩
        · omega
        · exact fit_zc (hz k (by omega)).2.2)
      cases e'
      have bR := b.trans (K.below (fun k hk => by simp at hk; subst hk; exact R.old) b.size)
      by_cases hA : j < ll
      · have hAi : decide ((j : Int) < (ll : Int)) = true := by simp; omega
        have hBi : decide ((j : Int) < 3) = false := by simp; omega
        go_wp2
        exact bodyPost_ret (v := .agg #[.int .i64 4, .int .i64 2, .slice ao j cap]) (by simp [results, Tryd.results6, go_sem, u0, u1, u2]) rfl ⟨ao, cap, by rw [hn.out], by rw [hn.out]; exact cvr', bR⟩
      · have hAi : decide ((j : Int) < (ll : Int)) = false := by simp; omega
        go_wp2
        exact bodyPost_ret (v := .agg #[.int .i64 4, .int .i64 2, .slice ao j cap]) (by simp [results, Tryd.results6, go_sem, u0, u1, u2]) rfl ⟨ao, cap, by rw [hn.out], by rw [hn.out]; exact cvr', bR⟩
end Go.Proofs.YtmlgohknbjfciaaDoor
