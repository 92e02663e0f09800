/-
  The document's examples.
-/
import Derived.Test.YtmlgohknbjfciaaGreatDoorCu
import Derived.Test.YtmlgohknbjfciaaGreatDoorCa
namespace Go.Proofs.YtmlgohknbjfciaaGreatDoor
set_option linter.unusedVariables false
set_option linter.unusedSimpArgs false
set_option maxRecDepth 100000
open Go.ChangeShapes Go.WideShapes Go.RowKit
open H.Plain (hw pS pC pN pM pG pT pL mv)

def sh5 : St := laidS 4 2 (fldP 1 fun _ => ⟨0, 5⟩)
def sh9 : St := laidS 4 2 (fldP 1 fun _ => ⟨0, 9⟩)
def shX : Cw := .hd ⟨1, 96, 0, ⟨0, 0⟩, ⟨0, 0⟩⟩ false false
def shY : Cw := .hd ⟨2, 96, 0, ⟨0, 0⟩, ⟨0, 7⟩⟩ false false
def shZ : Cw := .hd ⟨2, 96, 0, ⟨0, 0⟩, ⟨0, 9⟩⟩ false false
theorem shown_x : (runC shX sh5 2).1.done = true ∧ (runC shX sh5 2).1.o = ⟨0, ⟨0, 5⟩, false⟩ := ⟨by kernel_rfl, by kernel_rfl⟩
theorem shown_y : (runC shY sh9 3).1.done = true ∧ (runC shY sh9 3).2.got 113 = 56 := ⟨by kernel_rfl, by kernel_rfl⟩
theorem shown_z : (runC shZ (runC shX sh5 2).2 2).1.done = true ∧ (runC shZ (runC shX sh5 2).2 2).1.o = ⟨3, ⟨0, 0⟩, false⟩ := ⟨by kernel_rfl, by kernel_rfl⟩
set_option maxHeartbeats 4000000 in
theorem cShown (w : World) (W : H.Wid w) :
    Calls Tryz.prog 7 #[] w fun e w' => e = .returned (.bool true) ∧ Below w.heap.size w w' := by
  obtain ⟨S5, hS5⟩ : ∃ S, sh5 = S := ⟨_, rfl⟩
  obtain ⟨S9, hS9⟩ : ∃ S, sh9 = S := ⟨_, rfl⟩
  have hx := shown_x
  have hy := shown_y
  have hz := shown_z
  rw [hS5] at hx hz
  rw [hS9] at hy
  simp only [runC] at hx hy hz
  obtain ⟨X1, hX1⟩ : ∃ q, shX.next S5 = q := ⟨_, rfl⟩
  obtain ⟨A1, hA1⟩ : ∃ q, shX.mem S5 = q := ⟨_, rfl⟩
  rw [hX1, hA1] at hx hz
  obtain ⟨X2, hX2⟩ : ∃ q, X1.next A1 = q := ⟨_, rfl⟩
  obtain ⟨A2, hA2⟩ : ∃ q, X1.mem A1 = q := ⟨_, rfl⟩
  rw [hX2] at hx
  rw [hA2] at hz
  obtain ⟨Z1, hZ1⟩ : ∃ q, shZ.next A2 = q := ⟨_, rfl⟩
  obtain ⟨A3, hA3⟩ : ∃ q, shZ.mem A2 = q := ⟨_, rfl⟩
  rw [hZ1, hA3] at hz
  obtain ⟨Z2, hZ2⟩ : ∃ q, Z1.next A3 = q := ⟨_, rfl⟩
  obtain ⟨A4, hA4⟩ : ∃ q, Z1.mem A3 = q := ⟨_, rfl⟩
  rw [hZ2] at hz
  obtain ⟨Y1, hY1⟩ : ∃ q, shY.next S9 = q := ⟨_, rfl⟩
  obtain ⟨B1, hB1⟩ : ∃ q, shY.mem S9 = q := ⟨_, rfl⟩
  rw [hY1, hB1] at hy
  obtain ⟨Y2, hY2⟩ : ∃ q, Y1.next B1 = q := ⟨_, rfl⟩
  obtain ⟨B2, hB2⟩ : ∃ q, Y1.mem B1 = q := ⟨_, rfl⟩
  rw [hY2, hB2] at hy
  obtain ⟨Y3, hY3⟩ : ∃ q, Y2.next B2 = q := ⟨_, rfl⟩
  obtain ⟨B3, hB3⟩ : ∃ q, Y2.mem B2 = q := ⟨_, rfl⟩
  rw [hY3, hB3] at hy
  obtain ⟨x1, x2⟩ := hx
  obtain ⟨y1, y2⟩ := hy
  obtain ⟨z1, z2⟩ := hz
  have okx : (Rq.mk 1 96 0 ⟨0, 0⟩ ⟨0, 0⟩).Ok := ⟨.inl rfl, by decide, by decide, by decide, by decide, .inr (by decide)⟩
  have oky : (Rq.mk 2 96 0 ⟨0, 0⟩ ⟨0, 7⟩).Ok := ⟨.inr (.inl rfl), by decide, by decide, by decide, by decide, .inr (by decide)⟩
  have okz : (Rq.mk 2 96 0 ⟨0, 0⟩ ⟨0, 9⟩).Ok := ⟨.inr (.inl rfl), by decide, by decide, by decide, by decide, .inr (by decide)⟩
  have okX : shX.Ok := ⟨.inl rfl, by decide, by decide, by decide, by decide⟩
  have okY : shY.Ok := ⟨.inr (.inl rfl), by decide, by decide, by decide, by decide⟩
  have okZ : shZ.Ok := ⟨.inr (.inl rfl), by decide, by decide, by decide, by decide⟩
  go_enter Tryz.func7, Tryz.ntmps7
  go_upto_region 2 with (go_at_call 14; refine (cAt _).mono ?_; rintro e wa ⟨rfl, hba⟩)
  have a1 : Below wa.heap.size wa (wa.alloc (.cells #[.int .i64 4, .int .i64 4, .int .i64 14, .int .i64 32, .int .i64 160] 48)) := (Below.refl _ _).alloc (Nat.le_refl _) _
  have P1 : Blk wa (wa.alloc (.cells #[.int .i64 4, .int .i64 4, .int .i64 14, .int .i64 32, .int .i64 160] 48)) wa.heap.size 48 #[.int .i64 4, .int .i64 4, .int .i64 14, .int .i64 32, .int .i64 160] := Blk.new (Nat.le_refl _) _ (by decide)
  have bel1 := bel_trans hba a1
  generalize wa.alloc (.cells #[.int .i64 4, .int .i64 4, .int .i64 14, .int .i64 32, .int .i64 160] 48) = wb at a1 P1 bel1 ⊢
  generalize wa.heap.size = pb at P1 ⊢
  have lpb1 := P1.lt
  go_upto_region 3 with (fail)
  have a2 : Below wb.heap.size wb (wb.alloc (.cells #[.int .i64 6, .int .i64 0, .int .i64 9] 54)) := (Below.refl _ _).alloc (Nat.le_refl _) _
  have P2 := P1.below a2
  have E2 : Blk wb (wb.alloc (.cells #[.int .i64 6, .int .i64 0, .int .i64 9] 54)) wb.heap.size 54 #[.int .i64 6, .int .i64 0, .int .i64 9] := Blk.new (Nat.le_refl _) _ (by decide)
  have bel2 := bel_trans bel1 a2
  generalize wb.alloc (.cells #[.int .i64 6, .int .i64 0, .int .i64 9] 54) = wB at a2 P2 E2 bel2 ⊢
  generalize wb.heap.size = eb at E2 ⊢
  have lpb := P2.lt
  have leb := E2.lt
  have p0 : wB.cell? ⟨pb, 0, none⟩ = some (.int .i64 4) := P2.cell 0
  have p1 : wB.cell? ⟨pb, 1, none⟩ = some (.int .i64 4) := P2.cell 1
  have p2 : wB.cell? ⟨pb, 2, none⟩ = some (.int .i64 14) := P2.cell 2
  have p3 : wB.cell? ⟨pb, 3, none⟩ = some (.int .i64 32) := P2.cell 3
  have p4 : wB.cell? ⟨pb, 4, none⟩ = some (.int .i64 160) := P2.cell 4
  have e0 : wB.cell? ⟨eb, 0, none⟩ = some (.int .i64 6) := E2.cell 0
  have e1 : wB.cell? ⟨eb, 1, none⟩ = some (.int .i64 0) := E2.cell 1
  have e2 : wB.cell? ⟨eb, 2, none⟩ = some (.int .i64 9) := E2.cell 2
  have WB := W.on bel2
  clear hba a1 P1 bel1 lpb1 a2 P2 E2
  have cvA : CameV (wB.alloc (.cells #[.int .i64 0, .int .i64 5] 38)) (some ⟨wB.heap.size, 0, none⟩) 1 (fun _ => ⟨0, 5⟩) := .inr ⟨wB.heap.size, 0, rfl, by simp, fun j hj => by obtain rfl : j = 0 := (by omega); exact ⟨by go_cell, by go_cell, ⟨by decide, by decide, by decide, by decide⟩⟩⟩
  have belA : Below wB.heap.size wB (wB.alloc (.cells #[.int .i64 0, .int .i64 5] 38)) := by go_grown
  go_upto_region 4 with (go_at_call 8; refine (cLaid (cv' := 1) _ (WB.on belA) cvA (by decide) (by decide) (by decide) (by decide)).mono ?_; rintro e w2 ⟨b1, z1', rfl, h2⟩; have h2' : Hand wB w2 b1 S5 20 := (by rw [← hS5]; exact h2.one.lift belA WB); clear h2)
  have cvC : CameV (w2.alloc (.cells #[.int .i64 0, .int .i64 9] 38)) (some ⟨w2.heap.size, 0, none⟩) 1 (fun _ => ⟨0, 9⟩) := .inr ⟨w2.heap.size, 0, rfl, by simp, fun j hj => by obtain rfl : j = 0 := (by omega); exact ⟨by go_cell, by go_cell, ⟨by decide, by decide, by decide, by decide⟩⟩⟩
  have belC : Below w2.heap.size w2 (w2.alloc (.cells #[.int .i64 0, .int .i64 9] 38)) := by go_grown
  go_upto_region 5 with (go_at_call 8; refine (cLaid (cv' := 1) _ (h2'.widw.on belC) cvC (by decide) (by decide) (by decide) (by decide)).mono ?_; rintro e w3 ⟨b2, z2', rfl, h3⟩; have h3' : Hand w2 w3 b2 S9 20 := (by rw [← hS9]; exact h3.one.lift belC h2'.widw); have d3 := h2'.duo h3' (Nat.le_refl _); clear h3 h3' h2'; have qp0 : w3.cell? ⟨pb, 0, none⟩ = some (.int .i64 4) := (d3.bel.cell lpb).trans p0; have qp1 : w3.cell? ⟨pb, 1, none⟩ = some (.int .i64 4) := (d3.bel.cell lpb).trans p1; have qp2 : w3.cell? ⟨pb, 2, none⟩ = some (.int .i64 14) := (d3.bel.cell lpb).trans p2; have qp3 : w3.cell? ⟨pb, 3, none⟩ = some (.int .i64 32) := (d3.bel.cell lpb).trans p3; have qp4 : w3.cell? ⟨pb, 4, none⟩ = some (.int .i64 160) := (d3.bel.cell lpb).trans p4; have qe0 : w3.cell? ⟨eb, 0, none⟩ = some (.int .i64 6) := (d3.bel.cell leb).trans e0; have qe1 : w3.cell? ⟨eb, 1, none⟩ = some (.int .i64 0) := (d3.bel.cell leb).trans e1; have qe2 : w3.cell? ⟨eb, 2, none⟩ = some (.int .i64 9) := (d3.bel.cell leb).trans e2; have qpl : pb < w3.heap.size := Nat.lt_of_lt_of_le lpb d3.bel.size; have qel : eb < w3.heap.size := Nat.lt_of_lt_of_le leb d3.bel.size)
  go_upto_region 6 with (go_at_call 13; refine (cNewC ⟨1, 96, 0, ⟨0, 0⟩, ⟨0, 0⟩⟩ ⟨6, 0, 9⟩ _ okx rfl).mono ?_; rintro e w4 ⟨px, rfl, Mx⟩; have d4 := d3.below Mx.bel; have mx : Cm wB w4 px shX := Mx.cm d3.bel.size okX; clear Mx; have rp0 : w4.cell? ⟨pb, 0, none⟩ = some (.int .i64 4) := (d4.bel.cell lpb).trans p0; have rp1 : w4.cell? ⟨pb, 1, none⟩ = some (.int .i64 4) := (d4.bel.cell lpb).trans p1; have rp2 : w4.cell? ⟨pb, 2, none⟩ = some (.int .i64 14) := (d4.bel.cell lpb).trans p2; have rp3 : w4.cell? ⟨pb, 3, none⟩ = some (.int .i64 32) := (d4.bel.cell lpb).trans p3; have rp4 : w4.cell? ⟨pb, 4, none⟩ = some (.int .i64 160) := (d4.bel.cell lpb).trans p4; have re0 : w4.cell? ⟨eb, 0, none⟩ = some (.int .i64 6) := (d4.bel.cell leb).trans e0; have re1 : w4.cell? ⟨eb, 1, none⟩ = some (.int .i64 0) := (d4.bel.cell leb).trans e1; have re2 : w4.cell? ⟨eb, 2, none⟩ = some (.int .i64 9) := (d4.bel.cell leb).trans e2; have rpl : pb < w4.heap.size := Nat.lt_of_lt_of_le lpb d4.bel.size; have rel : eb < w4.heap.size := Nat.lt_of_lt_of_le leb d4.bel.size)
  go_upto_region 7 with (go_at_call 13; refine (cNewC ⟨2, 96, 0, ⟨0, 0⟩, ⟨0, 7⟩⟩ ⟨6, 0, 9⟩ _ oky rfl).mono ?_; rintro e w5 ⟨py, rfl, My⟩; have d5 := d4.below My.bel; have my : Cm wB w5 py shY := My.cm d4.bel.size okY; have mx5 := mx.below My.bel; have nxy : px ≠ py := (by have := mx.lt; have := My.new; omega); clear My mx; have sp0 : w5.cell? ⟨pb, 0, none⟩ = some (.int .i64 4) := (d5.bel.cell lpb).trans p0; have sp1 : w5.cell? ⟨pb, 1, none⟩ = some (.int .i64 4) := (d5.bel.cell lpb).trans p1; have sp2 : w5.cell? ⟨pb, 2, none⟩ = some (.int .i64 14) := (d5.bel.cell lpb).trans p2; have sp3 : w5.cell? ⟨pb, 3, none⟩ = some (.int .i64 32) := (d5.bel.cell lpb).trans p3; have sp4 : w5.cell? ⟨pb, 4, none⟩ = some (.int .i64 160) := (d5.bel.cell lpb).trans p4; have se0 : w5.cell? ⟨eb, 0, none⟩ = some (.int .i64 6) := (d5.bel.cell leb).trans e0; have se1 : w5.cell? ⟨eb, 1, none⟩ = some (.int .i64 0) := (d5.bel.cell leb).trans e1; have se2 : w5.cell? ⟨eb, 2, none⟩ = some (.int .i64 9) := (d5.bel.cell leb).trans e2; have spl : pb < w5.heap.size := Nat.lt_of_lt_of_le lpb d5.bel.size; have sel : eb < w5.heap.size := Nat.lt_of_lt_of_le leb d5.bel.size)
  go_upto_region 8 with (go_at_call 13; refine (cNewC ⟨2, 96, 0, ⟨0, 0⟩, ⟨0, 9⟩⟩ ⟨6, 0, 9⟩ _ okz rfl).mono ?_; rintro e w6 ⟨pz, rfl, Mz⟩; have d6 := d5.below Mz.bel; have mz : Cm wB w6 pz shZ := Mz.cm d5.bel.size okZ; have mx6 := mx5.below Mz.bel; have my6 := my.below Mz.bel; have nxz : px ≠ pz := (by have := mx5.lt; have := Mz.new; omega); have nyz : py ≠ pz := (by have := my.lt; have := Mz.new; omega); clear Mz mx5 my)
  go_upto_region 10 with (fail)
  go_upto_region 11 with (go_at_call 18; refine (tC d6 mx6 (by omega)).mono ?_; rintro e v0 ⟨rfl, ev00, mxv0, ov0⟩; rw [hA1] at ev00; rw [hX1] at mxv0 ⊢; have ev0 := ev00; clear ev00; obtain ⟨cv0, Bv0⟩ := mx6.blk; have myv0 := my6.oth1 ov0 Bv0 (by decide) nxy.symm; have mzv0 := mz.oth1 ov0 Bv0 (by decide) nxz.symm; clear Bv0)
  go_upto_region 12 with (go_at_call 18; refine (tC ev0 mxv0 (by omega)).mono ?_; rintro e v1 ⟨rfl, ev10, mxv1, ov1⟩; rw [hA2] at ev10; rw [hX2] at mxv1 ⊢; rw [x1]; have ev1 := ev10; clear ev10; obtain ⟨cv1, Bv1⟩ := mxv0.blk; have myv1 := myv0.oth1 ov1 Bv1 (by decide) nxy.symm; have mzv1 := mzv0.oth1 ov1 Bv1 (by decide) nxz.symm; clear Bv1)
  go_upto_region 13 with (go_at_call 18; refine (tC ev1.flip myv1 (by omega)).mono ?_; rintro e v2 ⟨rfl, ev20, myv2, ov2⟩; rw [hB1] at ev20; rw [hY1] at myv2 ⊢; have ev2 := ev20.flip; clear ev20; obtain ⟨cv2, Bv2⟩ := myv1.blk; have mxv2 := mxv1.oth1 ov2 Bv2 (by decide) nxy; have mzv2 := mzv1.oth1 ov2 Bv2 (by decide) nyz.symm; clear Bv2)
  go_upto_region 14 with (go_at_call 18; refine (tC ev2.flip myv2 (by omega)).mono ?_; rintro e v3 ⟨rfl, ev30, myv3, ov3⟩; rw [hB2] at ev30; rw [hY2] at myv3 ⊢; have ev3 := ev30.flip; clear ev30; obtain ⟨cv3, Bv3⟩ := myv2.blk; have mxv3 := mxv2.oth1 ov3 Bv3 (by decide) nxy; have mzv3 := mzv2.oth1 ov3 Bv3 (by decide) nyz.symm; clear Bv3)
  go_upto_region 15 with (go_at_call 18; refine (tC ev3.flip myv3 (by omega)).mono ?_; rintro e v4 ⟨rfl, ev40, myv4, ov4⟩; rw [hB3] at ev40; rw [hY3] at myv4 ⊢; rw [y1]; have ev4 := ev40.flip; clear ev40; obtain ⟨cv4, Bv4⟩ := myv3.blk; have mxv4 := mxv3.oth1 ov4 Bv4 (by decide) nxy; have mzv4 := mzv3.oth1 ov4 Bv4 (by decide) nyz.symm; clear Bv4)
  go_upto_region 16 with (go_at_call 18; refine (tC ev4 mzv4 (by omega)).mono ?_; rintro e v5 ⟨rfl, ev50, mzv5, ov5⟩; rw [hA3] at ev50; rw [hZ1] at mzv5 ⊢; have ev5 := ev50; clear ev50; obtain ⟨cv5, Bv5⟩ := mzv4.blk; have mxv5 := mxv4.oth1 ov5 Bv5 (by decide) nxz; have myv5 := myv4.oth1 ov5 Bv5 (by decide) nyz; clear Bv5)
  go_upto_region 17 with (go_at_call 18; refine (tC ev5 mzv5 (by omega)).mono ?_; rintro e v6 ⟨rfl, ev60, mzv6, ov6⟩; rw [hA4] at ev60; rw [hZ2] at mzv6 ⊢; rw [z1]; have ev6 := ev60; clear ev60; obtain ⟨cv6, Bv6⟩ := mzv5.blk; have mxv6 := mxv5.oth1 ov6 Bv6 (by decide) nxz; have myv6 := myv5.oth1 ov6 Bv6 (by decide) nyz; clear Bv6)
  have f0 := fOut0
  have f1 := fOut1
  have f2 := fVal1
  have hvz : Z2.o.val = .agg #[.int .i64 3, .int .i64 0, .int .i64 0, .bool false] := by rw [z2]; rfl
  have hvx : X2.o.val = .agg #[.int .i64 0, .int .i64 0, .int .i64 5, .bool false] := by rw [x2]; rfl
  go_wp2_with (first
    | (go_at_call_of 21 (pt pz); refine (cCResult mzv6).mono ?_; rintro e u1 ⟨rfl, hbu1⟩; rw [hvz]; have g1 := ev6.below hbu1; have mxu := mxv6.below hbu1)
    | (go_at_call_of 21 (pt px); refine (cCResult mxu).mono ?_; rintro e u2 ⟨rfl, hbu2⟩; rw [hvx]; have g2 := g1.below hbu2)
    | (go_at_call 31; refine (tLoad g2.flip (by omega) 113).mono ?_; rintro e u3 ⟨rfl, g3, ou3⟩; rw [y2]))
  go_ret
  exact ⟨rfl, bel_trans bel2 g3.bel⟩
end Go.Proofs.YtmlgohknbjfciaaGreatDoor
