/-
  The document's examples.
-/
import Derived.Test.YtahafmglidlcnaaGreatDoorCu
import Derived.Test.YtahafmglidlcnaaGreatDoorCa
namespace Go.Proofs.YtahafmglidlcnaaGreatDoor
set_option linter.unusedVariables false
set_option linter.unusedSimpArgs false
set_option maxRecDepth 100000
open Go.ChangeShapes Go.WideShapes Go.RowKit
open H.Plain (hw pS pC pN pM pG pT pL mv)

def shL : Nat → Vl := fldP 1 fun _ => ⟨0, 5⟩
def shX : Cw := .hd ⟨2, 96, 0, ⟨0, 0⟩, ⟨0, 7⟩⟩ false
def shY : Cw := .hd ⟨1, 96, 0, ⟨0, 0⟩, ⟨0, 0⟩⟩ false
theorem shown_x : (runC shX (laidS 1 shL) 3).1.done = true ∧ (runC shX (laidS 1 shL) 3).2.got 96 = H0 ∧ ((runC shX (laidS 1 shL) 3).2.load 96).got 97 = 56 := ⟨by kernel_rfl, by kernel_rfl, by kernel_rfl⟩
theorem shown_y : (runC shY (laidS 1 shL) 3).1.done = true ∧ (runC shY (laidS 1 shL) 3).1.o = ⟨0, ⟨0, 5⟩, false⟩ := ⟨by kernel_rfl, by kernel_rfl⟩
set_option maxHeartbeats 2000000 in
theorem cShown (w : World) (W : H.Wid w) :
    Calls Tryz.prog 4 #[] w fun e w' => e = .returned (.bool true) ∧ Below w.heap.size w w' := by
  obtain ⟨S, hS⟩ : ∃ S, laidS 1 shL = S := ⟨_, rfl⟩
  have hx := shown_x
  have hy := shown_y
  rw [hS] at hx hy
  obtain ⟨x1, x2, x3⟩ := hx
  obtain ⟨y1, y2⟩ := hy
  have okx : shX.Ok := ⟨.inr (.inl rfl), by decide, by decide, by decide, by decide⟩
  have oky : shY.Ok := ⟨.inl rfl, by decide, by decide, by decide, by decide⟩
  go_enter Tryz.func4, Tryz.ntmps4
  go_upto_region 2 with (fail)
  have cv0 : CameV (w.alloc (.cells #[.int .i64 0, .int .i64 5] 38)) (some ⟨w.heap.size, 0, none⟩) 1 (fun _ => ⟨0, 5⟩) := .inr ⟨w.heap.size, 0, rfl, by simp, fun j hj => by obtain rfl : j = 0 := (by omega); exact ⟨by go_cell, by go_cell, ⟨by decide, by decide, by decide, by decide⟩⟩⟩
  have bel0 : Below w.heap.size w (w.alloc (.cells #[.int .i64 0, .int .i64 5] 38)) := by go_grown
  obtain ⟨l0, hl0⟩ : ∃ l0, w.heap.size = l0 := ⟨_, rfl⟩
  rw [hl0] at cv0
  generalize w.alloc (.cells #[.int .i64 0, .int .i64 5] 38) = w1 at cv0 bel0 ⊢
  rw [hl0]
  go_upto_region 3 with (go_at_call 5; refine (cLaid (cv' := 1) w1 (W.on bel0) cv0).mono ?_; rintro e w2 ⟨b1, z1, rfl, h2⟩; have cv2 := cv0.on h2.bel; have h2' : Hand w w2 b1 S 18 := (by rw [← hS]; exact h2.one.lift bel0 W); clear h2)
  go_upto_region 4 with (go_at_call 5; refine (cLaid (cv' := 1) w2 h2'.widw cv2).mono ?_; rintro e w3 ⟨b2, z2, rfl, h3⟩; have h3' : Hand w2 w3 b2 S 18 := (by rw [← hS]; exact h3.one); have d3 := h2'.duo h3' (Nat.le_refl _); clear h3 h3' h2' cv2 cv0)
  go_upto_region 5 with (go_at_call 10; refine (cNewC ⟨2, 96, 0, ⟨0, 0⟩, ⟨0, 7⟩⟩ ⟨6, 0, 0⟩ _ okx).mono ?_; rintro e w4 ⟨px, rfl, Mx⟩; have d4 := d3.below Mx.bel; have mx : Cm w w4 px shX := Mx.cm d3.bel.size okx; clear Mx)
  go_upto_region 6 with (go_at_call 10; refine (cNewC ⟨1, 96, 0, ⟨0, 0⟩, ⟨0, 0⟩⟩ ⟨6, 0, 0⟩ _ oky).mono ?_; rintro e w5 ⟨py, rfl, My⟩; have d5 := d4.below My.bel; have my : Cm w w5 py shY := My.cm d4.bel.size oky; have mx5 := mx.below My.bel; have npq : px ≠ py := (by have := mx.lt; have := My.new; omega); clear My mx)
  go_wp2_with (fail)
  go_loopw [8, 9, 10] (fun a b i wr => ∃ j : Nat, j ≤ 3 ∧ i = .int .i64 j ∧ a = .bool (runC shX S j).1.done ∧ b = .bool (runC shY S j).1.done ∧ TwoT true w wr b1 b2 (runC shX S j).2 (runC shY S j).2 (18 + 2 * j) ∧ Cm w wr px (runC shX S j).1 ∧ Cm w wr py (runC shY S j).1) (fun _ _ i _ => 3 - (intOf i).toNat)
  case atStart => exact ⟨0, Nat.zero_le _, rfl, rfl, rfl, d5, mx5, my⟩
  case round =>
    obtain ⟨j, hj, rfl, rfl, rfl, k1, k2, k3⟩ := hrel
    obtain ⟨X, hX⟩ : ∃ X, (runC shX S j).1 = X := ⟨_, rfl⟩
    obtain ⟨Y, hY⟩ : ∃ Y, (runC shY S j).1 = Y := ⟨_, rfl⟩
    obtain ⟨SX, hSX⟩ : ∃ X, (runC shX S j).2 = X := ⟨_, rfl⟩
    obtain ⟨SY, hSY⟩ : ∃ Y, (runC shY S j).2 = Y := ⟨_, rfl⟩
    by_cases hj3 : j < 3
    case pos =>
      rw [hX] at k2
      rw [hY] at k3
      rw [hSX, hSY] at k1
      have hji : (j : Int) < 3 := by omega
      obtain ⟨cx, Bx'⟩ := k2.blk
      go_wp2_with (first
        | (go_at_call_of 14 (pt px); refine (tC k1 k2 (by omega)).mono ?_; rintro e w6 ⟨rfl, k4, k5, o6⟩; have k6 := k3.oth1 o6 Bx' (by decide) (Ne.symm npq); obtain ⟨cy, By⟩ := k6.blk)
        | (go_at_call_of 14 (pt py); refine (tC k4.flip k6 (by omega)).mono ?_; rintro e w7 ⟨rfl, k7, k8, o7⟩; have k9 := k5.oth1 o7 By (by decide) npq))
      go_roundw
      case rel => exact ⟨j + 1, by omega, by go_num, by simp only [runC, hX, hSX], by simp only [runC, hY, hSY], by simp only [runC, hX, hY, hSX, hSY]; exact k7.flip, by simp only [runC, hX, hSX]; exact k9, by simp only [runC, hY, hSY]; exact k8⟩
      case measure => simp [intOf]; omega
    case neg =>
      obtain rfl : j = 3 := by omega
      rw [x1, y1]
      clear hX hY hSX hSY X Y SX SY
      obtain ⟨SX, hSX⟩ : ∃ X, (runC shX S 3).2 = X := ⟨_, rfl⟩
      rw [hSX] at k1 x2 x3
      obtain ⟨h0, hh0⟩ : ∃ h0, H0 = h0 := ⟨_, rfl⟩
      have q0 : pS h0 = 1 ∧ pC h0 = 0 ∧ pN h0 = 3 ∧ pM h0 = 0 ∧ pG h0 = 0 ∧ pT h0 = 0 ∧ pL h0 = 0 := by rw [← hh0]; decide
      obtain ⟨q0, q1, q2, q3, q4, q5, q6⟩ := q0
      have hU : U64 h0 := hh0 ▸ u64_hw _ _ _ _ _ _ _
      rw [hh0] at x2
      have f1 := fOut1
      have f2 := fVal1
      have hv : (runC shY S 3).1.o.val = .agg #[.int .i64 0, .int .i64 0, .int .i64 5, .bool false] := by rw [y2]; rfl
      go_wp2_with (first
        | (go_at_call_of 21 (Value.int .i64 96); refine (tLoad k1 (by omega) 96).mono ?_; rintro e w8 ⟨rfl, k4, o8⟩; rw [x2]; have m8 := k3.oth0 o8; clear o8)
        | (go_at_call 20; refine (H.rOf h0 hU.1 hU.2 _).mono ?_; rintro e w9 ⟨rfl, hw9⟩; rw [q0, q1, q2, q3, q4, q5, q6] at hw9 ⊢; have hb9 : Below w8.heap.size w8 w9 := (by rw [hw9]; go_grown); have k5 := k4.below hb9; have m9 := m8.below hb9; have bt := k5.bel.size; clear hw9)
        | (go_at_call_of 21 (Value.int .i64 97); refine (tLoad (k5.alloc _) (by omega) 97).mono ?_; rintro e w10 ⟨rfl, k6, o10⟩; rw [x3]; have m10 := (m9.below ((Below.refl _ w9).alloc (Nat.le_refl _) _)).oth0 o10)
        | (go_at_call 17; refine (cCResult m10).mono ?_; rintro e w11 ⟨rfl, hb11⟩; rw [hv]; have k7 := k6.below hb11))
      go_ret
      exact ⟨rfl, k7.bel⟩
end Go.Proofs.YtahafmglidlcnaaGreatDoor
