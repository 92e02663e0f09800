/-
  The reference's memory is seen while the program's is read; an access that is done.
-/
import Derived.Test.YtahafmglidlcnaaDoorCu
import Derived.Test.YtahafmglidlcnaaDoorCa
import Derived.Test.YtahafmglidlcnaaDoorCg
namespace Go.Proofs.YtahafmglidlcnaaDoor
set_option linter.unusedVariables false
set_option linter.unusedSimpArgs false
set_option maxRecDepth 100000
open Go.ChangeShapes Go.WideShapes Go.RowKit
open H.Plain (hw pS pC pN pM pG pT pL mv)

def shL : Nat → Vl := fldP 1 fun _ => ⟨0, 5⟩
def shX : Cw := .hd ⟨2, 96, 0, ⟨0, 0⟩, ⟨0, 7⟩⟩ false
def shY : Cw := .hd ⟨1, 96, 0, ⟨0, 0⟩, ⟨0, 0⟩⟩ false
theorem shown_x : (runC shX (laidS 1 shL) 3).1.done = true ∧ (runC shX (laidS 1 shL) 3).2.got 96 = H0 ∧ ((runC shX (laidS 1 shL) 3).2.load 96).got 97 = 56 := ⟨by kernel_rfl, by kernel_rfl, by kernel_rfl⟩
theorem shown_y : (runC shY (laidS 1 shL) 3).1.done = true ∧ (runC shY (laidS 1 shL) 3).1.o = ⟨0, ⟨0, 5⟩, false⟩ := ⟨by kernel_rfl, by kernel_rfl⟩
set_option maxHeartbeats 2000000 in
theorem cShown (w : World) (W : H.Wid w) :
    Calls Tryd.prog 8 #[] w fun e w' => e = .returned (.bool true) ∧ Below w.heap.size w w' := by
  obtain ⟨S, hS⟩ : ∃ S, laidS 1 shL = S := ⟨_, rfl⟩
  have hx := shown_x
  have hy := shown_y
  rw [hS] at hx hy
  obtain ⟨x1, x2, x3⟩ := hx
  obtain ⟨y1, y2⟩ := hy
  have okx : shX.Ok := ⟨.inr (.inl rfl), by decide, by decide, by decide, by decide⟩
  have oky : shY.Ok := ⟨.inl rfl, by decide, by decide, by decide, by decide⟩
  go_enter Tryd.func8, Tryd.ntmps8
  go_upto_region 2 with (fail)
  have cv0 : CameV (w.alloc (.cells #[.int .i64 0, .int .i64 5] 24)) (some ⟨w.heap.size, 0, none⟩) 1 (fun _ => ⟨0, 5⟩) := .inr ⟨w.heap.size, 0, rfl, by simp, fun j hj => by obtain rfl : j = 0 := (by omega); exact ⟨by go_cell, by go_cell, ⟨by decide, by decide, by decide, by decide⟩⟩⟩
  have bel0 : Below w.heap.size w (w.alloc (.cells #[.int .i64 0, .int .i64 5] 24)) := by go_grown
  obtain ⟨l0, hl0⟩ : ∃ l0, w.heap.size = l0 := ⟨_, rfl⟩
  rw [hl0] at cv0
  generalize w.alloc (.cells #[.int .i64 0, .int .i64 5] 24) = w1 at cv0 bel0 ⊢
  rw [hl0]
  go_upto_region 3 with (go_at_call 9; refine (cLaid (cv' := 1) w1 (W.on bel0) cv0).mono ?_; rintro e w2 ⟨b1, z1, rfl, h2⟩; have cv2 := cv0.on h2.bel; have h2' : Hand w w2 b1 S 18 := (by rw [← hS]; exact h2.one.lift bel0 W); clear h2)
  go_upto_region 4 with (go_at_call 9; refine (cLaid (cv' := 1) w2 h2'.widw cv2).mono ?_; rintro e w3 ⟨b2, z2, rfl, h3⟩; have h3' : Hand w2 w3 b2 S 18 := (by rw [← hS]; exact h3.one); have d3 := h2'.duo h3' (Nat.le_refl _); clear h3 h3' h2' cv2 cv0)
  go_upto_region 5 with (go_at_call 11; refine (cNewC ⟨2, 96, 0, ⟨0, 0⟩, ⟨0, 7⟩⟩ ⟨6, 0, 0⟩ _ okx).mono ?_; rintro e w4 ⟨px, rfl, Mx⟩; have d4 := d3.below Mx.bel; have mx : Cm w w4 px shX := Mx.cm d3.bel.size okx; clear Mx)
  go_upto_region 6 with (go_at_call 11; refine (cNewC ⟨1, 96, 0, ⟨0, 0⟩, ⟨0, 0⟩⟩ ⟨6, 0, 0⟩ _ oky).mono ?_; rintro e w5 ⟨py, rfl, My⟩; have d5 := d4.below My.bel; have my : Cm w w5 py shY := My.cm d4.bel.size oky; have mx5 := mx.below My.bel; have npq : px ≠ py := (by have := mx.lt; have := My.new; omega); clear My mx)
  go_wp2_with (fail)
  go_loopw [8, 9, 10] (fun a b i wr => ∃ j : Nat, j ≤ 3 ∧ i = .int .i64 j ∧ a = .bool (runC shX S j).1.done ∧ b = .bool (runC shY S j).1.done ∧ TwoT true w wr b1 b2 (runC shX S j).2 (runC shY S j).2 (18 + 2 * j) ∧ Cm w wr px (runC shX S j).1 ∧ Cm w wr py (runC shY S j).1) (fun _ _ i _ => 3 - (intOf i).toNat)
  case atStart => exact ⟨0, Nat.zero_le _, rfl, rfl, rfl, d5, mx5, my⟩
  case round =>
    obtain ⟨j, hj, rfl, rfl, rfl, k1, k2, k3⟩ := hrel
    obtain ⟨X, hX⟩ : ∃ X, (runC shX S j).1 = X := ⟨_, rfl⟩
    obtain ⟨Y, hY⟩ : ∃ Y, (runC shY S j).1 = Y := ⟨_, rfl⟩
    obtain ⟨SX, hSX⟩ : ∃ X, (runC shX S j).2 = X := ⟨_, rfl⟩
    obtain ⟨SY, hSY⟩ : ∃ Y, (runC shY S j).2 = Y := ⟨_, rfl⟩
    by_cases hj3 : j < 3
    case pos =>
      rw [hX] at k2
      rw [hY] at k3
      rw [hSX, hSY] at k1
      have hji : (j : Int) < 3 := by omega
      obtain ⟨cx, Bx'⟩ := k2.blk
      go_wp2_with (first
        | (go_at_call_of 13 (pt px); refine (tC k1 k2 (by omega)).mono ?_; rintro e w6 ⟨rfl, k4, k5, o6⟩; have k6 := k3.oth1 o6 Bx' (by decide) (Ne.symm npq); obtain ⟨cy, By⟩ := k6.blk)
        | (go_at_call_of 13 (pt py); refine (tC k4.flip k6 (by omega)).mono ?_; rintro e w7 ⟨rfl, k7, k8, o7⟩; have k9 := k5.oth1 o7 By (by decide) npq))
      go_roundw
      case rel => exact ⟨j + 1, by omega, by go_num, by simp only [runC, hX, hSX], by simp only [runC, hY, hSY], by simp only [runC, hX, hY, hSX, hSY]; exact k7.flip, by simp only [runC, hX, hSX]; exact k9, by simp only [runC, hY, hSY]; exact k8⟩
      case measure => simp [intOf]; omega
    case neg =>
      obtain rfl : j = 3 := by omega
      rw [x1, y1]
      clear hX hY hSX hSY X Y SX SY
      obtain ⟨SX, hSX⟩ : ∃ X, (runC shX S 3).2 = X := ⟨_, rfl⟩
      rw [hSX] at k1 x2 x3
      obtain ⟨h0, hh0⟩ : ∃ h0, H0 = h0 := ⟨_, rfl⟩
      have q0 : pS h0 = 1 ∧ pC h0 = 0 ∧ pN h0 = 3 ∧ pM h0 = 0 ∧ pG h0 = 0 ∧ pT h0 = 0 ∧ pL h0 = 0 := by rw [← hh0]; decide
      obtain ⟨q0, q1, q2, q3, q4, q5, q6⟩ := q0
      have hU : U64 h0 := hh0 ▸ u64_hw _ _ _ _ _ _ _
      rw [hh0] at x2
      have f1 := fOut1
      have f2 := fVal1
      have hv : (runC shY S 3).1.o.val = .agg #[.int .i64 0, .int .i64 0, .int .i64 5, .bool false] := by rw [y2]; rfl
      go_wp2_with (first
        | (go_at_call_of 22 (Value.int .i64 96); refine (tLoad k1 (by omega) 96).mono ?_; rintro e w8 ⟨rfl, k4, o8⟩; rw [x2]; have m8 := k3.oth0 o8; clear o8)
        | (go_at_call 21; refine (H.rOf h0 hU.1 hU.2 _).mono ?_; rintro e w9 ⟨rfl, hw9⟩; rw [q0, q1, q2, q3, q4, q5, q6] at hw9 ⊢; have hb9 : Below w8.heap.size w8 w9 := (by rw [hw9]; go_grown); have k5 := k4.below hb9; have m9 := m8.below hb9; have bt := k5.bel.size; clear hw9)
        | (go_at_call_of 22 (Value.int .i64 97); refine (tLoad (k5.alloc _) (by omega) 97).mono ?_; rintro e w10 ⟨rfl, k6, o10⟩; rw [x3]; have m10 := (m9.below ((Below.refl _ w9).alloc (Nat.le_refl _) _)).oth0 o10)
        | (go_at_call 18; refine (cCResult m10).mono ?_; rintro e w11 ⟨rfl, hb11⟩; rw [hv]; have k7 := k6.below hb11))
      go_ret
      exact ⟨rfl, k7.bel⟩
end Go.Proofs.YtahafmglidlcnaaDoor

namespace Go.Proofs.YtahafmglidlcnaaDoor
set_option linter.unusedVariables false
set_option linter.unusedSimpArgs false
set_option maxRecDepth 100000
open Go.ChangeShapes Go.WideShapes Go.RowKit
open H.Plain (hw pS pC pN pM pG pT pL mv)

def Mo.cells (m : Mo) : Array Value := #[.int .i64 m.pc, .int .u64 m.w]
section
set_option maxHeartbeats 2000000
variable {ow : Bool} {w0 w w' : World} {b y q : Nat} {s1 s2 : St} {N : Nat} {z : Int}
theorem mv0 (h : TwoT ow w0 w b y s1 s2 N) (B : Blk w0 w q 45 #[.int .i64 0, .int .u64 z]) (hz : U64 z) (hN : N + 5 < 1000000) :
    Calls Tryd.prog 14 #[pt q, pt b] w fun e w' => e = .returned (.bool false) ∧ TwoT ow w0 w' b y (s1.load 97) s2 (N + 1) ∧ Blk w0 w' q 45 #[.int .i64 1, .int .u64 (s1.got 97)] ∧ Oth [q] w w' := by
  obtain ⟨g, hg⟩ : ∃ g, s1.got 97 = g := ⟨_, rfl⟩
  rw [hg]
  have c0 : w.cell? ⟨q, 0, none⟩ = some (.int .i64 0) := B.cell 0
  have c1 : w.cell? ⟨q, 1, none⟩ = some (.int .u64 z) := B.cell 1
  have f0 := B.free 0
  have f1 := B.free 1
  have lq := B.lt
  go_enter Tryd.func14, Tryd.ntmps14
  go_wp2_with (go_at_call 22; refine (tLoad h (by omega) 97).mono ?_; rintro e w1 ⟨rfl, h1, o1⟩; rw [hg]; have B1 := B.oth o1 (by simp); have d0 : w1.cell? ⟨q, 0, none⟩ = some (.int .i64 0) := B1.cell 0; have d1 : w1.cell? ⟨q, 1, none⟩ = some (.int .u64 z) := B1.cell 1; have g0 := B1.free 0; have g1 := B1.free 1)
  go_ret
  have K : Kept [q] w1 ((w1.setCell ⟨q, 1, none⟩ (.int .u64 g)).setCell ⟨q, 0, none⟩ (.int .i64 1)) := (Kept.setCell [q] _ _ _ (by simp)).trans (Kept.setCell [q] _ _ _ (by simp)) (fun _ h => .inl h)
  exact ⟨rfl, to_twoB h1 K B1, (B1.set 1 _).set 0 _, (o1.mono (by simp)).trans (Oth.kept K)⟩
theorem mv2 (h : TwoT ow w0 w b y s1 s2 N) (B : Blk w0 w q 45 #[.int .i64 2, .int .u64 z]) (hz : U64 z) (hN : N + 5 < 1000000) :
    Calls Tryd.prog 14 #[pt q, pt b] w fun e w' => e = .returned (.bool false) ∧ TwoT ow w0 w' b y (s1.load 98) s2 (N + 1) ∧ Blk w0 w' q 45 #[.int .i64 3, .int .u64 (s1.got 98)] ∧ Oth [q] w w' := by
  obtain ⟨g, hg⟩ : ∃ g, s1.got 98 = g := ⟨_, rfl⟩
  rw [hg]
  have c0 : w.cell? ⟨q, 0, none⟩ = some (.int .i64 2) := B.cell 0
  have c1 : w.cell? ⟨q, 1, none⟩ = some (.int .u64 z) := B.cell 1
  have f0 := B.free 0
  have f1 := B.free 1
  have lq := B.lt
  go_enter Tryd.func14, Tryd.ntmps14
  go_wp2_with (go_at_call 22; refine (tLoad h (by omega) 98).mono ?_; rintro e w1 ⟨rfl, h1, o1⟩; rw [hg]; have B1 := B.oth o1 (by simp); have d0 : w1.cell? ⟨q, 0, none⟩ = some (.int .i64 2) := B1.cell 0; have d1 : w1.cell? ⟨q, 1, none⟩ = some (.int .u64 z) := B1.cell 1; have g0 := B1.free 0; have g1 := B1.free 1)
  go_ret
  have K : Kept [q] w1 ((w1.setCell ⟨q, 1, none⟩ (.int .u64 g)).setCell ⟨q, 0, none⟩ (.int .i64 3)) := (Kept.setCell [q] _ _ _ (by simp)).trans (Kept.setCell [q] _ _ _ (by simp)) (fun _ h => .inl h)
  exact ⟨rfl, to_twoB h1 K B1, (B1.set 1 _).set 0 _, (o1.mono (by simp)).trans (Oth.kept K)⟩
theorem mv4 (h : TwoT ow w0 w b y s1 s2 N) (B : Blk w0 w q 45 #[.int .i64 4, .int .u64 z]) (hz : U64 z) (hN : N + 5 < 1000000) :
    Calls Tryd.prog 14 #[pt q, pt b] w fun e w' => e = .returned (.bool false) ∧ TwoT ow w0 w' b y (s1.load 99) s2 (N + 1) ∧ Blk w0 w' q 45 #[.int .i64 5, .int .u64 (s1.got 99)] ∧ Oth [q] w w' := by
  obtain ⟨g, hg⟩ : ∃ g, s1.got 99 = g := ⟨_, rfl⟩
  rw [hg]
  have c0 : w.cell? ⟨q, 0, none⟩ = some (.int .i64 4) := B.cell 0
  have c1 : w.cell? ⟨q, 1, none⟩ = some (.int .u64 z) := B.cell 1
  have f0 := B.free 0
  have f1 := B.free 1
  have lq := B.lt
  go_enter Tryd.func14, Tryd.ntmps14
  go_wp2_with (go_at_call 22; refine (tLoad h (by omega) 99).mono ?_; rintro e w1 ⟨rfl, h1, o1⟩; rw [hg]; have B1 := B.oth o1 (by simp); have d0 : w1.cell? ⟨q, 0, none⟩ = some (.int .i64 4) := B1.cell 0; have d1 : w1.cell? ⟨q, 1, none⟩ = some (.int .u64 z) := B1.cell 1; have g0 := B1.free 0; have g1 := B1.free 1)
  go_ret
  have K : Kept [q] w1 ((w1.setCell ⟨q, 1, none⟩ (.int .u64 g)).setCell ⟨q, 0, none⟩ (.int .i64 5)) := (Kept.setCell [q] _ _ _ (by simp)).trans (Kept.setCell [q] _ _ _ (by simp)) (fun _ h => .inl h)
  exact ⟨rfl, to_twoB h1 K B1, (B1.set 1 _).set 0 _, (o1.mono (by simp)).trans (Oth.kept K)⟩
theorem mv1 (h : TwoT ow w0 w b y s1 s2 N) (B : Blk w0 w q 45 #[.int .i64 1, .int .u64 z]) (hz : U64 z) (hN : N + 5 < 1000000) :
    Calls Tryd.prog 14 #[pt q, pt b] w fun e w' => e = .returned (.bool false) ∧ TwoT ow w0 w' b y (s1.store 113 z) s2 (N + 1) ∧ Blk w0 w' q 45 #[.int .i64 2, .int .u64 z] ∧ Oth [q] w w' := by
  have c0 : w.cell? ⟨q, 0, none⟩ = some (.int .i64 1) := B.cell 0
  have c1 : w.cell? ⟨q, 1, none⟩ = some (.int .u64 z) := B.cell 1
  have f0 := B.free 0
  have f1 := B.free 1
  have lq := B.lt
  go_enter Tryd.func14, Tryd.ntmps14
  go_upto_region 12 with (fail)
  have hbd : Below w.heap.size w w.drew := (Below.refl _ _).drew
  have Bd := B.below hbd
  have hd := h.below hbd
  refine wp_region_noPanic ?_
  refine wp_region_held_drew (S := fun w' => w'.cell? ⟨q, 0, none⟩ = some (.int .i64 1) ∧ w'.cell? ⟨q, 1, none⟩ = some (.int .u64 z)) (by kernel_rfl) ⟨Bd.cell 0, Bd.cell 1⟩ (fun hHeld => ?_)
  refine takeH (i := 0) 46 (pt b) rfl rfl (by kernel_rfl) (by kernel_rfl) (by kernel_rfl) (fun _ _ _ h => h) (by rfl) ?_ (by assumption) ?_
  · intro w hSw; (try dsimp only at hSw); go_simp
  simp only [List.setIfInBounds_toArray, List.set_cons_zero, List.set_cons_succ]
  refine takeH (i := 1) 47 (pt q) rfl rfl (by kernel_rfl) (by kernel_rfl) (by kernel_rfl) (fun _ _ _ h => h) (by rfl) ?_ (by assumption) ?_
  · intro w hSw; (try dsimp only at hSw); go_simp
  simp only [List.setIfInBounds_toArray, List.set_cons_zero, List.set_cons_succ]
  refine takeH (i := 2) 48 (pt q) rfl rfl (by kernel_rfl) (by kernel_rfl) (by kernel_rfl) (fun _ _ _ h => h) (by rfl) ?_ (by assumption) ?_
  · intro w hSw; (try dsimp only at hSw); go_simp
  simp only [List.setIfInBounds_toArray, List.set_cons_zero, List.set_cons_succ]
  refine takeH (i := 3) 49 (pt q) rfl rfl (by kernel_rfl) (by kernel_rfl) (by kernel_rfl) (fun _ _ _ h => h) (by rfl) ?_ (by assumption) ?_
  · intro w hSw; (try dsimp only at hSw); go_simp
  simp only [List.setIfInBounds_toArray, List.set_cons_zero, List.set_cons_succ]
  refine takeH (i := 4) 50 (.int .i64 1) rfl rfl (by kernel_rfl) (by kernel_rfl) (by kernel_rfl) (fun _ _ _ h => h) (by rfl) ?_ (by assumption) ?_
  · intro w hSw; (try dsimp only at hSw); go_simp
  simp only [List.setIfInBounds_toArray, List.set_cons_zero, List.set_cons_succ]
  refine takeH (i := 5) 51 (.int .i64 0) rfl rfl (by kernel_rfl) (by kernel_rfl) (by kernel_rfl) (fun _ _ _ h => h) (by rfl) ?_ (by assumption) ?_
  · intro w hSw; (try dsimp only at hSw); go_simp; rfl
  simp only [List.setIfInBounds_toArray, List.set_cons_zero, List.set_cons_succ]
  refine takeH (i := 6) 52 (.int .i64 113) rfl rfl (by kernel_rfl) (by kernel_rfl) (by kernel_rfl) (fun _ _ _ h => h) (by rfl) ?_ (by assumption) ?_
  · intro w hSw; (try dsimp only at hSw); go_simp; rfl
  simp only [List.setIfInBounds_toArray, List.set_cons_zero, List.set_cons_succ]
  refine takeH (i := 7) 53 (pt q) rfl rfl (by kernel_rfl) (by kernel_rfl) (by kernel_rfl) (fun _ _ _ h => h) (by rfl) ?_ (by assumption) ?_
  · intro w hSw; (try dsimp only at hSw); go_simp
  simp only [List.setIfInBounds_toArray, List.set_cons_zero, List.set_cons_succ]
  refine takeH (i := 8) 54 (pt q) rfl rfl (by kernel_rfl) (by kernel_rfl) (by kernel_rfl) (fun _ _ _ h => h) (by rfl) ?_ (by assumption) ?_
  · intro w hSw; (try dsimp only at hSw); go_simp
  simp only [List.setIfInBounds_toArray, List.set_cons_zero, List.set_cons_succ]
  refine takeH (i := 9) 55 (.pointer (some ⟨q, 1, none⟩)) rfl rfl (by kernel_rfl) (by kernel_rfl) (by kernel_rfl) (fun _ _ _ h => h) (by rfl) ?_ (by assumption) ?_
  · intro w hSw; (try dsimp only at hSw); go_simp
  simp only [List.setIfInBounds_toArray, List.set_cons_zero, List.set_cons_succ]
  refine takeH (i := 10) 56 (.int .u64 z) rfl rfl (by kernel_rfl) (by kernel_rfl) (by kernel_rfl) (fun _ _ _ h => h) (by rfl) ?_ (by assumption) ?_
  · intro w hSw; (try dsimp only at hSw); go_simp
  simp only [List.setIfInBounds_toArray, List.set_cons_zero, List.set_cons_succ]
  refine wpAnyH_ready (rs := [11]) (by kernel_rfl) (by simp) ?_
  refine AllReadyH.cons rfl (fun K hK => ?_) AllReadyH.nil
  go_simp
  refine (tStore hd (by omega) 113 hz).mono ?_
  rintro e w1 ⟨rfl, h1, o1⟩
  have B1 := Bd.oth o1 (by simp)
  refine hK.out _ _ ⟨B1.cell 0, B1.cell 1⟩ (fun hHeld => ?_)
  clear hK K
  try simp only [Act.put, List.setIfInBounds_toArray, List.set_cons_zero, List.set_cons_succ]
  refine wpAnyH_done (by kernel_rfl) ?_ _
  refine NoPanic.normal ?_
  have d0 : w1.cell? ⟨q, 0, none⟩ = some (.int .i64 1) := B1.cell 0
  have g0 := B1.free 0
  go_wp2
  go_ret
  have K : Kept [q] w1 (w1.setCell ⟨q, 0, none⟩ (.int .i64 2)) := Kept.setCell [q] _ _ _ (by simp)
  exact ⟨rfl, to_twoB h1 K B1, B1.set 0 _, ((Oth.below hbd).trans (o1.mono (by simp))).trans (Oth.kept K)⟩
theorem mv3 (h : TwoT ow w0 w b y s1 s2 N) (B : Blk w0 w q 45 #[.int .i64 3, .int .u64 z]) (hz : U64 z) (hN : N + 5 < 1000000) :
    Calls Tryd.prog 14 #[pt q, pt b] w fun e w' => e = .returned (.bool false) ∧ TwoT ow w0 w' b y (s1.store 114 z) s2 (N + 1) ∧ Blk w0 w' q 45 #[.int .i64 4, .int .u64 z] ∧ Oth [q] w w' := by
  have c0 : w.cell? ⟨q, 0, none⟩ = some (.int .i64 3) := B.cell 0
  have c1 : w.cell? ⟨q, 1, none⟩ = some (.int .u64 z) := B.cell 1
  have f0 := B.free 0
  have f1 := B.free 1
  have lq := B.lt
  go_enter Tryd.func14, Tryd.ntmps14
  go_upto_region 12 with (fail)
  have hbd : Below w.heap.size w w.drew := (Below.refl _ _).drew
  have Bd := B.below hbd
  have hd := h.below hbd
  refine wp_region_noPanic ?_
  refine wp_region_held_drew (S := fun w' => w'.cell? ⟨q, 0, none⟩ = some (.int .i64 3) ∧ w'.cell? ⟨q, 1, none⟩ = some (.int .u64 z)) (by kernel_rfl) ⟨Bd.cell 0, Bd.cell 1⟩ (fun hHeld => ?_)
  refine takeH (i := 0) 46 (pt b) rfl rfl (by kernel_rfl) (by kernel_rfl) (by kernel_rfl) (fun _ _ _ h => h) (by rfl) ?_ (by assumption) ?_
  · intro w hSw; (try dsimp only at hSw); go_simp
  simp only [List.setIfInBounds_toArray, List.set_cons_zero, List.set_cons_succ]
  refine takeH (i := 1) 47 (pt q) rfl rfl (by kernel_rfl) (by kernel_rfl) (by kernel_rfl) (fun _ _ _ h => h) (by rfl) ?_ (by assumption) ?_
  · intro w hSw; (try dsimp only at hSw); go_simp
  simp only [List.setIfInBounds_toArray, List.set_cons_zero, List.set_cons_succ]
  refine takeH (i := 2) 48 (pt q) rfl rfl (by kernel_rfl) (by kernel_rfl) (by kernel_rfl) (fun _ _ _ h => h) (by rfl) ?_ (by assumption) ?_
  · intro w hSw; (try dsimp only at hSw); go_simp
  simp only [List.setIfInBounds_toArray, List.set_cons_zero, List.set_cons_succ]
  refine takeH (i := 3) 49 (pt q) rfl rfl (by kernel_rfl) (by kernel_rfl) (by kernel_rfl) (fun _ _ _ h => h) (by rfl) ?_ (by assumption) ?_
  · intro w hSw; (try dsimp only at hSw); go_simp
  simp only [List.setIfInBounds_toArray, List.set_cons_zero, List.set_cons_succ]
  refine takeH (i := 4) 50 (.int .i64 3) rfl rfl (by kernel_rfl) (by kernel_rfl) (by kernel_rfl) (fun _ _ _ h => h) (by rfl) ?_ (by assumption) ?_
  · intro w hSw; (try dsimp only at hSw); go_simp
  simp only [List.setIfInBounds_toArray, List.set_cons_zero, List.set_cons_succ]
  refine takeH (i := 5) 51 (.int .i64 1) rfl rfl (by kernel_rfl) (by kernel_rfl) (by kernel_rfl) (fun _ _ _ h => h) (by rfl) ?_ (by assumption) ?_
  · intro w hSw; (try dsimp only at hSw); go_simp; rfl
  simp only [List.setIfInBounds_toArray, List.set_cons_zero, List.set_cons_succ]
  refine takeH (i := 6) 52 (.int .i64 114) rfl rfl (by kernel_rfl) (by kernel_rfl) (by kernel_rfl) (fun _ _ _ h => h) (by rfl) ?_ (by assumption) ?_
  · intro w hSw; (try dsimp only at hSw); go_simp; rfl
  simp only [List.setIfInBounds_toArray, List.set_cons_zero, List.set_cons_succ]
  refine takeH (i := 7) 53 (pt q) rfl rfl (by kernel_rfl) (by kernel_rfl) (by kernel_rfl) (fun _ _ _ h => h) (by rfl) ?_ (by assumption) ?_
  · intro w hSw; (try dsimp only at hSw); go_simp
  simp only [List.setIfInBounds_toArray, List.set_cons_zero, List.set_cons_succ]
  refine takeH (i := 8) 54 (pt q) rfl rfl (by kernel_rfl) (by kernel_rfl) (by kernel_rfl) (fun _ _ _ h => h) (by rfl) ?_ (by assumption) ?_
  · intro w hSw; (try dsimp only at hSw); go_simp
  simp only [List.setIfInBounds_toArray, List.set_cons_zero, List.set_cons_succ]
  refine takeH (i := 9) 55 (.pointer (some ⟨q, 1, none⟩)) rfl rfl (by kernel_rfl) (by kernel_rfl) (by kernel_rfl) (fun _ _ _ h => h) (by rfl) ?_ (by assumption) ?_
  · intro w hSw; (try dsimp only at hSw); go_simp
  simp only [List.setIfInBounds_toArray, List.set_cons_zero, List.set_cons_succ]
  refine takeH (i := 10) 56 (.int .u64 z) rfl rfl (by kernel_rfl) (by kernel_rfl) (by kernel_rfl) (fun _ _ _ h => h) (by rfl) ?_ (by assumption) ?_
  · intro w hSw; (try dsimp only at hSw); go_simp
  simp only [List.setIfInBounds_toArray, List.set_cons_zero, List.set_cons_succ]
  refine wpAnyH_ready (rs := [11]) (by kernel_rfl) (by simp) ?_
  refine AllReadyH.cons rfl (fun K hK => ?_) AllReadyH.nil
  go_simp
  refine (tStore hd (by omega) 114 hz).mono ?_
  rintro e w1 ⟨rfl, h1, o1⟩
  have B1 := Bd.oth o1 (by simp)
  refine hK.out _ _ ⟨B1.cell 0, B1.cell 1⟩ (fun hHeld => ?_)
  clear hK K
  try simp only [Act.put, List.setIfInBounds_toArray, List.set_cons_zero, List.set_cons_succ]
  refine wpAnyH_done (by kernel_rfl) ?_ _
  refine NoPanic.normal ?_
  have d0 : w1.cell? ⟨q, 0, none⟩ = some (.int .i64 3) := B1.cell 0
  have g0 := B1.free 0
  go_wp2
  go_ret
  have K : Kept [q] w1 (w1.setCell ⟨q, 0, none⟩ (.int .i64 4)) := Kept.setCell [q] _ _ _ (by simp)
  exact ⟨rfl, to_twoB h1 K B1, B1.set 0 _, ((Oth.below hbd).trans (o1.mono (by simp))).trans (Oth.kept K)⟩
theorem mv5 (h : TwoT ow w0 w b y s1 s2 N) (B : Blk w0 w q 45 #[.int .i64 5, .int .u64 z]) (hz : U64 z) (hN : N + 5 < 1000000) :
    Calls Tryd.prog 14 #[pt q, pt b] w fun e w' => e = .returned (.bool false) ∧ TwoT ow w0 w' b y (s1.store 115 z) s2 (N + 1) ∧ Blk w0 w' q 45 #[.int .i64 6, .int .u64 z] ∧ Oth [q] w w' := by
  have c0 : w.cell? ⟨q, 0, none⟩ = some (.int .i64 5) := B.cell 0
  have c1 : w.cell? ⟨q, 1, none⟩ = some (.int .u64 z) := B.cell 1
  have f0 := B.free 0
  have f1 := B.free 1
  have lq := B.lt
  go_enter Tryd.func14, Tryd.ntmps14
  go_upto_region 12 with (fail)
  have hbd : Below w.heap.size w w.drew := (Below.refl _ _).drew
  have Bd := B.below hbd
  have hd := h.below hbd
  refine wp_region_noPanic ?_
  refine wp_region_held_drew (S := fun w' => w'.cell? ⟨q, 0, none⟩ = some (.int .i64 5) ∧ w'.cell? ⟨q, 1, none⟩ = some (.int .u64 z)) (by kernel_rfl) ⟨Bd.cell 0, Bd.cell 1⟩ (fun hHeld => ?_)
  refine takeH (i := 0) 46 (pt b) rfl rfl (by kernel_rfl) (by kernel_rfl) (by kernel_rfl) (fun _ _ _ h => h) (by rfl) ?_ (by assumption) ?_
  · intro w hSw; (try dsimp only at hSw); go_simp
  simp only [List.setIfInBounds_toArray, List.set_cons_zero, List.set_cons_succ]
  refine takeH (i := 1) 47 (pt q) rfl rfl (by kernel_rfl) (by kernel_rfl) (by kernel_rfl) (fun _ _ _ h => h) (by rfl) ?_ (by assumption) ?_
  · intro w hSw; (try dsimp only at hSw); go_simp
  simp only [List.setIfInBounds_toArray, List.set_cons_zero, List.set_cons_succ]
  refine takeH (i := 2) 48 (pt q) rfl rfl (by kernel_rfl) (by kernel_rfl) (by kernel_rfl) (fun _ _ _ h => h) (by rfl) ?_ (by assumption) ?_
  · intro w hSw; (try dsimp only at hSw); go_simp
  simp only [List.setIfInBounds_toArray, List.set_cons_zero, List.set_cons_succ]
  refine takeH (i := 3) 49 (pt q) rfl rfl (by kernel_rfl) (by kernel_rfl) (by kernel_rfl) (fun _ _ _ h => h) (by rfl) ?_ (by assumption) ?_
  · intro w hSw; (try dsimp only at hSw); go_simp
  simp only [List.setIfInBounds_toArray, List.set_cons_zero, List.set_cons_succ]
  refine takeH (i := 4) 50 (.int .i64 5) rfl rfl (by kernel_rfl) (by kernel_rfl) (by kernel_rfl) (fun _ _ _ h => h) (by rfl) ?_ (by assumption) ?_
  · intro w hSw; (try dsimp only at hSw); go_simp
  simp only [List.setIfInBounds_toArray, List.set_cons_zero, List.set_cons_succ]
  refine takeH (i := 5) 51 (.int .i64 2) rfl rfl (by kernel_rfl) (by kernel_rfl) (by kernel_rfl) (fun _ _ _ h => h) (by rfl) ?_ (by assumption) ?_
  · intro w hSw; (try dsimp only at hSw); go_simp; rfl
  simp only [List.setIfInBounds_toArray, List.set_cons_zero, List.set_cons_succ]
  refine takeH (i := 6) 52 (.int .i64 115) rfl rfl (by kernel_rfl) (by kernel_rfl) (by kernel_rfl) (fun _ _ _ h => h) (by rfl) ?_ (by assumption) ?_
  · intro w hSw; (try dsimp only at hSw); go_simp; rfl
  simp only [List.setIfInBounds_toArray, List.set_cons_zero, List.set_cons_succ]
  refine takeH (i := 7) 53 (pt q) rfl rfl (by kernel_rfl) (by kernel_rfl) (by kernel_rfl) (fun _ _ _ h => h) (by rfl) ?_ (by assumption) ?_
  · intro w hSw; (try dsimp only at hSw); go_simp
  simp only [List.setIfInBounds_toArray, List.set_cons_zero, List.set_cons_succ]
  refine takeH (i := 8) 54 (pt q) rfl rfl (by kernel_rfl) (by kernel_rfl) (by kernel_rfl) (fun _ _ _ h => h) (by rfl) ?_ (by assumption) ?_
  · intro w hSw; (try dsimp only at hSw); go_simp
  simp only [List.setIfInBounds_toArray, List.set_cons_zero, List.set_cons_succ]
  refine takeH (i := 9) 55 (.pointer (some ⟨q, 1, none⟩)) rfl rfl (by kernel_rfl) (by kernel_rfl) (by kernel_rfl) (fun _ _ _ h => h) (by rfl) ?_ (by assumption) ?_
  · intro w hSw; (try dsimp only at hSw); go_simp
  simp only [List.setIfInBounds_toArray, List.set_cons_zero, List.set_cons_succ]
  refine takeH (i := 10) 56 (.int .u64 z) rfl rfl (by kernel_rfl) (by kernel_rfl) (by kernel_rfl) (fun _ _ _ h => h) (by rfl) ?_ (by assumption) ?_
  · intro w hSw; (try dsimp only at hSw); go_simp
  simp only [List.setIfInBounds_toArray, List.set_cons_zero, List.set_cons_succ]
  refine wpAnyH_ready (rs := [11]) (by kernel_rfl) (by simp) ?_
  refine AllReadyH.cons rfl (fun K hK => ?_) AllReadyH.nil
  go_simp
  refine (tStore hd (by omega) 115 hz).mono ?_
  rintro e w1 ⟨rfl, h1, o1⟩
  have B1 := Bd.oth o1 (by simp)
  refine hK.out _ _ ⟨B1.cell 0, B1.cell 1⟩ (fun hHeld => ?_)
  clear hK K
  try simp only [Act.put, List.setIfInBounds_toArray, List.set_cons_zero, List.set_cons_succ]
  refine wpAnyH_done (by kernel_rfl) ?_ _
  refine NoPanic.normal ?_
  have d0 : w1.cell? ⟨q, 0, none⟩ = some (.int .i64 5) := B1.cell 0
  have g0 := B1.free 0
  go_wp2
  go_ret
  have K : Kept [q] w1 (w1.setCell ⟨q, 0, none⟩ (.int .i64 6)) := Kept.setCell [q] _ _ _ (by simp)
  exact ⟨rfl, to_twoB h1 K B1, B1.set 0 _, ((Oth.below hbd).trans (o1.mono (by simp))).trans (Oth.kept K)⟩
theorem mv6 (h : TwoT ow w0 w b y s1 s2 N) (B : Blk w0 w q 45 #[.int .i64 6, .int .u64 z]) (hz : U64 z) (hN : N + 5 < 1000000) :
    Calls Tryd.prog 14 #[pt q, pt b] w fun e w' => e = .returned (.bool true) ∧ TwoT ow w0 w' b y (s1.cas 96 (HT 1) (HT 2)) s2 (N + 1) ∧ Blk w0 w' q 45 #[.int .i64 7, .int .u64 z] ∧ Oth [q] w w' := by
  obtain ⟨h1, hh1⟩ : ∃ h1, hw 1 0 3 0 0 1 112 = h1 := ⟨_, rfl⟩
  obtain ⟨h2, hh2⟩ : ∃ h2, hw 1 0 3 0 0 2 112 = h2 := ⟨_, rfl⟩
  have hU : U64 h2 := hh2 ▸ u64_hw _ _ _ _ _ _ _
  rw [show HT 1 = h1 from hh1, show HT 2 = h2 from hh2]
  have c0 : w.cell? ⟨q, 0, none⟩ = some (.int .i64 6) := B.cell 0
  have c1 : w.cell? ⟨q, 1, none⟩ = some (.int .u64 z) := B.cell 1
  have f0 := B.free 0
  have f1 := B.free 1
  have lq := B.lt
  go_enter Tryd.func14, Tryd.ntmps14
  go_wp2_with (first
    | (go_at_call_of 27 (Value.agg #[.int .i64 1, .int .i64 0, .int .i64 3, .int .i64 0, .int .i64 0, .int .i64 1, .int .i64 112]); refine (H.rWord _ _ _ _ _ _ _ _).mono ?_; rintro e w1 ⟨rfl, hw1⟩; rw [hh1, hw1]; clear hw1)
    | (go_at_call 27; refine (H.rWord _ _ _ _ _ _ _ _).mono ?_; rintro e w2 ⟨rfl, hw2⟩; rw [hh2]; have hb2 : Below w.heap.size w w2 := (by rw [hw2]; go_grown); have t2 := h.below hb2; have B2 := B.below hb2; clear hw2)
    | (go_at_call 33; refine (tCAS t2 (by omega) 96 h1 hU).mono ?_; rintro e w3 ⟨rfl, t3, o3⟩; have B3 := B2.oth o3 (by simp); have d0 : w3.cell? ⟨q, 0, none⟩ = some (.int .i64 6) := B3.cell 0; have g0 := B3.free 0))
  go_ret
  have K : Kept [q] w3 (w3.setCell ⟨q, 0, none⟩ (.int .i64 7)) := Kept.setCell [q] _ _ _ (by simp)
  exact ⟨rfl, to_twoB t3 K B3, B3.set 0 _, ((Oth.below hb2).trans (o3.mono (by simp))).trans (Oth.kept K)⟩
theorem mv7 (h : TwoT ow w0 w b y s1 s2 N) (B : Blk w0 w q 45 #[.int .i64 7, .int .u64 z]) (hz : U64 z) (hN : N + 5 < 1000000) :
    Calls Tryd.prog 14 #[pt q, pt b] w fun e w' => e = .returned (.bool true) ∧ TwoT ow w0 w' b y (s1) s2 (N + 1) ∧ Blk w0 w' q 45 #[.int .i64 7, .int .u64 z] ∧ Oth [q] w w' := by
  have c0 : w.cell? ⟨q, 0, none⟩ = some (.int .i64 7) := B.cell 0
  have c1 : w.cell? ⟨q, 1, none⟩ = some (.int .u64 z) := B.cell 1
  have f0 := B.free 0
  have f1 := B.free 1
  have lq := B.lt
  go_enter Tryd.func14, Tryd.ntmps14
  go_wp2
  go_ret
  exact ⟨rfl, h.mono (by omega), B, Oth.refl _ _⟩
theorem tMv {m : Mo} (h : TwoT ow w0 w b y s1 s2 N) (B : Blk w0 w q 45 m.cells) (ok : m.Ok) (hN : N + 5 < 1000000) :
    Calls Tryd.prog 14 #[pt q, pt b] w fun e w' => (∃ d, e = .returned (.bool d)) ∧ TwoT ow w0 w' b y (m.mem s1) s2 (N + 1) ∧ Blk w0 w' q 45 (m.next s1).cells ∧ Oth [q] w w' := by
  obtain ⟨pc, z⟩ := m
  obtain ⟨h7, hz⟩ := ok
  simp only at h7 hz
  rcases (show pc = 0 ∨ pc = 1 ∨ pc = 2 ∨ pc = 3 ∨ pc = 4 ∨ pc = 5 ∨ pc = 6 ∨ pc = 7 by omega) with rfl | rfl | rfl | rfl | rfl | rfl | rfl | rfl
  · refine (mv0 h B hz hN).mono ?_
    rintro e w' ⟨rfl, t, B', o⟩
    exact ⟨⟨_, rfl⟩, by simpa [Mo.mem] using t, by simpa [Mo.next, Mo.cells] using B', o⟩
  · refine (mv1 h B hz hN).mono ?_
    rintro e w' ⟨rfl, t, B', o⟩
    exact ⟨⟨_, rfl⟩, by simpa [Mo.mem] using t, by simpa [Mo.next, Mo.cells] using B', o⟩
  · refine (mv2 h B hz hN).mono ?_
    rintro e w' ⟨rfl, t, B', o⟩
    exact ⟨⟨_, rfl⟩, by simpa [Mo.mem] using t, by simpa [Mo.next, Mo.cells] using B', o⟩
  · refine (mv3 h B hz hN).mono ?_
    rintro e w' ⟨rfl, t, B', o⟩
    exact ⟨⟨_, rfl⟩, by simpa [Mo.mem] using t, by simpa [Mo.next, Mo.cells] using B', o⟩
  · refine (mv4 h B hz hN).mono ?_
    rintro e w' ⟨rfl, t, B', o⟩
    exact ⟨⟨_, rfl⟩, by simpa [Mo.mem] using t, by simpa [Mo.next, Mo.cells] using B', o⟩
  · refine (mv5 h B hz hN).mono ?_
    rintro e w' ⟨rfl, t, B', o⟩
    exact ⟨⟨_, rfl⟩, by simpa [Mo.mem] using t, by simpa [Mo.next, Mo.cells] using B', o⟩
  · refine (mv6 h B hz hN).mono ?_
    rintro e w' ⟨rfl, t, B', o⟩
    exact ⟨⟨_, rfl⟩, by simpa [Mo.mem] using t, by simpa [Mo.next, Mo.cells] using B', o⟩
  · refine (mv7 h B hz hN).mono ?_
    rintro e w' ⟨rfl, t, B', o⟩
    exact ⟨⟨_, rfl⟩, by simpa [Mo.mem] using t, by simpa [Mo.next, Mo.cells] using B', o⟩
end
end Go.Proofs.YtahafmglidlcnaaDoor

namespace Go.Proofs.YtahafmglidlcnaaDoor
set_option linter.unusedVariables false
set_option linter.unusedSimpArgs false
set_option maxRecDepth 100000
open Go.ChangeShapes Go.WideShapes Go.RowKit
open H.Plain (hw pS pC pN pM pG pT pL mv)

set_option maxHeartbeats 2000000 in
theorem cNow {ow : Bool} {w0 w : World} {b y k : Nat} {s1 s2 : St} {N : Nat} {g : Nat → Int} (h : TwoT ow w0 w b y s1 s2 N) (A : At3 s1 g) (hk : k < 3) (hN : N + 100 < 1000000) :
    Calls Tryd.prog 16 #[pt b, .int .i64 k] w fun e w' => e = .returned (.agg #[.int .i64 (Vl.of (g k)).k, .int .i64 (Vl.of (g k)).n]) ∧ ∃ s', TwoT ow w0 w' b y s' s2 (N + 20) ∧ At3 s' g ∧ Oth [] w w' := by
  obtain ⟨s', E, A'⟩ := A.read hk
  have e20 : runC (.hd (rqR k) false) s1 20 = (.fin true ⟨0, Vl.of (g k), false⟩, s') := E.past 18
  obtain ⟨v, hv⟩ : ∃ v, Vl.of (g k) = v := ⟨_, rfl⟩
  rw [hv] at e20 ⊢
  have ok : (Cw.hd (rqR k) false).Ok := ⟨.inl rfl, by simp [rqR], by simp [rqR], by simp [rqR], by simp only [rqR]; omega⟩
  have hs0 := h.bel.size
  have a1 : Below w.heap.size w (w.alloc (.cells #[.int .i64 0, .int .i64 0] 24)) := (Below.refl _ _).alloc (Nat.le_refl _) _
  have h1 := h.below a1
  have V1 : Blk w0 (w.alloc (.cells #[.int .i64 0, .int .i64 0] 24)) w.heap.size 24 #[.int .i64 0, .int .i64 0] := Blk.new hs0 _ (by decide)
  have o1 : Oth [w.heap.size] w (w.alloc (.cells #[.int .i64 0, .int .i64 0] 24)) := Oth.below a1
  go_enter Tryd.func16, Tryd.ntmps16
  go_upto_region 1 with (fail)
  obtain ⟨vb, hvb⟩ : ∃ vb, w.heap.size = vb := ⟨_, rfl⟩
  rw [hvb] at V1 o1 ⊢
  generalize w.alloc (.cells #[.int .i64 0, .int .i64 0] 24) = w1 at h1 V1 o1 ⊢
  clear a1
  go_wp2_with (go_at_call 11; refine (cNewC (rqR k) ⟨6, 0, 0⟩ _ ok).mono ?_; rintro e w2 ⟨p, rfl, M⟩; have h2 := h1.below M.bel; have m2 : Cm w0 w2 p (.hd (rqR k) false) := M.cm h1.bel.size ok; have V2 := V1.below M.bel; have o2 := o1.trans (Oth.below M.bel); have hp : w.heap.size ≤ p := (by have := M.new; have := V1.lt; omega); clear M)
  go_loopw [6] (fun i wr => ∃ j : Nat, j ≤ 20 ∧ i = .int .i64 j ∧ TwoT ow w0 wr b y (runC (.hd (rqR k) false) s1 j).2 s2 (N + j) ∧ Cm w0 wr p (runC (.hd (rqR k) false) s1 j).1 ∧ Blk w0 wr vb 24 #[.int .i64 0, .int .i64 0] ∧ Oth [p, vb] w wr) (fun i _ => 20 - (intOf i).toNat)
  case atStart => exact ⟨0, Nat.zero_le _, rfl, h2, m2, V2, o2.mono (by simp)⟩
  case round =>
    obtain ⟨j, hj, rfl, k1, k2, k3, k4⟩ := hrel
    by_cases hj2 : j < 20
    case pos =>
      have hji : (j : Int) < 20 := by omega
      obtain ⟨X, hX⟩ : ∃ X, (runC (.hd (rqR k) false) s1 j).1 = X := ⟨_, rfl⟩
      obtain ⟨SX, hSX⟩ : ∃ X, (runC (.hd (rqR k) false) s1 j).2 = X := ⟨_, rfl⟩
      rw [hX] at k2
      rw [hSX] at k1
      obtain ⟨cx, Bx'⟩ := k2.blk
      go_wp2_with (go_at_call 13; refine (tC k1 k2 (by omega)).mono ?_; rintro e w6 ⟨rfl, k5, k6, o6⟩; have k7 := k3.oth o6 (by simpa using k3.ne Bx' (by decide)); have k8 := k4.trans (o6.mono (by simp)))
      go_roundw
      case rel => exact ⟨j + 1, by omega, by go_num, by simp only [runC, hX, hSX]; exact k5, by simp only [runC, hX, hSX]; exact k6, k7, k8⟩
      case measure => simp [intOf]; omega
    case neg =>
      obtain rfl : j = 20 := by omega
      rw [e20] at k1 k2
      have f1 := fOut1
      go_wp2_with (go_at_call 18; refine (cCResult k2).mono ?_; rintro e w7 ⟨rfl, hb7⟩; simp only [Cw.o, Ou.val]; have k5 := k1.below hb7; have k6 := k3.below hb7; have k7 := k4.trans (Oth.below hb7); have v0 : w7.cell? ⟨vb, 0, none⟩ = some (.int .i64 0) := k6.cell 0; have v1 : w7.cell? ⟨vb, 1, none⟩ = some (.int .i64 0) := k6.cell 1; have g0 := k6.free 0; have g1 := k6.free 1)
      have K : Kept [vb] w7 ((w7.setCell ⟨vb, 0, none⟩ (.int .i64 v.k)).setCell ⟨vb, 1, none⟩ (.int .i64 v.n)) := (Kept.setCell [vb] _ _ _ (by simp)).trans (Kept.setCell [vb] _ _ _ (by simp)) (fun _ h => .inl h)
      have u0 : (w7.setCell ⟨vb, 0, none⟩ (.int .i64 v.k)).cell? ⟨vb, 0, none⟩ = some (.int .i64 v.k) := (k6.set 0 (.int .i64 v.k)).cell 0
      have u1 : ((w7.setCell ⟨vb, 0, none⟩ (.int .i64 v.k)).setCell ⟨vb, 1, none⟩ (.int .i64 v.n)).cell? ⟨vb, 1, none⟩ = some (.int .i64 v.n) := ((k6.set 0 (.int .i64 v.k)).set 1 (.int .i64 v.n)).cell 1
      exact bodyPost_ret (v := .agg #[.int .i64 v.k, .int .i64 v.n]) (by simp [results, Tryd.results16, go_sem, u0, u1]) rfl ⟨rfl, s', to_twoB k5 K k6, A', (((k7.trans ((Oth.kept K).mono (by simp))).drop hp).drop (by omega))⟩
end Go.Proofs.YtahafmglidlcnaaDoor

namespace Go.Proofs.YtahafmglidlcnaaDoor
set_option linter.unusedVariables false
set_option linter.unusedSimpArgs false
set_option maxRecDepth 100000
open Go.ChangeShapes Go.WideShapes Go.RowKit

section
variable {w0 w w' : World} {b y p q g cp : Nat} {s1 s2 : St} {N : Nat} {T : TypeId} {cs : Array Value} {F : List Nat}
theorem Cm.fin {t : Bool} {o : Ou} (h : Cm w0 w p (.fin t o)) (ot : Oth F w w') (hp : p ∉ F) : Cm w0 w' p (.fin t o) := by
  obtain ⟨⟨a, B, I⟩, ok⟩ := h
  exact ⟨⟨a, B.oth ot hp, I⟩, ok⟩
theorem Cm.hd {r : Rq} {fx : Bool} (h : Cm w0 w p (.hd r fx)) (ot : Oth F w w') (hp : p ∉ F) : Cm w0 w' p (.hd r fx) := by
  obtain ⟨⟨a, B, I⟩, ok⟩ := h
  exact ⟨⟨a, B.oth ot hp, I⟩, ok⟩
theorem seen_g (sn : Seen2 w y g cp s2) {M : Loc} (e : M.b = y) (hr : MemAt (T2of false) w M s2) : M.g = g ∧ M.cp = cp := by
  have c0 := hr.cell0
  rw [e, sn.c0] at c0
  simp at c0
  exact ⟨c0.1.symm, c0.2.symm⟩
theorem seen_at {M : Loc} (e : M.b = y) (eg : M.g = g) (ec : M.cp = cp) (hr : MemAt (T2of false) w M s2) : Seen2 w y g cp s2 := by
  subst e eg ec
  exact ⟨hr.cell0, hr.cell2, fun j hj => hr.wcell j hj, hr.lt _ (by simp [Loc.fp]), hr.lt _ (by simp [Loc.fp])⟩
theorem tLoadS (h : Two w0 w b y s1 s2 N) (sn : Seen2 w y g cp s2) (hN : N < 1000000) (a : Int) :
    Calls Tryd.prog 22 #[pt b, .int .i64 a] w fun e w' => e = .returned (.int .u64 (s1.got a)) ∧ Two w0 w' b y (s1.load a) s2 (N + 1) ∧ Oth [] w w' ∧ Seen2 w' y g cp s2 := by
  have ht := h.top1
  have hc : s1.c < 1000000 := by omega
  obtain ⟨⟨L, M, rfl, e2, hm, hr, hl, hl2⟩, hb, f1, f2, t1, t2, r1, r2, wd⟩ := h
  refine (cLoad hm f1 hc a).mono ?_
  rintro e w' ⟨rfl, L', hm', st⟩
  obtain ⟨eg, ec⟩ := seen_g sn e2 hr
  have hr' : MemAt (T2of false) w' M s2 := hr.on st.kept fun k hk hm' => (hl k hm').2 hk
  have hl' : ∀ k ∈ L'.fp, w0.heap.size ≤ k ∧ k ∉ M.fp := fun k hk => (st.new k hk).elim (hl k) fun h' => ⟨Nat.le_trans hb.size h', fun hkM => by have := hr.lt k hkM; omega⟩
  exact ⟨rfl, ⟨⟨L', M, st.b, e2, hm', hr', hl', hl2⟩, hb.trans (st.kept.below (fun k hk => (hl k hk).1) hb.size), f1.load hc a, f2, by rw [St.c_load]; omega, by omega, r1.load a, r2, wd⟩, Oth.step hm (by simp [MTs]) f1 st, seen_at e2 eg ec hr'⟩
theorem seen_kept (h : Two w0 w b y s1 s2 N) (sn : Seen2 w y g cp s2) (K : Kept [q] w w') (B : Blk w0 w q T cs) : Seen2 w' y g cp s2 := by
  obtain ⟨⟨L, M, e1, e2, hm, hr, hl, hl2⟩, hb, f1, f2, _⟩ := h
  obtain ⟨eg, ec⟩ := seen_g sn e2 hr
  exact seen_at e2 eg ec (hr.on K fun k hk e => by simp at e; subst e; exact notin_fp hr (t2m _) f2 (.inl B.hT) B.at_ hk)
theorem seen160 (sn : Seen2 w y g cp s2) (hl : s2.ws.length = 160) : w.cell? ⟨y, 0, none⟩ = some (.slice (some ⟨g, 0, none⟩) 160 cp) := by
  have := sn.c0
  rw [hl] at this
  exact this
theorem seen113 {f : Nat} {v : Int} (sn : Seen2 w y g cp s2) (hl : s2.ws.length = 160) (h : s2.word (113 + (f : Int)) = v) (hf : f < 3 := by omega) : w.cell? ⟨g, 113 + f, none⟩ = some (.int .u64 v) := by
  have := sn.at hl (113 + f) (by omega)
  rw [show (((113 + f : Nat)) : Int) = 113 + (f : Int) by omega, h] at this
  exact this
end
theorem beqTT (w : World) : (binOp .eql 4 (.bool true) (.bool true)).run Tryd.prog w = .ok (.bool true) w := by kernel_rfl
theorem beqFF (w : World) : (binOp .eql 4 (.bool false) (.bool false)).run Tryd.prog w = .ok (.bool true) w := by kernel_rfl
theorem seen97 {w : World} {y g cp f : Nat} {s2 : St} {v : Int} (sn : Seen2 w y g cp s2) (hl : s2.ws.length = 160) (h : s2.word (97 + (f : Int)) = v) (hf : f < 3 := by omega) : w.cell? ⟨g, 97 + f, none⟩ = some (.int .u64 v) := by
  have := sn.at hl (97 + f) (by omega)
  rw [show (((97 + f : Nat)) : Int) = 97 + (f : Int) by omega, h] at this
  exact this
end Go.Proofs.YtahafmglidlcnaaDoor
