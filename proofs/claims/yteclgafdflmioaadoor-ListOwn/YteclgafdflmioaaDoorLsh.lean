/-
  The document's examples.
-/
import Derived.Test.YteclgafdflmioaaDoorLl
namespace Go.Proofs.YteclgafdflmioaaDoor
set_option linter.unusedVariables false
set_option maxRecDepth 100000
open Go.ChangeShapes Go.WideShapes Go.RowKit

theorem shown_plain : ∃ A1 A2 B1 B2 A3 P1 P2 P3 B3 s1 s2 s3 s4 s5 s6 s7 s8 s9, (PopS.new 3).next (laidTo 2 2) = A1 ∧ (PopS.new 3).mem (laidTo 2 2) = s1 ∧ A1.next s1 = A2 ∧ A1.mem s1 = s2 ∧ (PopS.new 3).next s2 = B1 ∧ (PopS.new 3).mem s2 = s3 ∧ B1.next s3 = B2 ∧ B1.mem s3 = s4 ∧ A2.next s4 = A3 ∧ A2.mem s4 = s5 ∧ (PushS.new 3 96 96 0).next s5 = P1 ∧ (PushS.new 3 96 96 0).mem s5 = s6 ∧ P1.next s6 = P2 ∧ P1.mem s6 = s7 ∧ P2.next s7 = P3 ∧ P2.mem s7 = s8 ∧ B2.next s8 = B3 ∧ B2.mem s8 = s9 ∧ (A1.pc == 0) = false ∧ (A2.pc == 0) = false ∧ (A3.pc == 0) = true ∧ A3.at_ = 96 ∧ (B3.pc == 0) = false :=
  ⟨_, _, _, _, _, _, _, _, _, _, _, _, _, _, _, _, _, _, rfl, rfl, rfl, rfl, rfl, rfl, rfl, rfl, rfl, rfl, rfl, rfl, rfl, rfl, rfl, rfl, rfl, rfl, by kernel_rfl, by kernel_rfl, by kernel_rfl, by kernel_rfl, by kernel_rfl⟩
theorem blk_ne {w0 w : World} {p q : Nat} {T : TypeId} {cs : Array Value} (h : Blk w0 w p T cs) (h' : w.heap.size ≤ q) : p ≠ q := by have := h.lt; omega

set_option maxHeartbeats 400000 in
theorem cShown (w : World) (W : H.Wid w) :
    Calls Tryd.prog 7 #[] w fun e w' => e = .returned (.bool true) ∧ Below w.heap.size w w' := by
  obtain ⟨A1, A2, B1, B2, A3, P1, P2, P3, B3, s1, s2, s3, s4, s5, s6, s7, s8, s9, e0, e1, e2, e3, e4, e5, e6, e7, e8, e9, e10, e11, e12, e13, e14, e15, e16, e17, f1, f2, f3, f4, f5⟩ := shown_plain
  have kA0 := PopS.ok_new 3
  have kP0 := PushS.ok_new 3 96 96 0
  have kB0 := PopS.ok_new 3
  go_enter Tryd.func7, Tryd.ntmps7
  go_wp2_with (go_at_call 8; refine (cLaid 2 (by decide) _ W).mono ?_; rintro e w1 ⟨b, rfl, h1⟩)
  go_wp2_with (go_at_call 14; refine (cNewPop 3 w1).mono ?_; rintro e w2 ⟨rfl, hw2⟩; have h2 : Hand w w2 b (laidTo 2 2) 6 := (hw2 ▸ h1.alloc _); have A_0 : Blk w w2 w1.heap.size 79 (PopS.new 3).cells := (by rw [hw2]; exact Blk.new h1.bel.size _ (by decide)); obtain ⟨pA, hp⟩ : ∃ p, w1.heap.size = p := ⟨_, rfl⟩; rw [hp] at A_0 ⊢; clear hp hw2 h1)
  go_wp2_with (go_at_call 14; refine (cNewPop 3 w2).mono ?_; rintro e w3 ⟨rfl, hw3⟩; have h3 : Hand w w3 b (laidTo 2 2) 6 := (hw3 ▸ h2.alloc _); have B_0 : Blk w w3 w2.heap.size 79 (PopS.new 3).cells := (by rw [hw3]; exact Blk.new h2.bel.size _ (by decide)); have nAB := blk_ne A_0 (Nat.le_refl _); have A_0' : Blk w w3 pA 79 (PopS.new 3).cells := (hw3 ▸ A_0.oth (Oth.alloc [] w2 _) (by simp)); obtain ⟨pB, hp⟩ : ∃ p, w2.heap.size = p := ⟨_, rfl⟩; rw [hp] at B_0 nAB ⊢; clear hp hw3 h2 A_0)
  go_wp2_with (go_at_call_of 16 (Value.pointer (some ⟨pA, 0, none⟩)); refine (oPop h3 A_0' kA0 (by decide)).mono ?_; rintro e w4 ⟨rfl, h4, A_4, o4⟩; rw [e0] at A_4 ⊢; rw [e1] at h4; rw [f1]; have kA1 := kA0.next h3.rng; rw [e0] at kA1; have B_4 := B_0.oth o4 (by simpa using Ne.symm nAB); clear o4)
  go_wp2_with (go_at_call_of 16 (Value.pointer (some ⟨pA, 0, none⟩)); refine (oPop h4 A_4 kA1 (by decide)).mono ?_; rintro e w5 ⟨rfl, h5, A_5, o5⟩; rw [e2] at A_5 ⊢; rw [e3] at h5; rw [f2]; have kA2 := kA1.next h4.rng; rw [e2] at kA2; have B_5 := B_4.oth o5 (by simpa using Ne.symm nAB); clear o5)
  go_wp2_with (go_at_call_of 16 (Value.pointer (some ⟨pB, 0, none⟩)); refine (oPop h5 B_5 kB0 (by decide)).mono ?_; rintro e w6 ⟨rfl, h6, B_6, o6⟩; rw [e4] at B_6 ⊢; rw [e5] at h6; have kB1 := kB0.next h5.rng; rw [e4] at kB1; have A_6 := A_5.oth o6 (by simpa using nAB); clear o6)
  go_wp2_with (go_at_call_of 16 (Value.pointer (some ⟨pB, 0, none⟩)); refine (oPop h6 B_6 kB1 (by decide)).mono ?_; rintro e w7 ⟨rfl, h7, B_7, o7⟩; rw [e6] at B_7 ⊢; rw [e7] at h7; have kB2 := kB1.next h6.rng; rw [e6] at kB2; have A_7 := A_6.oth o7 (by simpa using nAB); clear o7)
  go_wp2_with (go_at_call_of 16 (Value.pointer (some ⟨pA, 0, none⟩)); refine (oPop h7 A_7 kA2 (by decide)).mono ?_; rintro e w8 ⟨rfl, h8, A_8, o8⟩; rw [e8] at A_8 ⊢; rw [e9] at h8; rw [f3]; have kA3 := kA2.next h7.rng; rw [e8] at kA3; have B_8 := B_7.oth o8 (by simpa using Ne.symm nAB); clear o8)
  go_wp2_with (go_at_call 17; refine (oResult A_8 kA3).mono ?_; rintro e w9 ⟨rfl, hb⟩; rw [f4]; have h9 := h8.below hb; have B_r := B_8.below hb; clear hb)
  go_wp2_with (go_at_call 15; refine (cNewPush 3 96 96 0 w9).mono ?_; rintro e w10 ⟨rfl, hw⟩; have h10 : Hand w w10 b s5 11 := (hw ▸ h9.alloc _); have P_0 : Blk w w10 w9.heap.size 82 (PushS.new 3 96 96 0).cells := (by rw [hw]; exact Blk.new h9.bel.size _ (by decide)); have nPB : w9.heap.size ≠ pB := (Ne.symm (blk_ne B_r (Nat.le_refl _))); have B_n : Blk w w10 pB 79 B2.cells := (hw ▸ B_r.oth (Oth.alloc [] _ _) (by simp)); obtain ⟨pP, hp⟩ : ∃ p, w9.heap.size = p := ⟨_, rfl⟩; rw [hp] at P_0 nPB ⊢; clear hp hw)
  go_wp2_with (go_at_call_of 18 (Value.pointer (some ⟨pP, 0, none⟩)); refine (oPush h10 P_0 kP0 (by decide)).mono ?_; rintro e w11 ⟨rfl, h11, P_11, o11⟩; rw [e10] at P_11 ⊢; rw [e11] at h11; have kP1 := kP0.next h10.rng; rw [e10] at kP1; have B_11 := B_n.oth o11 (by simpa using Ne.symm nPB); clear o11)
  go_wp2_with (go_at_call_of 18 (Value.pointer (some ⟨pP, 0, none⟩)); refine (oPush h11 P_11 kP1 (by decide)).mono ?_; rintro e w12 ⟨rfl, h12, P_12, o12⟩; rw [e12] at P_12 ⊢; rw [e13] at h12; have kP2 := kP1.next h11.rng; rw [e12] at kP2; have B_12 := B_11.oth o12 (by simpa using Ne.symm nPB); clear o12)
  go_wp2_with (go_at_call_of 18 (Value.pointer (some ⟨pP, 0, none⟩)); refine (oPush h12 P_12 kP2 (by decide)).mono ?_; rintro e w13 ⟨rfl, h13, P_13, o13⟩; rw [e14] at P_13 ⊢; rw [e15] at h13; have kP3 := kP2.next h12.rng; rw [e14] at kP3; have B_13 := B_12.oth o13 (by simpa using Ne.symm nPB); clear o13)
  go_wp2_with (go_at_call_of 16 (Value.pointer (some ⟨pB, 0, none⟩)); refine (oPop h13 B_13 kB2 (by decide)).mono ?_; rintro e w14 ⟨rfl, h14, B_14, o14⟩; rw [e16] at B_14 ⊢; rw [e17] at h14; rw [f5]; have kB3 := kB2.next h13.rng; rw [e16] at kB3; clear o14)
  go_ret
  exact ⟨rfl, h14.bel⟩
end Go.Proofs.YteclgafdflmioaaDoor
