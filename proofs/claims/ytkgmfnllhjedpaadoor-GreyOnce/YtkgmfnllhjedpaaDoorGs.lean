/-
  The document's examples.
-/
import Derived.Test.YtkgmfnllhjedpaaDoorGl
namespace Go.Proofs.YtkgmfnllhjedpaaDoor
set_option linter.unusedVariables false
set_option maxRecDepth 100000
open Go.ChangeShapes Go.WideShapes Go.RowKit

theorem blk_ne {w0 w : World} {p q : Nat} {T : TypeId} {cs : Array Value} (h : Blk w0 w p T cs) (h' : w.heap.size ≤ q) : p ≠ q := by have := h.lt; omega
theorem shown_plain : ∃ A1 s1 A2 s2 A3 s3 A4 s4 A5 s5 B1 s6 C1 s7 N1 s8 N2 s9 N3 s10 N4 s11, (ShadeS.new 96 1).next (laidSt 16) = A1 ∧ (ShadeS.new 96 1).mem (laidSt 16) = s1 ∧ A1.next s1 = A2 ∧ A1.mem s1 = s2 ∧ A2.next s2 = A3 ∧ A2.mem s2 = s3 ∧ A3.next s3 = A4 ∧ A3.mem s3 = s4 ∧ A4.next s4 = A5 ∧ A4.mem s4 = s5 ∧ (ShadeS.new 96 1).next s5 = B1 ∧ (ShadeS.new 96 1).mem s5 = s6 ∧ (ShadeS.new 0 1).next s6 = C1 ∧ (ShadeS.new 0 1).mem s6 = s7 ∧ NextS.new.next s7 = N1 ∧ NextS.new.mem s7 = s8 ∧ N1.next s8 = N2 ∧ N1.mem s8 = s9 ∧ N2.next s9 = N3 ∧ N2.mem s9 = s10 ∧ N3.next s10 = N4 ∧ N3.mem s10 = s11 ∧ (A1.pc == 0) = false ∧ (A2.pc == 0) = false ∧ (A3.pc == 0) = false ∧ (A4.pc == 0) = false ∧ (A5.pc == 0) = true ∧ (B1.pc == 0) = true ∧ (C1.pc == 0) = true ∧ N4.cell = 96 ∧ N4.count = 1 ∧ s6.c = 22 ∧ s11.got 96 = 145 ∧ s11.c = 26 :=
  ⟨_, _, _, _, _, _, _, _, _, _, _, _, _, _, _, _, _, _, _, _, _, _, rfl, rfl, rfl, rfl, rfl, rfl, rfl, rfl, rfl, rfl, rfl, rfl, rfl, rfl, rfl, rfl, rfl, rfl, rfl, rfl, rfl, rfl, by kernel_rfl, by kernel_rfl, by kernel_rfl, by kernel_rfl, by kernel_rfl, by kernel_rfl, by kernel_rfl, by kernel_rfl, by kernel_rfl, by kernel_rfl, by kernel_rfl, by kernel_rfl⟩

set_option maxHeartbeats 1000000 in
theorem cShown (w : World) (W : H.Wid w) :
    Calls Tryd.prog 8 #[] w fun e w' => e = .returned (.bool true) ∧ Below w.heap.size w w' := by
  obtain ⟨A1, s1, A2, s2, A3, s3, A4, s4, A5, s5, B1, s6, C1, s7, N1, s8, N2, s9, N3, s10, N4, s11, e0, e1, e2, e3, e4, e5, e6, e7, e8, e9, e10, e11, e12, e13, e14, e15, e16, e17, e18, e19, e20, e21, f0, f1, f2, f3, f4, f5, f6, f7, f8, f9, f10, f11⟩ := shown_plain
  have kA0 := ShadeS.ok_new 96 1
  have kB0 := ShadeS.ok_new 96 1
  have kC0 := ShadeS.ok_new 0 1
  have kN0 := NextS.ok_new
  go_enter Tryd.func8, Tryd.ntmps8
  go_wp2_with (go_at_call 9; refine (cLaid w W).mono ?_; rintro e w1 ⟨b, y, rfl, h1⟩; have h2 := h1.one; clear h1)
  go_wp2_with (go_at_call_of 16 (Value.int IntKind.i64 96); have hh := h2; refine (cNewShade 96 1 _).mono ?_; rintro e wnA ⟨rfl, hM⟩; have M := hM; have H_A := h2.below M.bel; have A_0 := M.blk' h2.bel.size (by decide); obtain ⟨pA, hp⟩ : ∃ p, w1.heap.size = p := ⟨_, rfl⟩; rw [hp] at A_0  ⊢; clear hp hM M h2 hh)
  go_wp2_with (go_at_call_of 16 (Value.int IntKind.i64 96); have hh := H_A; refine (cNewShade 96 1 _).mono ?_; rintro e wnB ⟨rfl, hM⟩; have M := hM; have H_B := H_A.below M.bel; have B_0 := M.blk' H_A.bel.size (by decide); have nAB := blk_ne A_0 (Nat.le_refl _); have A_0B := A_0.below M.bel; obtain ⟨pB, hp⟩ : ∃ p, wnA.heap.size = p := ⟨_, rfl⟩; rw [hp] at B_0 nAB ⊢; clear hp hM M H_A hh A_0)
  go_wp2_with (go_at_call_of 16 (Value.int IntKind.i64 0); refine (cNewShade 0 1 _).mono ?_; rintro e wnC ⟨rfl, hM⟩; have M := hM; have H_C := H_B.below M.bel; have C_0 := M.blk' H_B.bel.size (by decide); have nAC := blk_ne A_0B (Nat.le_refl _); have A_0BC := A_0B.below M.bel; have nBC := blk_ne B_0 (Nat.le_refl _); have B_0C := B_0.below M.bel; obtain ⟨pC, hp⟩ : ∃ p, wnB.heap.size = p := ⟨_, rfl⟩; rw [hp] at C_0 nAC nBC ⊢; clear hp hM M H_B A_0B B_0)
  go_wp2_with (go_at_call 10; refine (cNewNext _).mono ?_; rintro e wnN ⟨rfl, hM⟩; have M := made_of hM; have H_N := H_C.below M.bel; have N_0 := M.blk' H_C.bel.size (by decide); have nAN := blk_ne A_0BC (Nat.le_refl _); have A_0BCN := A_0BC.below M.bel; have nBN := blk_ne B_0C (Nat.le_refl _); have B_0CN := B_0C.below M.bel; have nCN := blk_ne C_0 (Nat.le_refl _); have C_0N := C_0.below M.bel; obtain ⟨pN, hp⟩ : ∃ p, wnC.heap.size = p := ⟨_, rfl⟩; rw [hp] at N_0 nAN nBN nCN ⊢; clear hp hM M H_C A_0BC B_0C C_0)
  refine wp_loop_rounds 5 ?_
  rw [rounds_succ]
  go_wp2_with (go_at_call_of 18 (Value.pointer (some ⟨pA, 0, none⟩)); refine (oShade H_N A_0BCN kA0 (by decide)).mono ?_; rintro e v1 ⟨rfl, G1, X1, o1⟩; rw [e0] at X1 ⊢; rw [e1] at G1; have q1 := kA0.next H_N.rng; rw [e0] at q1; have B_v1 := B_0CN.oth o1 (by simpa using (Ne.symm nAB)); have C_v1 := C_0N.oth o1 (by simpa using (Ne.symm nAC)); have N_v1 := N_0.oth o1 (by simpa using (Ne.symm nAN)); have A_v1 := X1; clear o1 X1 H_N A_0BCN B_0CN C_0N N_0; rw [f0])
  rw [rounds_succ]
  go_wp2_with (go_at_call_of 18 (Value.pointer (some ⟨pA, 0, none⟩)); refine (oShade G1 A_v1 q1 (by decide)).mono ?_; rintro e v2 ⟨rfl, G2, X2, o2⟩; rw [e2] at X2 ⊢; rw [e3] at G2; have q2 := q1.next G1.rng; rw [e2] at q2; have B_v2 := B_v1.oth o2 (by simpa using (Ne.symm nAB)); have C_v2 := C_v1.oth o2 (by simpa using (Ne.symm nAC)); have N_v2 := N_v1.oth o2 (by simpa using (Ne.symm nAN)); have A_v2 := X2; clear o2 X2 G1 A_v1 B_v1 C_v1 N_v1; rw [f1])
  rw [rounds_succ]
  go_wp2_with (go_at_call_of 18 (Value.pointer (some ⟨pA, 0, none⟩)); refine (oShade G2 A_v2 q2 (by decide)).mono ?_; rintro e v3 ⟨rfl, G3, X3, o3⟩; rw [e4] at X3 ⊢; rw [e5] at G3; have q3 := q2.next G2.rng; rw [e4] at q3; have B_v3 := B_v2.oth o3 (by simpa using (Ne.symm nAB)); have C_v3 := C_v2.oth o3 (by simpa using (Ne.symm nAC)); have N_v3 := N_v2.oth o3 (by simpa using (Ne.symm nAN)); have A_v3 := X3; clear o3 X3 G2 A_v2 B_v2 C_v2 N_v2; rw [f2])
  rw [rounds_succ]
  go_wp2_with (go_at_call_of 18 (Value.pointer (some ⟨pA, 0, none⟩)); refine (oShade G3 A_v3 q3 (by decide)).mono ?_; rintro e v4 ⟨rfl, G4, X4, o4⟩; rw [e6] at X4 ⊢; rw [e7] at G4; have q4 := q3.next G3.rng; rw [e6] at q4; have B_v4 := B_v3.oth o4 (by simpa using (Ne.symm nAB)); have C_v4 := C_v3.oth o4 (by simpa using (Ne.symm nAC)); have N_v4 := N_v3.oth o4 (by simpa using (Ne.symm nAN)); have A_v4 := X4; clear o4 X4 G3 A_v3 B_v3 C_v3 N_v3; rw [f3])
  rw [rounds_succ]
  go_wp2_with (go_at_call_of 18 (Value.pointer (some ⟨pA, 0, none⟩)); refine (oShade G4 A_v4 q4 (by decide)).mono ?_; rintro e v5 ⟨rfl, G5, X5, o5⟩; rw [e8] at X5 ⊢; rw [e9] at G5; have q5 := q4.next G4.rng; rw [e8] at q5; have B_v5 := B_v4.oth o5 (by simpa using (Ne.symm nAB)); have C_v5 := C_v4.oth o5 (by simpa using (Ne.symm nAC)); have N_v5 := N_v4.oth o5 (by simpa using (Ne.symm nAN)); have A_v5 := X5; clear o5 X5 G4 A_v4 B_v4 C_v4 N_v4; rw [f4])
  go_wp2_with (go_at_call_of 18 (Value.pointer (some ⟨pB, 0, none⟩)); refine (oShade G5 B_v5 kB0 (by decide)).mono ?_; rintro e v6 ⟨rfl, G6, X6, o6⟩; rw [e10] at X6 ⊢; rw [e11] at G6; have q6 := kB0.next G5.rng; rw [e10] at q6; have A_v6 := A_v5.oth o6 (by simpa using nAB); have C_v6 := C_v5.oth o6 (by simpa using (Ne.symm nBC)); have N_v6 := N_v5.oth o6 (by simpa using (Ne.symm nBN)); have B_v6 := X6; clear o6 X6 G5 A_v5 B_v5 C_v5 N_v5; rw [f5])
  go_wp2_with (go_at_call 28; refine (hCount G6).mono ?_; rintro e wx ⟨rfl, hwx⟩; rw [hwx, f9]; clear hwx wx)
  go_wp2_with (go_at_call_of 18 (Value.pointer (some ⟨pC, 0, none⟩)); refine (oShade G6 C_v6 kC0 (by decide)).mono ?_; rintro e v7 ⟨rfl, G7, X7, o7⟩; rw [e12] at X7 ⊢; rw [e13] at G7; have q7 := kC0.next G6.rng; rw [e12] at q7; have A_v7 := A_v6.oth o7 (by simpa using nAC); have B_v7 := B_v6.oth o7 (by simpa using nBC); have N_v7 := N_v6.oth o7 (by simpa using (Ne.symm nCN)); have C_v7 := X7; clear o7 X7 G6 A_v6 B_v6 C_v6 N_v6; rw [f6])
  refine wp_loop_rounds 5 ?_
  rw [rounds_succ]
  go_wp2_with (go_at_call_of 13 (Value.pointer (some ⟨pN, 0, none⟩)); refine (oNext G7 N_v7 kN0 (by decide)).mono ?_; rintro e v8 ⟨rfl, G8, X8, o8⟩; rw [e14] at X8 ⊢; rw [e15] at G8; have q8 := kN0.next G7.rng; rw [e14] at q8; have A_v8 := A_v7.oth o8 (by simpa using nAN); have B_v8 := B_v7.oth o8 (by simpa using nBN); have C_v8 := C_v7.oth o8 (by simpa using nCN); have N_v8 := X8; clear o8 X8 G7 A_v7 B_v7 C_v7 N_v7)
  rw [rounds_succ]
  go_wp2_with (go_at_call_of 13 (Value.pointer (some ⟨pN, 0, none⟩)); refine (oNext G8 N_v8 q8 (by decide)).mono ?_; rintro e v9 ⟨rfl, G9, X9, o9⟩; rw [e16] at X9 ⊢; rw [e17] at G9; have q9 := q8.next G8.rng; rw [e16] at q9; have A_v9 := A_v8.oth o9 (by simpa using nAN); have B_v9 := B_v8.oth o9 (by simpa using nBN); have C_v9 := C_v8.oth o9 (by simpa using nCN); have N_v9 := X9; clear o9 X9 G8 A_v8 B_v8 C_v8 N_v8)
  rw [rounds_succ]
  go_wp2_with (go_at_call_of 13 (Value.pointer (some ⟨pN, 0, none⟩)); refine (oNext G9 N_v9 q9 (by decide)).mono ?_; rintro e v10 ⟨rfl, G10, X10, o10⟩; rw [e18] at X10 ⊢; rw [e19] at G10; have q10 := q9.next G9.rng; rw [e18] at q10; have A_v10 := A_v9.oth o10 (by simpa using nAN); have B_v10 := B_v9.oth o10 (by simpa using nBN); have C_v10 := C_v9.oth o10 (by simpa using nCN); have N_v10 := X10; clear o10 X10 G9 A_v9 B_v9 C_v9 N_v9)
  rw [rounds_succ]
  go_wp2_with (go_at_call_of 13 (Value.pointer (some ⟨pN, 0, none⟩)); refine (oNext G10 N_v10 q10 (by decide)).mono ?_; rintro e v11 ⟨rfl, G11, X11, o11⟩; rw [e20] at X11 ⊢; rw [e21] at G11; have q11 := q10.next G10.rng; rw [e20] at q11; have A_v11 := A_v10.oth o11 (by simpa using nAN); have B_v11 := B_v10.oth o11 (by simpa using nBN); have C_v11 := C_v10.oth o11 (by simpa using nCN); have N_v11 := X11; clear o11 X11 G10 A_v10 B_v10 C_v10 N_v10)
  rw [rounds_succ]
  go_wp2_with (go_at_call 14; refine (oResult N_v11).mono ?_; rintro e wr ⟨rfl, hbr⟩; rw [f7, f8]; have K := G11.below hbr; clear hbr)
  go_wp2_with (first
    | (go_at_call 28; refine (hCount K).mono ?_; rintro e wx ⟨rfl, hwx⟩; rw [hwx, f11]; clear hwx wx)
    | (go_at_call 26; refine (hLoad K (by decide) 96).mono ?_; rintro e wl ⟨rfl, KL, _⟩; rw [f10]))
  go_ret
  exact ⟨rfl, KL.bel⟩
end Go.Proofs.YtkgmfnllhjedpaaDoor

