/-
  AllocSets, walked.
-/
import Derived.Test.YtbojljkdpebheaaDoorAs
namespace Go.Proofs.YtbojljkdpebheaaDoor
set_option linter.unusedVariables false
set_option maxRecDepth 100000
open Go.ChangeShapes Go.WideShapes Go.RowKit
open S.Plain (t0 t1 tw nx bw b0 b1 b2 b3)
open H.Plain (hw pL)
theorem set_facts : ∀ C : Nat, C < 3 → (rsW 60 (ResS.new (mkPl 1 1) C 0) (frSt 1 1).ws).1 = 32 ∧ (rsW 60 (ResS.new (mkPl 1 1) C 1) (rsW 60 (ResS.new (mkPl 1 1) C 0) (frSt 1 1).ws).2).1 = 0 ∧ (rsW 60 (ResS.new (mkPl 1 1) C 0) (rsW 60 (ResS.new (mkPl 1 1) C 1) (rsW 60 (ResS.new (mkPl 1 1) C 0) (frSt 1 1).ws).2).2).1 = (mkPl 1 1).cell 0 C 1 := by decide +kernel
set_option maxHeartbeats 400000 in
theorem wAllocSets (a : Int) (ha : -9223372036854775808 ≤ a) (ha' : a ≤ 9223372036854775807) (w : World) (W : Laid w) :
    Calls Tryd.prog 6 #[.int .i64 a] w fun e w' => e = .returned (.bool true) ∧ Below w.heap.size w w' := by
  have ka := kd_bounds a 3 (by decide)
  obtain ⟨C, hC⟩ : ∃ C : Nat, kd a 3 = C := ⟨(kd a 3).toNat, by omega⟩
  have c3 : C < 3 := by omega
  have c0 : (0 : Int) ≤ C := by omega
  have c2 : (C : Int) ≤ 2 := by omega
  clear ka
  obtain ⟨f1, f2, f3⟩ := set_facts C c3
  obtain ⟨R1, h1⟩ : ∃ R1, rsW 60 (ResS.new (mkPl 1 1) C 0) (frSt 1 1).ws = R1 := ⟨_, rfl⟩
  rw [h1] at f1 f2 f3
  obtain ⟨R2, h2⟩ : ∃ R2, rsW 60 (ResS.new (mkPl 1 1) C 1) R1.2 = R2 := ⟨_, rfl⟩
  rw [h2] at f2 f3
  obtain ⟨R3, h3⟩ : ∃ R3, rsW 60 (ResS.new (mkPl 1 1) C 0) R2.2 = R3 := ⟨_, rfl⟩
  rw [h3] at f3
  obtain ⟨z, hz⟩ : ∃ z, (mkPl 1 1).cell 0 C 1 = z := ⟨_, rfl⟩
  rw [hz] at f3
  have pok := mkPl_ok (t := 1) (n := 1) (by decide) (by decide)
  go_enter Tryd.func6, Tryd.ntmps6
  go_wp2_with (go_at_call 7; refine (cShown _ W).mono ?_; rintro e w1 ⟨rfl, hb1⟩)
  go_wp2_with (first
    | (go_at_call 8; refine (kRNew 1 1 (by decide) (by decide) (by decide) (by decide) _).mono ?_; rintro e w2 ⟨rfl, hb2⟩; have hba : Below w.heap.size w (w2.alloc (.cells (mkPl 1 1).cells 25)) := S.bal (bel_trans hb1 hb2) _; have hBa : PB w (w2.alloc (.cells (mkPl 1 1).cells 25)) w2.heap.size (mkPl 1 1) := Blk.new (bel_trans hb1 hb2).size _ (by decide))
    | (go_at_call 10; refine (cFr (t := 1) (n := 1) (by decide) (by decide) (by decide) _ (W.on hba)).mono ?_; rintro e w3 ⟨b, y, rfl, h3'⟩; obtain ⟨s, h4, hws, ht⟩ := fresh_hand h3'; have hB := hBa.below h4.bel; have h5 : Hand w w3 b s (szN 1 1) := h4.lift hba W; clear h3' h4 ht hBa; obtain ⟨o, ho⟩ : ∃ o, w2.heap.size = o := ⟨_, rfl⟩; rw [ho] at hB ⊢; clear ho; have p0 := hB.box.c0; have p1 := hB.box.c1; have p2 := hB.box.c2; have p3 := hB.box.c3; have p4 := hB.box.c4)
    | (go_at_call 9; refine (cKind _ a 3 ha ha' (by decide)).mono ?_; rintro e wx ⟨rfl, hwx⟩; rw [hwx, hC]; clear hwx wx))
  have sz : szN 1 1 = 64 := by decide
  rw [sz] at h5
  clear hba hb1 hb2
  rw [← hws] at h1
  have G := cGot h5 (by decide) pok c0 c2 (e := 0) (by decide) (by decide)
  rw [h1, f1] at G
  go_wp2_with (go_at_call_of 28 (Value.int .i64 0); refine G.mono ?_; rintro e w4 ⟨s4, rfl, e4, q4, o4⟩; have hB4 := hB.oth o4 (by simp); clear p0 p1 p2 p3 p4; have p0 := hB4.box.c0; have p1 := hB4.box.c1; have p2 := hB4.box.c2; have p3 := hB4.box.c3; have p4 := hB4.box.c4)
  clear G hB h5 h1
  have G := cGot q4 (by decide) pok c0 c2 (e := 1) (by decide) (by decide)
  rw [e4, h2, f2] at G
  go_wp2_with (go_at_call_of 28 (Value.int .i64 1); refine G.mono ?_; rintro e w5 ⟨s5, rfl, e5, q5, o5⟩; have hB5 := hB4.oth o5 (by simp); clear p0 p1 p2 p3 p4; have p0 := hB5.box.c0; have p1 := hB5.box.c1; have p2 := hB5.box.c2; have p3 := hB5.box.c3; have p4 := hB5.box.c4)
  clear G hB4 q4 h2
  have G := cGot q5 (by decide) pok c0 c2 (e := 0) (by decide) (by decide)
  rw [e5, h3, f3] at G
  have K1 := fun w' => kRCell (q := mkPl 1 1) pok (i := 0) (k := 1) C (by decide) (by decide) (by decide) (by decide) w'
  simp only [hz] at K1
  go_wp2_with (first
    | (go_at_call_of 28 (Value.int .i64 0); refine G.mono ?_; rintro e w6 ⟨s6, rfl, e6, q6, o6⟩; have hB6 := hB5.oth o6 (by simp); have r0 := hB6.box.c0; have r1 := hB6.box.c1; have r2 := hB6.box.c2; have r3 : w6.cell? ⟨o, 3, none⟩ = some (.int .i64 32) := hB6.box.c3; have r4 := hB6.box.c4)
    | (go_at_call 26; refine (K1 _).mono ?_; rintro e w7 ⟨rfl, hb7⟩))
  go_ret
  exact ⟨rfl, (q6.below hb7).bel⟩
end Go.Proofs.YtbojljkdpebheaaDoor
