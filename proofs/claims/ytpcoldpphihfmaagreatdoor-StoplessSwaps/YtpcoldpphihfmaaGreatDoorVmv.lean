/-
  The laws' mover, a step.
-/
import Derived.Test.YtpcoldpphihfmaaGreatDoorVd
import Derived.Test.YtpcoldpphihfmaaGreatDoorVk
namespace Go.Proofs.YtpcoldpphihfmaaGreatDoor
set_option linter.unusedVariables false
set_option linter.unusedSimpArgs false
set_option maxRecDepth 100000
open Go.ChangeShapes Go.WideShapes Go.RowKit
open H.Plain (hw pS pC pN pM pG pT pL mv)

def Mo.cells (m : Mo) : Array Value := #[.int .i64 (m.f : Int), .int .i64 (m.pc : Int), .bool m.wd, .int .u64 m.w]
section
variable {ow : Bool} {w0 w w' w1 : World} {b y q : Nat} {s1 s2 s s' : St} {N N' N2 : Nat} {cs cs' : Array Value}
theorem Blk.to {T : TypeId} (B : Blk w0 w q T cs) (e : cs = cs') : Blk w0 w q T cs' := e ▸ B
/-- behind its step -/
structure Mt (ow : Bool) (w0 w w' : World) (b y q : Nat) (s1 s2 : St) (N : Nat) (cs : Array Value) : Prop where
  two : TwoT ow w0 w' b y s1 s2 N
  blk : Blk w0 w' q 70 cs
  oth : Oth [q] w w'
theorem Mt.set (t : Mt ow w0 w w' b y q s1 s2 N cs) (i : Nat) (u : Value) : Mt ow w0 w (w'.setCell ⟨q, i, none⟩ u) b y q s1 s2 N (cs.setIfInBounds i u) := ⟨to_twoB t.two (Kept.one ..) t.blk, t.blk.set i u, t.oth.trans (Oth.kept (Kept.one ..))⟩
theorem Mt.below (t : Mt ow w0 w w' b y q s1 s2 N cs) (hb : Below w'.heap.size w' w1) : Mt ow w0 w w1 b y q s1 s2 N cs := ⟨t.two.below hb, t.blk.below hb, t.oth.trans (Oth.below hb)⟩
theorem Mt.oth0 (t : Mt ow w0 w w' b y q s1 s2 N cs) (h : TwoT ow w0 w1 b y s' s2 N2) (o : Oth [] w' w1) : Mt ow w0 w w1 b y q s' s2 N2 cs := ⟨h, t.blk.oth o (by simp), t.oth.trans (o.mono (by simp))⟩
def Ml (ow : Bool) (w0 w : World) (b y q : Nat) (s' s2 : St) (N : Nat) (m' : Mo) (e : Ending) (w' : World) : Prop := (∃ d, e = .returned (.bool d)) ∧ Mt ow w0 w w' b y q s' s2 N m'.cells
set_option maxHeartbeats 4000000
theorem m0a {f : Nat} {z : Int} (h : TwoT ow w0 w b y s1 s2 N) (B : Blk w0 w q 70 (Mo.mk f 0 true z).cells) (hN : N + 5 < 1000000) (hf : f < 3) (hz : U64 z) (hyp : s1.got (106 + 2 * (f : Int)) ≠ 0) :
    Calls Tryz.prog 29 #[pt q, pt b] w fun e w' => Ml ow w0 w b y q ((Mo.mk f 0 true z).mem s1) s2 (N + 1) ((Mo.mk f 0 true z).next s1) e w' := by
  have n3 : ¬ f = 3 := by omega
  have n3' : ((f : Int) == 3) = false := by simpa using (show ¬ (f : Int) = 3 by omega)
  have B0 : Blk w0 w q 70 #[.int .i64 (f : Int), .int .i64 0, .bool true, .int .u64 z] := B
  have t0 : Mt ow w0 w w b y q s1 s2 N #[.int .i64 (f : Int), .int .i64 0, .bool true, .int .u64 z] := ⟨h, B0, Oth.refl _ _⟩
  have c0 : w.cell? ⟨q, 0, none⟩ = some (.int .i64 (f : Int)) := B0.cell 0
  have c1 : w.cell? ⟨q, 1, none⟩ = some (.int .i64 0) := B0.cell 1
  have c2 : w.cell? ⟨q, 2, none⟩ = some (.bool true) := B0.cell 2
  have c3 : w.cell? ⟨q, 3, none⟩ = some (.int .u64 z) := B0.cell 3
  have g0 := B0.free 0
  have g1 := B0.free 1
  have g3 := B0.free 3
  clear B B0
  have j2 : IntKind.i64.wrap (2 * (f : Int)) = 2 * (f : Int) := by rw [IntKind.wrap_i64]; omega
  obtain ⟨S, hS⟩ : ∃ S, (106 : Int) + 2 * (f : Int) = S := ⟨_, rfl⟩
  obtain ⟨O, hO⟩ : ∃ O, (97 : Int) + (f : Int) = O := ⟨_, rfl⟩
  have jS : IntKind.i64.wrap (106 + 2 * (f : Int)) = S := by rw [IntKind.wrap_i64]; omega
  have jO : IntKind.i64.wrap (97 + (f : Int)) = O := by rw [IntKind.wrap_i64]; omega
  have jS2 : IntKind.i64.wrap S = S := by rw [IntKind.wrap_i64]; omega
  have jO2 : IntKind.i64.wrap O = O := by rw [IntKind.wrap_i64]; omega
  refine viaQ fun Q k => ?_
  obtain ⟨g, hg⟩ : ∃ g, s1.got S = g := ⟨_, rfl⟩
  rw [hS, hg] at hyp
  have q1 : (g != 0) = true := by simpa using hyp
  have jf : IntKind.i64.wrap ((f : Int) + 1) = (f : Int) + 1 := by rw [IntKind.wrap_i64]; omega
  go_enter Tryz.func29, Tryz.ntmps29
  go_wp2_with (go_at_call 34; refine (tLoad t0.two (by omega) S).mono ?_; rintro e w3 ⟨rfl, h3, o3⟩; rw [hg]; have t3 := t0.oth0 h3 o3; clear h3 o3; have d0 : w3.cell? ⟨q, 0, none⟩ = some (.int .i64 (f : Int)) := t3.blk.cell 0; have d1 : w3.cell? ⟨q, 1, none⟩ = some (.int .i64 0) := t3.blk.cell 1; have d2 : w3.cell? ⟨q, 2, none⟩ = some (.bool true) := t3.blk.cell 2; have d3 : w3.cell? ⟨q, 3, none⟩ = some (.int .u64 z) := t3.blk.cell 3; have e0 := t3.blk.free 0; have e1 := t3.blk.free 1; have e3 := t3.blk.free 3)
  refine k.out _ _ ?_
  have en : Mo.next (Mo.mk f 0 true z) s1 = ⟨f + 1, 0, true, z⟩ := by simp only [Mo.next, if_neg n3, Mo.S, Mo.O, hS, hO, hg]; simp [hyp]
  have em : Mo.mem (Mo.mk f 0 true z) s1 = s1.load S := by simp only [Mo.mem, if_neg n3, Mo.S, Mo.O, hS, hO]
  unfold Ml
  rw [en, em]
  exact ⟨⟨_, rfl⟩, ((t3.set 0 (.int .i64 ((f : Int) + 1))).set 1 (.int .i64 0)).two, ((t3.set 0 (.int .i64 ((f : Int) + 1))).set 1 (.int .i64 0)).blk.to (by simp [Mo.cells]), ((t3.set 0 (.int .i64 ((f : Int) + 1))).set 1 (.int .i64 0)).oth⟩
theorem m0b {f : Nat} {z : Int} (h : TwoT ow w0 w b y s1 s2 N) (B : Blk w0 w q 70 (Mo.mk f 0 true z).cells) (hN : N + 5 < 1000000) (hf : f < 3) (hz : U64 z) (hyp : s1.got (106 + 2 * (f : Int)) = 0) :
    Calls Tryz.prog 29 #[pt q, pt b] w fun e w' => Ml ow w0 w b y q ((Mo.mk f 0 true z).mem s1) s2 (N + 1) ((Mo.mk f 0 true z).next s1) e w' := by
  have n3 : ¬ f = 3 := by omega
  have n3' : ((f : Int) == 3) = false := by simpa using (show ¬ (f : Int) = 3 by omega)
  have B0 : Blk w0 w q 70 #[.int .i64 (f : Int), .int .i64 0, .bool true, .int .u64 z] := B
  have t0 : Mt ow w0 w w b y q s1 s2 N #[.int .i64 (f : Int), .int .i64 0, .bool true, .int .u64 z] := ⟨h, B0, Oth.refl _ _⟩
  have c0 : w.cell? ⟨q, 0, none⟩ = some (.int .i64 (f : Int)) := B0.cell 0
  have c1 : w.cell? ⟨q, 1, none⟩ = some (.int .i64 0) := B0.cell 1
  have c2 : w.cell? ⟨q, 2, none⟩ = some (.bool true) := B0.cell 2
  have c3 : w.cell? ⟨q, 3, none⟩ = some (.int .u64 z) := B0.cell 3
  have g0 := B0.free 0
  have g1 := B0.free 1
  have g3 := B0.free 3
  clear B B0
  have j2 : IntKind.i64.wrap (2 * (f : Int)) = 2 * (f : Int) := by rw [IntKind.wrap_i64]; omega
  obtain ⟨S, hS⟩ : ∃ S, (106 : Int) + 2 * (f : Int) = S := ⟨_, rfl⟩
  obtain ⟨O, hO⟩ : ∃ O, (97 : Int) + (f : Int) = O := ⟨_, rfl⟩
  have jS : IntKind.i64.wrap (106 + 2 * (f : Int)) = S := by rw [IntKind.wrap_i64]; omega
  have jO : IntKind.i64.wrap (97 + (f : Int)) = O := by rw [IntKind.wrap_i64]; omega
  have jS2 : IntKind.i64.wrap S = S := by rw [IntKind.wrap_i64]; omega
  have jO2 : IntKind.i64.wrap O = O := by rw [IntKind.wrap_i64]; omega
  refine viaQ fun Q k => ?_
  obtain ⟨g, hg⟩ : ∃ g, s1.got S = g := ⟨_, rfl⟩
  rw [hS, hg] at hyp
  have q1 : (g != 0) = false := by simpa using hyp
  have q2 : (g == 3) = false := by simp [hyp]
  have jf : IntKind.i64.wrap ((f : Int) + 1) = (f : Int) + 1 := by rw [IntKind.wrap_i64]; omega
  go_enter Tryz.func29, Tryz.ntmps29
  go_wp2_with (go_at_call 34; refine (tLoad t0.two (by omega) S).mono ?_; rintro e w3 ⟨rfl, h3, o3⟩; rw [hg]; have t3 := t0.oth0 h3 o3; clear h3 o3; have d0 : w3.cell? ⟨q, 0, none⟩ = some (.int .i64 (f : Int)) := t3.blk.cell 0; have d1 : w3.cell? ⟨q, 1, none⟩ = some (.int .i64 0) := t3.blk.cell 1; have d2 : w3.cell? ⟨q, 2, none⟩ = some (.bool true) := t3.blk.cell 2; have d3 : w3.cell? ⟨q, 3, none⟩ = some (.int .u64 z) := t3.blk.cell 3; have e0 := t3.blk.free 0; have e1 := t3.blk.free 1; have e3 := t3.blk.free 3)
  refine k.out _ _ ?_
  have en : Mo.next (Mo.mk f 0 true z) s1 = ⟨f, 1, true, z⟩ := by simp only [Mo.next, if_neg n3, Mo.S, Mo.O, hS, hO, hg]; simp [hyp]
  have em : Mo.mem (Mo.mk f 0 true z) s1 = s1.load S := by simp only [Mo.mem, if_neg n3, Mo.S, Mo.O, hS, hO]
  unfold Ml
  rw [en, em]
  exact ⟨⟨_, rfl⟩, (t3.set 1 (.int .i64 1)).two, (t3.set 1 (.int .i64 1)).blk.to (by simp [Mo.cells]), (t3.set 1 (.int .i64 1)).oth⟩
theorem m0c {f : Nat} {z : Int} (h : TwoT ow w0 w b y s1 s2 N) (B : Blk w0 w q 70 (Mo.mk f 0 false z).cells) (hN : N + 5 < 1000000) (hf : f < 3) (hz : U64 z) (hyp : s1.got (106 + 2 * (f : Int)) = 3) :
    Calls Tryz.prog 29 #[pt q, pt b] w fun e w' => Ml ow w0 w b y q ((Mo.mk f 0 false z).mem s1) s2 (N + 1) ((Mo.mk f 0 false z).next s1) e w' := by
  have n3 : ¬ f = 3 := by omega
  have n3' : ((f : Int) == 3) = false := by simpa using (show ¬ (f : Int) = 3 by omega)
  have B0 : Blk w0 w q 70 #[.int .i64 (f : Int), .int .i64 0, .bool false, .int .u64 z] := B
  have t0 : Mt ow w0 w w b y q s1 s2 N #[.int .i64 (f : Int), .int .i64 0, .bool false, .int .u64 z] := ⟨h, B0, Oth.refl _ _⟩
  have c0 : w.cell? ⟨q, 0, none⟩ = some (.int .i64 (f : Int)) := B0.cell 0
  have c1 : w.cell? ⟨q, 1, none⟩ = some (.int .i64 0) := B0.cell 1
  have c2 : w.cell? ⟨q, 2, none⟩ = some (.bool false) := B0.cell 2
  have c3 : w.cell? ⟨q, 3, none⟩ = some (.int .u64 z) := B0.cell 3
  have g0 := B0.free 0
  have g1 := B0.free 1
  have g3 := B0.free 3
  clear B B0
  have j2 : IntKind.i64.wrap (2 * (f : Int)) = 2 * (f : Int) := by rw [IntKind.wrap_i64]; omega
  obtain ⟨S, hS⟩ : ∃ S, (106 : Int) + 2 * (f : Int) = S := ⟨_, rfl⟩
  obtain ⟨O, hO⟩ : ∃ O, (97 : Int) + (f : Int) = O := ⟨_, rfl⟩
  have jS : IntKind.i64.wrap (106 + 2 * (f : Int)) = S := by rw [IntKind.wrap_i64]; omega
  have jO : IntKind.i64.wrap (97 + (f : Int)) = O := by rw [IntKind.wrap_i64]; omega
  have jS2 : IntKind.i64.wrap S = S := by rw [IntKind.wrap_i64]; omega
  have jO2 : IntKind.i64.wrap O = O := by rw [IntKind.wrap_i64]; omega
  refine viaQ fun Q k => ?_
  obtain ⟨g, hg⟩ : ∃ g, s1.got S = g := ⟨_, rfl⟩
  rw [hS, hg] at hyp
  have q2 : (g == 3) = true := by simp [hyp]
  have jf : IntKind.i64.wrap ((f : Int) + 1) = (f : Int) + 1 := by rw [IntKind.wrap_i64]; omega
  go_enter Tryz.func29, Tryz.ntmps29
  go_wp2_with (go_at_call 34; refine (tLoad t0.two (by omega) S).mono ?_; rintro e w3 ⟨rfl, h3, o3⟩; rw [hg]; have t3 := t0.oth0 h3 o3; clear h3 o3; have d0 : w3.cell? ⟨q, 0, none⟩ = some (.int .i64 (f : Int)) := t3.blk.cell 0; have d1 : w3.cell? ⟨q, 1, none⟩ = some (.int .i64 0) := t3.blk.cell 1; have d2 : w3.cell? ⟨q, 2, none⟩ = some (.bool false) := t3.blk.cell 2; have d3 : w3.cell? ⟨q, 3, none⟩ = some (.int .u64 z) := t3.blk.cell 3; have e0 := t3.blk.free 0; have e1 := t3.blk.free 1; have e3 := t3.blk.free 3)
  refine k.out _ _ ?_
  have en : Mo.next (Mo.mk f 0 false z) s1 = ⟨f + 1, 0, false, z⟩ := by simp only [Mo.next, if_neg n3, Mo.S, Mo.O, hS, hO, hg]; simp [hyp]
  have em : Mo.mem (Mo.mk f 0 false z) s1 = s1.load S := by simp only [Mo.mem, if_neg n3, Mo.S, Mo.O, hS, hO]
  unfold Ml
  rw [en, em]
  exact ⟨⟨_, rfl⟩, ((t3.set 0 (.int .i64 ((f : Int) + 1))).set 1 (.int .i64 0)).two, ((t3.set 0 (.int .i64 ((f : Int) + 1))).set 1 (.int .i64 0)).blk.to (by simp [Mo.cells]), ((t3.set 0 (.int .i64 ((f : Int) + 1))).set 1 (.int .i64 0)).oth⟩
theorem m0d {f : Nat} {z : Int} (h : TwoT ow w0 w b y s1 s2 N) (B : Blk w0 w q 70 (Mo.mk f 0 false z).cells) (hN : N + 5 < 1000000) (hf : f < 3) (hz : U64 z) (hyp : s1.got (106 + 2 * (f : Int)) = 2) :
    Calls Tryz.prog 29 #[pt q, pt b] w fun e w' => Ml ow w0 w b y q ((Mo.mk f 0 false z).mem s1) s2 (N + 1) ((Mo.mk f 0 false z).next s1) e w' := by
  have n3 : ¬ f = 3 := by omega
  have n3' : ((f : Int) == 3) = false := by simpa using (show ¬ (f : Int) = 3 by omega)
  have B0 : Blk w0 w q 70 #[.int .i64 (f : Int), .int .i64 0, .bool false, .int .u64 z] := B
  have t0 : Mt ow w0 w w b y q s1 s2 N #[.int .i64 (f : Int), .int .i64 0, .bool false, .int .u64 z] := ⟨h, B0, Oth.refl _ _⟩
  have c0 : w.cell? ⟨q, 0, none⟩ = some (.int .i64 (f : Int)) := B0.cell 0
  have c1 : w.cell? ⟨q, 1, none⟩ = some (.int .i64 0) := B0.cell 1
  have c2 : w.cell? ⟨q, 2, none⟩ = some (.bool false) := B0.cell 2
  have c3 : w.cell? ⟨q, 3, none⟩ = some (.int .u64 z) := B0.cell 3
  have g0 := B0.free 0
  have g1 := B0.free 1
  have g3 := B0.free 3
  clear B B0
  have j2 : IntKind.i64.wrap (2 * (f : Int)) = 2 * (f : Int) := by rw [IntKind.wrap_i64]; omega
  obtain ⟨S, hS⟩ : ∃ S, (106 : Int) + 2 * (f : Int) = S := ⟨_, rfl⟩
  obtain ⟨O, hO⟩ : ∃ O, (97 : Int) + (f : Int) = O := ⟨_, rfl⟩
  have jS : IntKind.i64.wrap (106 + 2 * (f : Int)) = S := by rw [IntKind.wrap_i64]; omega
  have jO : IntKind.i64.wrap (97 + (f : Int)) = O := by rw [IntKind.wrap_i64]; omega
  have jS2 : IntKind.i64.wrap S = S := by rw [IntKind.wrap_i64]; omega
  have jO2 : IntKind.i64.wrap O = O := by rw [IntKind.wrap_i64]; omega
  refine viaQ fun Q k => ?_
  obtain ⟨g, hg⟩ : ∃ g, s1.got S = g := ⟨_, rfl⟩
  rw [hS, hg] at hyp
  have q2 : (g == 3) = false := by simp [hyp]
  have q3 : (g == 2) = true := by simp [hyp]
  have jf : IntKind.i64.wrap ((f : Int) + 1) = (f : Int) + 1 := by rw [IntKind.wrap_i64]; omega
  go_enter Tryz.func29, Tryz.ntmps29
  go_wp2_with (go_at_call 34; refine (tLoad t0.two (by omega) S).mono ?_; rintro e w3 ⟨rfl, h3, o3⟩; rw [hg]; have t3 := t0.oth0 h3 o3; clear h3 o3; have d0 : w3.cell? ⟨q, 0, none⟩ = some (.int .i64 (f : Int)) := t3.blk.cell 0; have d1 : w3.cell? ⟨q, 1, none⟩ = some (.int .i64 0) := t3.blk.cell 1; have d2 : w3.cell? ⟨q, 2, none⟩ = some (.bool false) := t3.blk.cell 2; have d3 : w3.cell? ⟨q, 3, none⟩ = some (.int .u64 z) := t3.blk.cell 3; have e0 := t3.blk.free 0; have e1 := t3.blk.free 1; have e3 := t3.blk.free 3)
  refine k.out _ _ ?_
  have en : Mo.next (Mo.mk f 0 false z) s1 = ⟨f, 5, false, z⟩ := by simp only [Mo.next, if_neg n3, Mo.S, Mo.O, hS, hO, hg]; simp [hyp]
  have em : Mo.mem (Mo.mk f 0 false z) s1 = s1.load S := by simp only [Mo.mem, if_neg n3, Mo.S, Mo.O, hS, hO]
  unfold Ml
  rw [en, em]
  exact ⟨⟨_, rfl⟩, (t3.set 1 (.int .i64 5)).two, (t3.set 1 (.int .i64 5)).blk.to (by simp [Mo.cells]), (t3.set 1 (.int .i64 5)).oth⟩
theorem m0e {f : Nat} {z : Int} (h : TwoT ow w0 w b y s1 s2 N) (B : Blk w0 w q 70 (Mo.mk f 0 false z).cells) (hN : N + 5 < 1000000) (hf : f < 3) (hz : U64 z) (hyp : s1.got (106 + 2 * (f : Int)) ≠ 3 ∧ s1.got (106 + 2 * (f : Int)) ≠ 2) :
    Calls Tryz.prog 29 #[pt q, pt b] w fun e w' => Ml ow w0 w b y q ((Mo.mk f 0 false z).mem s1) s2 (N + 1) ((Mo.mk f 0 false z).next s1) e w' := by
  have n3 : ¬ f = 3 := by omega
  have n3' : ((f : Int) == 3) = false := by simpa using (show ¬ (f : Int) = 3 by omega)
  have B0 : Blk w0 w q 70 #[.int .i64 (f : Int), .int .i64 0, .bool false, .int .u64 z] := B
  have t0 : Mt ow w0 w w b y q s1 s2 N #[.int .i64 (f : Int), .int .i64 0, .bool false, .int .u64 z] := ⟨h, B0, Oth.refl _ _⟩
  have c0 : w.cell? ⟨q, 0, none⟩ = some (.int .i64 (f : Int)) := B0.cell 0
  have c1 : w.cell? ⟨q, 1, none⟩ = some (.int .i64 0) := B0.cell 1
  have c2 : w.cell? ⟨q, 2, none⟩ = some (.bool false) := B0.cell 2
  have c3 : w.cell? ⟨q, 3, none⟩ = some (.int .u64 z) := B0.cell 3
  have g0 := B0.free 0
  have g1 := B0.free 1
  have g3 := B0.free 3
  clear B B0
  have j2 : IntKind.i64.wrap (2 * (f : Int)) = 2 * (f : Int) := by rw [IntKind.wrap_i64]; omega
  obtain ⟨S, hS⟩ : ∃ S, (106 : Int) + 2 * (f : Int) = S := ⟨_, rfl⟩
  obtain ⟨O, hO⟩ : ∃ O, (97 : Int) + (f : Int) = O := ⟨_, rfl⟩
  have jS : IntKind.i64.wrap (106 + 2 * (f : Int)) = S := by rw [IntKind.wrap_i64]; omega
  have jO : IntKind.i64.wrap (97 + (f : Int)) = O := by rw [IntKind.wrap_i64]; omega
  have jS2 : IntKind.i64.wrap S = S := by rw [IntKind.wrap_i64]; omega
  have jO2 : IntKind.i64.wrap O = O := by rw [IntKind.wrap_i64]; omega
  refine viaQ fun Q k => ?_
  obtain ⟨g, hg⟩ : ∃ g, s1.got S = g := ⟨_, rfl⟩
  rw [hS, hg] at hyp
  have q2 : (g == 3) = false := by simpa using hyp.1
  have q3 : (g == 2) = false := by simpa using hyp.2
  have jf : IntKind.i64.wrap ((f : Int) + 1) = (f : Int) + 1 := by rw [IntKind.wrap_i64]; omega
  go_enter Tryz.func29, Tryz.ntmps29
  go_wp2_with (go_at_call 34; refine (tLoad t0.two (by omega) S).mono ?_; rintro e w3 ⟨rfl, h3, o3⟩; rw [hg]; have t3 := t0.oth0 h3 o3; clear h3 o3; have d0 : w3.cell? ⟨q, 0, none⟩ = some (.int .i64 (f : Int)) := t3.blk.cell 0; have d1 : w3.cell? ⟨q, 1, none⟩ = some (.int .i64 0) := t3.blk.cell 1; have d2 : w3.cell? ⟨q, 2, none⟩ = some (.bool false) := t3.blk.cell 2; have d3 : w3.cell? ⟨q, 3, none⟩ = some (.int .u64 z) := t3.blk.cell 3; have e0 := t3.blk.free 0; have e1 := t3.blk.free 1; have e3 := t3.blk.free 3)
  refine k.out _ _ ?_
  have en : Mo.next (Mo.mk f 0 false z) s1 = ⟨f, 3, false, z⟩ := by simp only [Mo.next, if_neg n3, Mo.S, Mo.O, hS, hO, hg]; simp [hyp]
  have em : Mo.mem (Mo.mk f 0 false z) s1 = s1.load S := by simp only [Mo.mem, if_neg n3, Mo.S, Mo.O, hS, hO]
  unfold Ml
  rw [en, em]
  exact ⟨⟨_, rfl⟩, (t3.set 1 (.int .i64 3)).two, (t3.set 1 (.int .i64 3)).blk.to (by simp [Mo.cells]), (t3.set 1 (.int .i64 3)).oth⟩
theorem m1t {f : Nat} {z : Int} {wd : Bool} (h : TwoT ow w0 w b y s1 s2 N) (B : Blk w0 w q 70 (Mo.mk f 1 wd z).cells) (hN : N + 5 < 1000000) (hf : f < 3) (hz : U64 z) (hyp : F.Plain.froz (s1.got (97 + (f : Int))) = true) :
    Calls Tryz.prog 29 #[pt q, pt b] w fun e w' => Ml ow w0 w b y q ((Mo.mk f 1 wd z).mem s1) s2 (N + 1) ((Mo.mk f 1 wd z).next s1) e w' := by
  have n3 : ¬ f = 3 := by omega
  have n3' : ((f : Int) == 3) = false := by simpa using (show ¬ (f : Int) = 3 by omega)
  have B0 : Blk w0 w q 70 #[.int .i64 (f : Int), .int .i64 1, .bool wd, .int .u64 z] := B
  have t0 : Mt ow w0 w w b y q s1 s2 N #[.int .i64 (f : Int), .int .i64 1, .bool wd, .int .u64 z] := ⟨h, B0, Oth.refl _ _⟩
  have c0 : w.cell? ⟨q, 0, none⟩ = some (.int .i64 (f : Int)) := B0.cell 0
  have c1 : w.cell? ⟨q, 1, none⟩ = some (.int .i64 1) := B0.cell 1
  have c2 : w.cell? ⟨q, 2, none⟩ = some (.bool wd) := B0.cell 2
  have c3 : w.cell? ⟨q, 3, none⟩ = some (.int .u64 z) := B0.cell 3
  have g0 := B0.free 0
  have g1 := B0.free 1
  have g3 := B0.free 3
  clear B B0
  have j2 : IntKind.i64.wrap (2 * (f : Int)) = 2 * (f : Int) := by rw [IntKind.wrap_i64]; omega
  obtain ⟨S, hS⟩ : ∃ S, (106 : Int) + 2 * (f : Int) = S := ⟨_, rfl⟩
  obtain ⟨O, hO⟩ : ∃ O, (97 : Int) + (f : Int) = O := ⟨_, rfl⟩
  have jS : IntKind.i64.wrap (106 + 2 * (f : Int)) = S := by rw [IntKind.wrap_i64]; omega
  have jO : IntKind.i64.wrap (97 + (f : Int)) = O := by rw [IntKind.wrap_i64]; omega
  have jS2 : IntKind.i64.wrap S = S := by rw [IntKind.wrap_i64]; omega
  have jO2 : IntKind.i64.wrap O = O := by rw [IntKind.wrap_i64]; omega
  refine viaQ fun Q k => ?_
  obtain ⟨g, hg⟩ : ∃ g, s1.got O = g := ⟨_, rfl⟩
  rw [hO, hg] at hyp
  have hfz := hyp
  have hU : U64 g := hg ▸ h.rng1.got _
  go_enter Tryz.func29, Tryz.ntmps29
  go_upto_region 18 with (go_at_call 34; refine (tLoad t0.two (by omega) O).mono ?_; rintro e w3 ⟨rfl, h3, o3⟩; rw [hg]; have t3 := t0.oth0 h3 o3; clear h3 o3; have d0 : w3.cell? ⟨q, 0, none⟩ = some (.int .i64 (f : Int)) := t3.blk.cell 0; have d1 : w3.cell? ⟨q, 1, none⟩ = some (.int .i64 1) := t3.blk.cell 1; have d2 : w3.cell? ⟨q, 2, none⟩ = some (.bool wd) := t3.blk.cell 2; have d3 : w3.cell? ⟨q, 3, none⟩ = some (.int .u64 z) := t3.blk.cell 3; have e0 := t3.blk.free 0; have e1 := t3.blk.free 1; have e3 := t3.blk.free 3)
  have t4 := t3.set 3 (.int .u64 g)
  clear d0 d1 d2 d3 e0 e1 e3
  generalize w3.setCell ⟨q, 3, none⟩ (.int .u64 g) = w4 at t4 ⊢
  have d0 : w4.cell? ⟨q, 0, none⟩ = some (.int .i64 (f : Int)) := t4.blk.cell 0
  have d1 : w4.cell? ⟨q, 1, none⟩ = some (.int .i64 1) := t4.blk.cell 1
  have d2 : w4.cell? ⟨q, 2, none⟩ = some (.bool wd) := t4.blk.cell 2
  have d3 : w4.cell? ⟨q, 3, none⟩ = some (.int .u64 g) := t4.blk.cell 3
  have e0 := t4.blk.free 0
  have e1 := t4.blk.free 1
  have e3 := t4.blk.free 3
  go_wp2_with (go_at_call 35; refine (F.rFrozen g hU.1 hU.2 _).mono ?_; rintro e wx ⟨rfl, hwx⟩; rw [hfz, hwx]; clear hwx wx)
  refine k.out _ _ ?_
  have en : Mo.next (Mo.mk f 1 wd z) s1 = ⟨f, 7, wd, g⟩ := by simp only [Mo.next, if_neg n3, Mo.S, Mo.O, hS, hO, hg, hfz]; rfl
  have em : Mo.mem (Mo.mk f 1 wd z) s1 = s1.load O := by simp only [Mo.mem, if_neg n3, Mo.S, Mo.O, hS, hO]
  unfold Ml
  rw [en, em]
  exact ⟨⟨_, rfl⟩, (t4.set 1 (.int .i64 7)).two, (t4.set 1 (.int .i64 7)).blk.to (by simp [Mo.cells]), (t4.set 1 (.int .i64 7)).oth⟩
theorem m1f {f : Nat} {z : Int} {wd : Bool} (h : TwoT ow w0 w b y s1 s2 N) (B : Blk w0 w q 70 (Mo.mk f 1 wd z).cells) (hN : N + 5 < 1000000) (hf : f < 3) (hz : U64 z) (hyp : F.Plain.froz (s1.got (97 + (f : Int))) = false) :
    Calls Tryz.prog 29 #[pt q, pt b] w fun e w' => Ml ow w0 w b y q ((Mo.mk f 1 wd z).mem s1) s2 (N + 1) ((Mo.mk f 1 wd z).next s1) e w' := by
  have n3 : ¬ f = 3 := by omega
  have n3' : ((f : Int) == 3) = false := by simpa using (show ¬ (f : Int) = 3 by omega)
  have B0 : Blk w0 w q 70 #[.int .i64 (f : Int), .int .i64 1, .bool wd, .int .u64 z] := B
  have t0 : Mt ow w0 w w b y q s1 s2 N #[.int .i64 (f : Int), .int .i64 1, .bool wd, .int .u64 z] := ⟨h, B0, Oth.refl _ _⟩
  have c0 : w.cell? ⟨q, 0, none⟩ = some (.int .i64 (f : Int)) := B0.cell 0
  have c1 : w.cell? ⟨q, 1, none⟩ = some (.int .i64 1) := B0.cell 1
  have c2 : w.cell? ⟨q, 2, none⟩ = some (.bool wd) := B0.cell 2
  have c3 : w.cell? ⟨q, 3, none⟩ = some (.int .u64 z) := B0.cell 3
  have g0 := B0.free 0
  have g1 := B0.free 1
  have g3 := B0.free 3
  clear B B0
  have j2 : IntKind.i64.wrap (2 * (f : Int)) = 2 * (f : Int) := by rw [IntKind.wrap_i64]; omega
  obtain ⟨S, hS⟩ : ∃ S, (106 : Int) + 2 * (f : Int) = S := ⟨_, rfl⟩
  obtain ⟨O, hO⟩ : ∃ O, (97 : Int) + (f : Int) = O := ⟨_, rfl⟩
  have jS : IntKind.i64.wrap (106 + 2 * (f : Int)) = S := by rw [IntKind.wrap_i64]; omega
  have jO : IntKind.i64.wrap (97 + (f : Int)) = O := by rw [IntKind.wrap_i64]; omega
  have jS2 : IntKind.i64.wrap S = S := by rw [IntKind.wrap_i64]; omega
  have jO2 : IntKind.i64.wrap O = O := by rw [IntKind.wrap_i64]; omega
  refine viaQ fun Q k => ?_
  obtain ⟨g, hg⟩ : ∃ g, s1.got O = g := ⟨_, rfl⟩
  rw [hO, hg] at hyp
  have hfz := hyp
  have hU : U64 g := hg ▸ h.rng1.got _
  go_enter Tryz.func29, Tryz.ntmps29
  go_upto_region 18 with (go_at_call 34; refine (tLoad t0.two (by omega) O).mono ?_; rintro e w3 ⟨rfl, h3, o3⟩; rw [hg]; have t3 := t0.oth0 h3 o3; clear h3 o3; have d0 : w3.cell? ⟨q, 0, none⟩ = some (.int .i64 (f : Int)) := t3.blk.cell 0; have d1 : w3.cell? ⟨q, 1, none⟩ = some (.int .i64 1) := t3.blk.cell 1; have d2 : w3.cell? ⟨q, 2, none⟩ = some (.bool wd) := t3.blk.cell 2; have d3 : w3.cell? ⟨q, 3, none⟩ = some (.int .u64 z) := t3.blk.cell 3; have e0 := t3.blk.free 0; have e1 := t3.blk.free 1; have e3 := t3.blk.free 3)
  have t4 := t3.set 3 (.int .u64 g)
  clear d0 d1 d2 d3 e0 e1 e3
  generalize w3.setCell ⟨q, 3, none⟩ (.int .u64 g) = w4 at t4 ⊢
  have d0 : w4.cell? ⟨q, 0, none⟩ = some (.int .i64 (f : Int)) := t4.blk.cell 0
  have d1 : w4.cell? ⟨q, 1, none⟩ = some (.int .i64 1) := t4.blk.cell 1
  have d2 : w4.cell? ⟨q, 2, none⟩ = some (.bool wd) := t4.blk.cell 2
  have d3 : w4.cell? ⟨q, 3, none⟩ = some (.int .u64 g) := t4.blk.cell 3
  have e0 := t4.blk.free 0
  have e1 := t4.blk.free 1
  have e3 := t4.blk.free 3
  go_wp2_with (go_at_call 35; refine (F.rFrozen g hU.1 hU.2 _).mono ?_; rintro e wx ⟨rfl, hwx⟩; rw [hfz, hwx]; clear hwx wx)
  refine k.out _ _ ?_
  have en : Mo.next (Mo.mk f 1 wd z) s1 = ⟨f, 2, wd, g⟩ := by simp only [Mo.next, if_neg n3, Mo.S, Mo.O, hS, hO, hg, hfz]; rfl
  have em : Mo.mem (Mo.mk f 1 wd z) s1 = s1.load O := by simp only [Mo.mem, if_neg n3, Mo.S, Mo.O, hS, hO]
  unfold Ml
  rw [en, em]
  exact ⟨⟨_, rfl⟩, (t4.set 1 (.int .i64 2)).two, (t4.set 1 (.int .i64 2)).blk.to (by simp [Mo.cells]), (t4.set 1 (.int .i64 2)).oth⟩
theorem m2 {f : Nat} {z : Int} {wd : Bool} (h : TwoT ow w0 w b y s1 s2 N) (B : Blk w0 w q 70 (Mo.mk f 2 wd z).cells) (hN : N + 5 < 1000000) (hf : f < 3) (hz : U64 z)  :
    Calls Tryz.prog 29 #[pt q, pt b] w fun e w' => Ml ow w0 w b y q ((Mo.mk f 2 wd z).mem s1) s2 (N + 1) ((Mo.mk f 2 wd z).next s1) e w' := by
  have n3 : ¬ f = 3 := by omega
  have n3' : ((f : Int) == 3) = false := by simpa using (show ¬ (f : Int) = 3 by omega)
  have B0 : Blk w0 w q 70 #[.int .i64 (f : Int), .int .i64 2, .bool wd, .int .u64 z] := B
  have t0 : Mt ow w0 w w b y q s1 s2 N #[.int .i64 (f : Int), .int .i64 2, .bool wd, .int .u64 z] := ⟨h, B0, Oth.refl _ _⟩
  have c0 : w.cell? ⟨q, 0, none⟩ = some (.int .i64 (f : Int)) := B0.cell 0
  have c1 : w.cell? ⟨q, 1, none⟩ = some (.int .i64 2) := B0.cell 1
  have c2 : w.cell? ⟨q, 2, none⟩ = some (.bool wd) := B0.cell 2
  have c3 : w.cell? ⟨q, 3, none⟩ = some (.int .u64 z) := B0.cell 3
  have g0 := B0.free 0
  have g1 := B0.free 1
  have g3 := B0.free 3
  clear B B0
  have j2 : IntKind.i64.wrap (2 * (f : Int)) = 2 * (f : Int) := by rw [IntKind.wrap_i64]; omega
  obtain ⟨S, hS⟩ : ∃ S, (106 : Int) + 2 * (f : Int) = S := ⟨_, rfl⟩
  obtain ⟨O, hO⟩ : ∃ O, (97 : Int) + (f : Int) = O := ⟨_, rfl⟩
  have jS : IntKind.i64.wrap (106 + 2 * (f : Int)) = S := by rw [IntKind.wrap_i64]; omega
  have jO : IntKind.i64.wrap (97 + (f : Int)) = O := by rw [IntKind.wrap_i64]; omega
  have jS2 : IntKind.i64.wrap S = S := by rw [IntKind.wrap_i64]; omega
  have jO2 : IntKind.i64.wrap O = O := by rw [IntKind.wrap_i64]; omega
  refine viaQ fun Q k => ?_
  go_enter Tryz.func29, Tryz.ntmps29
  go_upto_region 21 with (fail)
  clear c0 c1 c2 c3 g0 g1 g3
  have hbd : Below w.heap.size w w.drew := (Below.refl _ _).drew
  have td := t0.below hbd
  refine wp_region_noPanic ?_
  refine wp_region_held_drew (S := fun w' => w'.cell? ⟨q, 3, none⟩ = some (.int .u64 z)) (by kernel_rfl) (td.blk.cell 3) (fun hHeld => ?_)
  refine takeH (i := 0) 87 (pt b) rfl rfl (by kernel_rfl) (by kernel_rfl) (by kernel_rfl) (fun _ _ _ h => h) (by rfl) ?_ (by assumption) ?_
  · intro w hSw; (try dsimp only at hSw); go_simp
  simp only [List.setIfInBounds_toArray, List.set_cons_zero, List.set_cons_succ]
  refine takeH (i := 1) 88 (.int .i64 O) rfl rfl (by kernel_rfl) (by kernel_rfl) (by kernel_rfl) (fun _ _ _ h => h) (by rfl) ?_ (by assumption) ?_
  · intro w hSw; (try dsimp only at hSw); go_simp
  simp only [List.setIfInBounds_toArray, List.set_cons_zero, List.set_cons_succ]
  refine takeH (i := 2) 89 (pt q) rfl rfl (by kernel_rfl) (by kernel_rfl) (by kernel_rfl) (fun _ _ _ h => h) (by rfl) ?_ (by assumption) ?_
  · intro w hSw; (try dsimp only at hSw); go_simp
  simp only [List.setIfInBounds_toArray, List.set_cons_zero, List.set_cons_succ]
  refine takeH (i := 3) 90 (pt q) rfl rfl (by kernel_rfl) (by kernel_rfl) (by kernel_rfl) (fun _ _ _ h => h) (by rfl) ?_ (by assumption) ?_
  · intro w hSw; (try dsimp only at hSw); go_simp
  simp only [List.setIfInBounds_toArray, List.set_cons_zero, List.set_cons_succ]
  refine takeH (i := 4) 91 (.pointer (some ⟨q, 3, none⟩)) rfl rfl (by kernel_rfl) (by kernel_rfl) (by kernel_rfl) (fun _ _ _ h => h) (by rfl) ?_ (by assumption) ?_
  · intro w hSw; (try dsimp only at hSw); go_simp
  simp only [List.setIfInBounds_toArray, List.set_cons_zero, List.set_cons_succ]
  refine takeH (i := 5) 92 (.int .u64 z) rfl rfl (by kernel_rfl) (by kernel_rfl) (by kernel_rfl) (fun _ _ _ h => h) (by rfl) ?_ (by assumption) ?_
  · intro w hSw; (try dsimp only at hSw); go_simp
  simp only [List.setIfInBounds_toArray, List.set_cons_zero, List.set_cons_succ]
  refine takeH (i := 6) 93 (pt q) rfl rfl (by kernel_rfl) (by kernel_rfl) (by kernel_rfl) (fun _ _ _ h => h) (by rfl) ?_ (by assumption) ?_
  · intro w hSw; (try dsimp only at hSw); go_simp
  simp only [List.setIfInBounds_toArray, List.set_cons_zero, List.set_cons_succ]
  refine takeH (i := 7) 94 (pt q) rfl rfl (by kernel_rfl) (by kernel_rfl) (by kernel_rfl) (fun _ _ _ h => h) (by rfl) ?_ (by assumption) ?_
  · intro w hSw; (try dsimp only at hSw); go_simp
  simp only [List.setIfInBounds_toArray, List.set_cons_zero, List.set_cons_succ]
  refine takeH (i := 8) 95 (.pointer (some ⟨q, 3, none⟩)) rfl rfl (by kernel_rfl) (by kernel_rfl) (by kernel_rfl) (fun _ _ _ h => h) (by rfl) ?_ (by assumption) ?_
  · intro w hSw; (try dsimp only at hSw); go_simp
  simp only [List.setIfInBounds_toArray, List.set_cons_zero, List.set_cons_succ]
  refine takeH (i := 9) 96 (.int .u64 z) rfl rfl (by kernel_rfl) (by kernel_rfl) (by kernel_rfl) (fun _ _ _ h => h) (by rfl) ?_ (by assumption) ?_
  · intro w hSw; (try dsimp only at hSw); go_simp
  simp only [List.setIfInBounds_toArray, List.set_cons_zero, List.set_cons_succ]
  refine wpAnyH_ready (rs := [10]) (by kernel_rfl) (by simp) ?_
  refine AllReadyH.cons rfl (fun K hK => ?_) AllReadyH.nil
  go_simp
  refine (F.rFreeze z hz.1 hz.2 _).mono ?_
  rintro e wx ⟨rfl, hwx⟩
  rw [hwx]
  clear hwx wx
  refine hK.out _ _ (td.blk.cell 3) (fun hHeld => ?_)
  clear hK K
  try simp only [Act.put, List.setIfInBounds_toArray, List.set_cons_zero, List.set_cons_succ]
  refine wpAnyH_ready (rs := [11]) (by kernel_rfl) (by simp) ?_
  refine AllReadyH.cons rfl (fun K hK => ?_) AllReadyH.nil
  go_simp
  refine (tCAS td.two (by omega) O z (u64_fz hz)).mono ?_
  rintro e w3 ⟨rfl, h3, o3⟩
  have t3 := td.oth0 h3 o3
  clear h3 o3
  refine hK.out _ _ (t3.blk.cell 3) (fun hHeld => ?_)
  clear hK K
  try simp only [Act.put, List.setIfInBounds_toArray, List.set_cons_zero, List.set_cons_succ]
  refine wpAnyH_done (by kernel_rfl) ?_ _
  refine NoPanic.normal ?_
  have d0 : w3.cell? ⟨q, 0, none⟩ = some (.int .i64 (f : Int)) := t3.blk.cell 0
  have d1 : w3.cell? ⟨q, 1, none⟩ = some (.int .i64 2) := t3.blk.cell 1
  have d2 : w3.cell? ⟨q, 2, none⟩ = some (.bool wd) := t3.blk.cell 2
  have d3 : w3.cell? ⟨q, 3, none⟩ = some (.int .u64 z) := t3.blk.cell 3
  have e0 := t3.blk.free 0
  have e1 := t3.blk.free 1
  have e3 := t3.blk.free 3
  go_wp2
  refine k.out _ _ ?_
  have en : Mo.next (Mo.mk f 2 wd z) s1 = ⟨f, 1, wd, z⟩ := by simp only [Mo.next, if_neg n3, Mo.S, Mo.O, hS, hO]
  have em : Mo.mem (Mo.mk f 2 wd z) s1 = s1.cas O z (F.Plain.fz z) := by simp only [Mo.mem, if_neg n3, Mo.S, Mo.O, hS, hO]
  unfold Ml
  rw [en, em]
  exact ⟨⟨_, rfl⟩, (t3.set 1 (.int .i64 1)).two, (t3.set 1 (.int .i64 1)).blk.to (by simp [Mo.cells]), (t3.set 1 (.int .i64 1)).oth⟩
theorem m3 {f : Nat} {z : Int} {wd : Bool} (h : TwoT ow w0 w b y s1 s2 N) (B : Blk w0 w q 70 (Mo.mk f 3 wd z).cells) (hN : N + 5 < 1000000) (hf : f < 3) (hz : U64 z)  :
    Calls Tryz.prog 29 #[pt q, pt b] w fun e w' => Ml ow w0 w b y q ((Mo.mk f 3 wd z).mem s1) s2 (N + 1) ((Mo.mk f 3 wd z).next s1) e w' := by
  have n3 : ¬ f = 3 := by omega
  have n3' : ((f : Int) == 3) = false := by simpa using (show ¬ (f : Int) = 3 by omega)
  have B0 : Blk w0 w q 70 #[.int .i64 (f : Int), .int .i64 3, .bool wd, .int .u64 z] := B
  have t0 : Mt ow w0 w w b y q s1 s2 N #[.int .i64 (f : Int), .int .i64 3, .bool wd, .int .u64 z] := ⟨h, B0, Oth.refl _ _⟩
  have c0 : w.cell? ⟨q, 0, none⟩ = some (.int .i64 (f : Int)) := B0.cell 0
  have c1 : w.cell? ⟨q, 1, none⟩ = some (.int .i64 3) := B0.cell 1
  have c2 : w.cell? ⟨q, 2, none⟩ = some (.bool wd) := B0.cell 2
  have c3 : w.cell? ⟨q, 3, none⟩ = some (.int .u64 z) := B0.cell 3
  have g0 := B0.free 0
  have g1 := B0.free 1
  have g3 := B0.free 3
  clear B B0
  have j2 : IntKind.i64.wrap (2 * (f : Int)) = 2 * (f : Int) := by rw [IntKind.wrap_i64]; omega
  obtain ⟨S, hS⟩ : ∃ S, (106 : Int) + 2 * (f : Int) = S := ⟨_, rfl⟩
  obtain ⟨O, hO⟩ : ∃ O, (97 : Int) + (f : Int) = O := ⟨_, rfl⟩
  have jS : IntKind.i64.wrap (106 + 2 * (f : Int)) = S := by rw [IntKind.wrap_i64]; omega
  have jO : IntKind.i64.wrap (97 + (f : Int)) = O := by rw [IntKind.wrap_i64]; omega
  have jS2 : IntKind.i64.wrap S = S := by rw [IntKind.wrap_i64]; omega
  have jO2 : IntKind.i64.wrap O = O := by rw [IntKind.wrap_i64]; omega
  refine viaQ fun Q k => ?_
  obtain ⟨P1, hP1⟩ : ∃ P, S + 1 = P := ⟨_, rfl⟩
  have jP : IntKind.i64.wrap (S + 1) = P1 := by rw [IntKind.wrap_i64]; omega
  have jP2 : IntKind.i64.wrap P1 = P1 := by rw [IntKind.wrap_i64]; omega
  obtain ⟨g, hg⟩ : ∃ g, s1.got P1 = g := ⟨_, rfl⟩
  go_enter Tryz.func29, Tryz.ntmps29
  go_wp2_with (go_at_call 34; refine (tLoad t0.two (by omega) P1).mono ?_; rintro e w3 ⟨rfl, h3, o3⟩; rw [hg]; have t3 := t0.oth0 h3 o3; clear h3 o3; have d0 : w3.cell? ⟨q, 0, none⟩ = some (.int .i64 (f : Int)) := t3.blk.cell 0; have d1 : w3.cell? ⟨q, 1, none⟩ = some (.int .i64 3) := t3.blk.cell 1; have d2 : w3.cell? ⟨q, 2, none⟩ = some (.bool wd) := t3.blk.cell 2; have d3 : w3.cell? ⟨q, 3, none⟩ = some (.int .u64 z) := t3.blk.cell 3; have e0 := t3.blk.free 0; have e1 := t3.blk.free 1; have e3 := t3.blk.free 3)
  refine k.out _ _ ?_
  have en : Mo.next (Mo.mk f 3 wd z) s1 = ⟨f, 4, wd, g⟩ := by simp only [Mo.next, if_neg n3, Mo.S, Mo.O, hS, hO, hP1, hg]
  have em : Mo.mem (Mo.mk f 3 wd z) s1 = s1.load P1 := by simp only [Mo.mem, if_neg n3, Mo.S, Mo.O, hS, hO, hP1]
  unfold Ml
  rw [en, em]
  exact ⟨⟨_, rfl⟩, ((t3.set 3 (.int .u64 g)).set 1 (.int .i64 4)).two, ((t3.set 3 (.int .u64 g)).set 1 (.int .i64 4)).blk.to (by simp [Mo.cells]), ((t3.set 3 (.int .u64 g)).set 1 (.int .i64 4)).oth⟩
theorem m5 {f : Nat} {z : Int} {wd : Bool} (h : TwoT ow w0 w b y s1 s2 N) (B : Blk w0 w q 70 (Mo.mk f 5 wd z).cells) (hN : N + 5 < 1000000) (hf : f < 3) (hz : U64 z)  :
    Calls Tryz.prog 29 #[pt q, pt b] w fun e w' => Ml ow w0 w b y q ((Mo.mk f 5 wd z).mem s1) s2 (N + 1) ((Mo.mk f 5 wd z).next s1) e w' := by
  have n3 : ¬ f = 3 := by omega
  have n3' : ((f : Int) == 3) = false := by simpa using (show ¬ (f : Int) = 3 by omega)
  have B0 : Blk w0 w q 70 #[.int .i64 (f : Int), .int .i64 5, .bool wd, .int .u64 z] := B
  have t0 : Mt ow w0 w w b y q s1 s2 N #[.int .i64 (f : Int), .int .i64 5, .bool wd, .int .u64 z] := ⟨h, B0, Oth.refl _ _⟩
  have c0 : w.cell? ⟨q, 0, none⟩ = some (.int .i64 (f : Int)) := B0.cell 0
  have c1 : w.cell? ⟨q, 1, none⟩ = some (.int .i64 5) := B0.cell 1
  have c2 : w.cell? ⟨q, 2, none⟩ = some (.bool wd) := B0.cell 2
  have c3 : w.cell? ⟨q, 3, none⟩ = some (.int .u64 z) := B0.cell 3
  have g0 := B0.free 0
  have g1 := B0.free 1
  have g3 := B0.free 3
  clear B B0
  have j2 : IntKind.i64.wrap (2 * (f : Int)) = 2 * (f : Int) := by rw [IntKind.wrap_i64]; omega
  obtain ⟨S, hS⟩ : ∃ S, (106 : Int) + 2 * (f : Int) = S := ⟨_, rfl⟩
  obtain ⟨O, hO⟩ : ∃ O, (97 : Int) + (f : Int) = O := ⟨_, rfl⟩
  have jS : IntKind.i64.wrap (106 + 2 * (f : Int)) = S := by rw [IntKind.wrap_i64]; omega
  have jO : IntKind.i64.wrap (97 + (f : Int)) = O := by rw [IntKind.wrap_i64]; omega
  have jS2 : IntKind.i64.wrap S = S := by rw [IntKind.wrap_i64]; omega
  have jO2 : IntKind.i64.wrap O = O := by rw [IntKind.wrap_i64]; omega
  refine viaQ fun Q k => ?_
  obtain ⟨P1, hP1⟩ : ∃ P, S + 1 = P := ⟨_, rfl⟩
  have jP : IntKind.i64.wrap (S + 1) = P1 := by rw [IntKind.wrap_i64]; omega
  have jP2 : IntKind.i64.wrap P1 = P1 := by rw [IntKind.wrap_i64]; omega
  obtain ⟨g, hg⟩ : ∃ g, s1.got P1 = g := ⟨_, rfl⟩
  go_enter Tryz.func29, Tryz.ntmps29
  go_wp2_with (go_at_call 34; refine (tLoad t0.two (by omega) P1).mono ?_; rintro e w3 ⟨rfl, h3, o3⟩; rw [hg]; have t3 := t0.oth0 h3 o3; clear h3 o3; have d0 : w3.cell? ⟨q, 0, none⟩ = some (.int .i64 (f : Int)) := t3.blk.cell 0; have d1 : w3.cell? ⟨q, 1, none⟩ = some (.int .i64 5) := t3.blk.cell 1; have d2 : w3.cell? ⟨q, 2, none⟩ = some (.bool wd) := t3.blk.cell 2; have d3 : w3.cell? ⟨q, 3, none⟩ = some (.int .u64 z) := t3.blk.cell 3; have e0 := t3.blk.free 0; have e1 := t3.blk.free 1; have e3 := t3.blk.free 3)
  refine k.out _ _ ?_
  have en : Mo.next (Mo.mk f 5 wd z) s1 = ⟨f, 6, wd, g⟩ := by simp only [Mo.next, if_neg n3, Mo.S, Mo.O, hS, hO, hP1, hg]
  have em : Mo.mem (Mo.mk f 5 wd z) s1 = s1.load P1 := by simp only [Mo.mem, if_neg n3, Mo.S, Mo.O, hS, hO, hP1]
  unfold Ml
  rw [en, em]
  exact ⟨⟨_, rfl⟩, ((t3.set 3 (.int .u64 g)).set 1 (.int .i64 6)).two, ((t3.set 3 (.int .u64 g)).set 1 (.int .i64 6)).blk.to (by simp [Mo.cells]), ((t3.set 3 (.int .u64 g)).set 1 (.int .i64 6)).oth⟩
theorem m4 {f : Nat} {z : Int} {wd : Bool} (h : TwoT ow w0 w b y s1 s2 N) (B : Blk w0 w q 70 (Mo.mk f 4 wd z).cells) (hN : N + 5 < 1000000) (hf : f < 3) (hz : U64 z)  :
    Calls Tryz.prog 29 #[pt q, pt b] w fun e w' => Ml ow w0 w b y q ((Mo.mk f 4 wd z).mem s1) s2 (N + 1) ((Mo.mk f 4 wd z).next s1) e w' := by
  have n3 : ¬ f = 3 := by omega
  have n3' : ((f : Int) == 3) = false := by simpa using (show ¬ (f : Int) = 3 by omega)
  have B0 : Blk w0 w q 70 #[.int .i64 (f : Int), .int .i64 4, .bool wd, .int .u64 z] := B
  have t0 : Mt ow w0 w w b y q s1 s2 N #[.int .i64 (f : Int), .int .i64 4, .bool wd, .int .u64 z] := ⟨h, B0, Oth.refl _ _⟩
  have c0 : w.cell? ⟨q, 0, none⟩ = some (.int .i64 (f : Int)) := B0.cell 0
  have c1 : w.cell? ⟨q, 1, none⟩ = some (.int .i64 4) := B0.cell 1
  have c2 : w.cell? ⟨q, 2, none⟩ = some (.bool wd) := B0.cell 2
  have c3 : w.cell? ⟨q, 3, none⟩ = some (.int .u64 z) := B0.cell 3
  have g0 := B0.free 0
  have g1 := B0.free 1
  have g3 := B0.free 3
  clear B B0
  have j2 : IntKind.i64.wrap (2 * (f : Int)) = 2 * (f : Int) := by rw [IntKind.wrap_i64]; omega
  obtain ⟨S, hS⟩ : ∃ S, (106 : Int) + 2 * (f : Int) = S := ⟨_, rfl⟩
  obtain ⟨O, hO⟩ : ∃ O, (97 : Int) + (f : Int) = O := ⟨_, rfl⟩
  have jS : IntKind.i64.wrap (106 + 2 * (f : Int)) = S := by rw [IntKind.wrap_i64]; omega
  have jO : IntKind.i64.wrap (97 + (f : Int)) = O := by rw [IntKind.wrap_i64]; omega
  have jS2 : IntKind.i64.wrap S = S := by rw [IntKind.wrap_i64]; omega
  have jO2 : IntKind.i64.wrap O = O := by rw [IntKind.wrap_i64]; omega
  refine viaQ fun Q k => ?_
  go_enter Tryz.func29, Tryz.ntmps29
  go_upto_region 26 with (fail)
  clear c0 c1 c2 c3 g0 g1 g3
  have hbd : Below w.heap.size w w.drew := (Below.refl _ _).drew
  have td := t0.below hbd
  refine wp_region_noPanic ?_
  refine wp_region_held_drew (S := fun w' => w'.cell? ⟨q, 3, none⟩ = some (.int .u64 z)) (by kernel_rfl) (td.blk.cell 3) (fun hHeld => ?_)
  refine takeH (i := 0) 110 (pt b) rfl rfl (by kernel_rfl) (by kernel_rfl) (by kernel_rfl) (fun _ _ _ h => h) (by rfl) ?_ (by assumption) ?_
  · intro w hSw; (try dsimp only at hSw); go_simp
  simp only [List.setIfInBounds_toArray, List.set_cons_zero, List.set_cons_succ]
  refine takeH (i := 1) 111 (.int .i64 S) rfl rfl (by kernel_rfl) (by kernel_rfl) (by kernel_rfl) (fun _ _ _ h => h) (by rfl) ?_ (by assumption) ?_
  · intro w hSw; (try dsimp only at hSw); go_simp
  simp only [List.setIfInBounds_toArray, List.set_cons_zero, List.set_cons_succ]
  refine takeH (i := 2) 112 (pt q) rfl rfl (by kernel_rfl) (by kernel_rfl) (by kernel_rfl) (fun _ _ _ h => h) (by rfl) ?_ (by assumption) ?_
  · intro w hSw; (try dsimp only at hSw); go_simp
  simp only [List.setIfInBounds_toArray, List.set_cons_zero, List.set_cons_succ]
  refine takeH (i := 3) 113 (pt q) rfl rfl (by kernel_rfl) (by kernel_rfl) (by kernel_rfl) (fun _ _ _ h => h) (by rfl) ?_ (by assumption) ?_
  · intro w hSw; (try dsimp only at hSw); go_simp
  simp only [List.setIfInBounds_toArray, List.set_cons_zero, List.set_cons_succ]
  refine takeH (i := 4) 114 (.pointer (some ⟨q, 3, none⟩)) rfl rfl (by kernel_rfl) (by kernel_rfl) (by kernel_rfl) (fun _ _ _ h => h) (by rfl) ?_ (by assumption) ?_
  · intro w hSw; (try dsimp only at hSw); go_simp
  simp only [List.setIfInBounds_toArray, List.set_cons_zero, List.set_cons_succ]
  refine takeH (i := 5) 115 (.int .u64 z) rfl rfl (by kernel_rfl) (by kernel_rfl) (by kernel_rfl) (fun _ _ _ h => h) (by rfl) ?_ (by assumption) ?_
  · intro w hSw; (try dsimp only at hSw); go_simp
  simp only [List.setIfInBounds_toArray, List.set_cons_zero, List.set_cons_succ]
  refine takeH (i := 6) 116 (pt q) rfl rfl (by kernel_rfl) (by kernel_rfl) (by kernel_rfl) (fun _ _ _ h => h) (by rfl) ?_ (by assumption) ?_
  · intro w hSw; (try dsimp only at hSw); go_simp
  simp only [List.setIfInBounds_toArray, List.set_cons_zero, List.set_cons_succ]
  refine takeH (i := 7) 117 (pt q) rfl rfl (by kernel_rfl) (by kernel_rfl) (by kernel_rfl) (fun _ _ _ h => h) (by rfl) ?_ (by assumption) ?_
  · intro w hSw; (try dsimp only at hSw); go_simp
  simp only [List.setIfInBounds_toArray, List.set_cons_zero, List.set_cons_succ]
  refine takeH (i := 8) 118 (.pointer (some ⟨q, 3, none⟩)) rfl rfl (by kernel_rfl) (by kernel_rfl) (by kernel_rfl) (fun _ _ _ h => h) (by rfl) ?_ (by assumption) ?_
  · intro w hSw; (try dsimp only at hSw); go_simp
  simp only [List.setIfInBounds_toArray, List.set_cons_zero, List.set_cons_succ]
  refine takeH (i := 9) 119 (.int .u64 z) rfl rfl (by kernel_rfl) (by kernel_rfl) (by kernel_rfl) (fun _ _ _ h => h) (by rfl) ?_ (by assumption) ?_
  · intro w hSw; (try dsimp only at hSw); go_simp
  simp only [List.setIfInBounds_toArray, List.set_cons_zero, List.set_cons_succ]
  refine wpAnyH_ready (rs := [10]) (by kernel_rfl) (by simp) ?_
  refine AllReadyH.cons rfl (fun K hK => ?_) AllReadyH.nil
  go_simp
  refine (tCAS2 td.two (by omega) S 1 z ⟨by decide, by decide⟩ hz).mono ?_
  rintro e w3 ⟨rfl, h3, o3⟩
  have t3 := td.oth0 h3 o3
  clear h3 o3
  refine hK.out _ _ (t3.blk.cell 3) (fun hHeld => ?_)
  clear hK K
  try simp only [Act.put, List.setIfInBounds_toArray, List.set_cons_zero, List.set_cons_succ]
  refine wpAnyH_done (by kernel_rfl) ?_ _
  refine NoPanic.normal ?_
  have d0 : w3.cell? ⟨q, 0, none⟩ = some (.int .i64 (f : Int)) := t3.blk.cell 0
  have d1 : w3.cell? ⟨q, 1, none⟩ = some (.int .i64 4) := t3.blk.cell 1
  have d2 : w3.cell? ⟨q, 2, none⟩ = some (.bool wd) := t3.blk.cell 2
  have d3 : w3.cell? ⟨q, 3, none⟩ = some (.int .u64 z) := t3.blk.cell 3
  have e0 := t3.blk.free 0
  have e1 := t3.blk.free 1
  have e3 := t3.blk.free 3
  go_wp2
  refine k.out _ _ ?_
  have en : Mo.next (Mo.mk f 4 wd z) s1 = ⟨f, 0, wd, z⟩ := by simp only [Mo.next, if_neg n3, Mo.S, Mo.O, hS, hO]
  have em : Mo.mem (Mo.mk f 4 wd z) s1 = s1.cas2 S 1 z 2 z := by simp only [Mo.mem, if_neg n3, Mo.S, Mo.O, hS, hO]
  unfold Ml
  rw [en, em]
  exact ⟨⟨_, rfl⟩, (t3.set 1 (.int .i64 0)).two, (t3.set 1 (.int .i64 0)).blk.to (by simp [Mo.cells]), (t3.set 1 (.int .i64 0)).oth⟩
theorem m6 {f : Nat} {z : Int} {wd : Bool} (h : TwoT ow w0 w b y s1 s2 N) (B : Blk w0 w q 70 (Mo.mk f 6 wd z).cells) (hN : N + 5 < 1000000) (hf : f < 3) (hz : U64 z)  :
    Calls Tryz.prog 29 #[pt q, pt b] w fun e w' => Ml ow w0 w b y q ((Mo.mk f 6 wd z).mem s1) s2 (N + 1) ((Mo.mk f 6 wd z).next s1) e w' := by
  have n3 : ¬ f = 3 := by omega
  have n3' : ((f : Int) == 3) = false := by simpa using (show ¬ (f : Int) = 3 by omega)
  have B0 : Blk w0 w q 70 #[.int .i64 (f : Int), .int .i64 6, .bool wd, .int .u64 z] := B
  have t0 : Mt ow w0 w w b y q s1 s2 N #[.int .i64 (f : Int), .int .i64 6, .bool wd, .int .u64 z] := ⟨h, B0, Oth.refl _ _⟩
  have c0 : w.cell? ⟨q, 0, none⟩ = some (.int .i64 (f : Int)) := B0.cell 0
  have c1 : w.cell? ⟨q, 1, none⟩ = some (.int .i64 6) := B0.cell 1
  have c2 : w.cell? ⟨q, 2, none⟩ = some (.bool wd) := B0.cell 2
  have c3 : w.cell? ⟨q, 3, none⟩ = some (.int .u64 z) := B0.cell 3
  have g0 := B0.free 0
  have g1 := B0.free 1
  have g3 := B0.free 3
  clear B B0
  have j2 : IntKind.i64.wrap (2 * (f : Int)) = 2 * (f : Int) := by rw [IntKind.wrap_i64]; omega
  obtain ⟨S, hS⟩ : ∃ S, (106 : Int) + 2 * (f : Int) = S := ⟨_, rfl⟩
  obtain ⟨O, hO⟩ : ∃ O, (97 : Int) + (f : Int) = O := ⟨_, rfl⟩
  have jS : IntKind.i64.wrap (106 + 2 * (f : Int)) = S := by rw [IntKind.wrap_i64]; omega
  have jO : IntKind.i64.wrap (97 + (f : Int)) = O := by rw [IntKind.wrap_i64]; omega
  have jS2 : IntKind.i64.wrap S = S := by rw [IntKind.wrap_i64]; omega
  have jO2 : IntKind.i64.wrap O = O := by rw [IntKind.wrap_i64]; omega
  refine viaQ fun Q k => ?_
  obtain ⟨FA, hFA⟩ : ∃ F, (113 : Int) + (f : Int) = F := ⟨_, rfl⟩
  have jF : IntKind.i64.wrap (113 + (f : Int)) = FA := by rw [IntKind.wrap_i64]; omega
  have jF2 : IntKind.i64.wrap FA = FA := by rw [IntKind.wrap_i64]; omega
  go_enter Tryz.func29, Tryz.ntmps29
  go_upto_region 31 with (fail)
  clear c0 c1 c2 c3 g0 g1 g3
  have hbd : Below w.heap.size w w.drew := (Below.refl _ _).drew
  have td := t0.below hbd
  refine wp_region_noPanic ?_
  refine wp_region_held_drew (S := fun w' => w'.cell? ⟨q, 0, none⟩ = some (.int .i64 (f : Int)) ∧ w'.cell? ⟨q, 3, none⟩ = some (.int .u64 z)) (by kernel_rfl) ⟨td.blk.cell 0, td.blk.cell 3⟩ (fun hHeld => ?_)
  refine takeH (i := 0) 132 (pt b) rfl rfl (by kernel_rfl) (by kernel_rfl) (by kernel_rfl) (fun _ _ _ h => h) (by rfl) ?_ (by assumption) ?_
  · intro w hSw; (try dsimp only at hSw); go_simp
  simp only [List.setIfInBounds_toArray, List.set_cons_zero, List.set_cons_succ]
  refine takeH (i := 1) 133 (pt q) rfl rfl (by kernel_rfl) (by kernel_rfl) (by kernel_rfl) (fun _ _ _ h => h) (by rfl) ?_ (by assumption) ?_
  · intro w hSw; (try dsimp only at hSw); go_simp
  simp only [List.setIfInBounds_toArray, List.set_cons_zero, List.set_cons_succ]
  refine takeH (i := 2) 134 (pt q) rfl rfl (by kernel_rfl) (by kernel_rfl) (by kernel_rfl) (fun _ _ _ h => h) (by rfl) ?_ (by assumption) ?_
  · intro w hSw; (try dsimp only at hSw); go_simp
  simp only [List.setIfInBounds_toArray, List.set_cons_zero, List.set_cons_succ]
  refine takeH (i := 3) 135 (.pointer (some ⟨q, 0, none⟩)) rfl rfl (by kernel_rfl) (by kernel_rfl) (by kernel_rfl) (fun _ _ _ h => h) (by rfl) ?_ (by assumption) ?_
  · intro w hSw; (try dsimp only at hSw); go_simp
  simp only [List.setIfInBounds_toArray, List.set_cons_zero, List.set_cons_succ]
  refine takeH (i := 4) 136 (.int .i64 (f : Int)) rfl rfl (by kernel_rfl) (by kernel_rfl) (by kernel_rfl) (fun _ _ _ h => h) (by rfl) ?_ (by assumption) ?_
  · intro w hSw; (try dsimp only at hSw); go_simp
  simp only [List.setIfInBounds_toArray, List.set_cons_zero, List.set_cons_succ]
  refine takeH (i := 5) 137 (.int .i64 FA) rfl rfl (by kernel_rfl) (by kernel_rfl) (by kernel_rfl) (fun _ _ _ h => h) (by rfl) ?_ (by assumption) ?_
  · intro w hSw; (try dsimp only at hSw); go_simp
  simp only [List.setIfInBounds_toArray, List.set_cons_zero, List.set_cons_succ]
  refine takeH (i := 6) 138 (.agg #[.int .i64 2, .int .i64 0]) rfl rfl (by kernel_rfl) (by kernel_rfl) (by kernel_rfl) (fun _ _ _ h => h) (by rfl) ?_ (by assumption) ?_
  · intro w hSw; (try dsimp only at hSw); go_simp
  simp only [List.setIfInBounds_toArray, List.set_cons_zero, List.set_cons_succ]
  refine takeH (i := 8) 140 (pt q) rfl rfl (by kernel_rfl) (by kernel_rfl) (by kernel_rfl) (fun _ _ _ h => h) (by rfl) ?_ (by assumption) ?_
  · intro w hSw; (try dsimp only at hSw); go_simp
  simp only [List.setIfInBounds_toArray, List.set_cons_zero, List.set_cons_succ]
  refine takeH (i := 9) 141 (pt q) rfl rfl (by kernel_rfl) (by kernel_rfl) (by kernel_rfl) (fun _ _ _ h => h) (by rfl) ?_ (by assumption) ?_
  · intro w hSw; (try dsimp only at hSw); go_simp
  simp only [List.setIfInBounds_toArray, List.set_cons_zero, List.set_cons_succ]
  refine takeH (i := 10) 142 (.pointer (some ⟨q, 3, none⟩)) rfl rfl (by kernel_rfl) (by kernel_rfl) (by kernel_rfl) (fun _ _ _ h => h) (by rfl) ?_ (by assumption) ?_
  · intro w hSw; (try dsimp only at hSw); go_simp
  simp only [List.setIfInBounds_toArray, List.set_cons_zero, List.set_cons_succ]
  refine takeH (i := 11) 143 (.int .u64 z) rfl rfl (by kernel_rfl) (by kernel_rfl) (by kernel_rfl) (fun _ _ _ h => h) (by rfl) ?_ (by assumption) ?_
  · intro w hSw; (try dsimp only at hSw); go_simp
  simp only [List.setIfInBounds_toArray, List.set_cons_zero, List.set_cons_succ]
  refine wpAnyH_ready (rs := [7]) (by kernel_rfl) (by simp) ?_
  refine AllReadyH.cons rfl (fun K hK => ?_) AllReadyH.nil
  go_simp
  refine (F.rWord 2 0 _).mono ?_
  rintro e w2 ⟨rfl, mz, hw2⟩
  rw [show F.Plain.word 2 0 = 2 by decide]
  have hb2 : Below w.drew.heap.size w.drew w2 := (by rw [hw2]; exact F.bdr ((Below.refl _ _).alloc (Nat.le_refl _) _) _)
  have t2 := td.below hb2
  clear hw2
  refine hK.out _ _ ⟨t2.blk.cell 0, t2.blk.cell 3⟩ (fun hHeld => ?_)
  clear hK K
  try simp only [Act.put, List.setIfInBounds_toArray, List.set_cons_zero, List.set_cons_succ]
  refine wpAnyH_ready (rs := [12]) (by kernel_rfl) (by simp) ?_
  refine AllReadyH.cons rfl (fun K hK => ?_) AllReadyH.nil
  go_simp
  refine (tCAS t2.two (by omega) FA 2 hz).mono ?_
  rintro e w3 ⟨rfl, h3, o3⟩
  have t3 := t2.oth0 h3 o3
  clear h3 o3
  refine hK.out _ _ ⟨t3.blk.cell 0, t3.blk.cell 3⟩ (fun hHeld => ?_)
  clear hK K
  try simp only [Act.put, List.setIfInBounds_toArray, List.set_cons_zero, List.set_cons_succ]
  refine wpAnyH_done (by kernel_rfl) ?_ _
  refine NoPanic.normal ?_
  have d0 : w3.cell? ⟨q, 0, none⟩ = some (.int .i64 (f : Int)) := t3.blk.cell 0
  have d1 : w3.cell? ⟨q, 1, none⟩ = some (.int .i64 6) := t3.blk.cell 1
  have d2 : w3.cell? ⟨q, 2, none⟩ = some (.bool wd) := t3.blk.cell 2
  have d3 : w3.cell? ⟨q, 3, none⟩ = some (.int .u64 z) := t3.blk.cell 3
  have e0 := t3.blk.free 0
  have e1 := t3.blk.free 1
  have e3 := t3.blk.free 3
  go_wp2
  refine k.out _ _ ?_
  have en : Mo.next (Mo.mk f 6 wd z) s1 = ⟨f, 8, wd, z⟩ := by simp only [Mo.next, if_neg n3, Mo.S, Mo.O, hS, hO]
  have em : Mo.mem (Mo.mk f 6 wd z) s1 = s1.cas FA 2 z := by simp only [Mo.mem, if_neg n3, Mo.S, Mo.O, hS, hO, hFA]
  unfold Ml
  rw [en, em]
  exact ⟨⟨_, rfl⟩, (t3.set 1 (.int .i64 8)).two, (t3.set 1 (.int .i64 8)).blk.to (by simp [Mo.cells]), (t3.set 1 (.int .i64 8)).oth⟩
theorem m7 {f : Nat} {z : Int} {wd : Bool} (h : TwoT ow w0 w b y s1 s2 N) (B : Blk w0 w q 70 (Mo.mk f 7 wd z).cells) (hN : N + 5 < 1000000) (hf : f < 3) (hz : U64 z)  :
    Calls Tryz.prog 29 #[pt q, pt b] w fun e w' => Ml ow w0 w b y q ((Mo.mk f 7 wd z).mem s1) s2 (N + 1) ((Mo.mk f 7 wd z).next s1) e w' := by
  have n3 : ¬ f = 3 := by omega
  have n3' : ((f : Int) == 3) = false := by simpa using (show ¬ (f : Int) = 3 by omega)
  have B0 : Blk w0 w q 70 #[.int .i64 (f : Int), .int .i64 7, .bool wd, .int .u64 z] := B
  have t0 : Mt ow w0 w w b y q s1 s2 N #[.int .i64 (f : Int), .int .i64 7, .bool wd, .int .u64 z] := ⟨h, B0, Oth.refl _ _⟩
  have c0 : w.cell? ⟨q, 0, none⟩ = some (.int .i64 (f : Int)) := B0.cell 0
  have c1 : w.cell? ⟨q, 1, none⟩ = some (.int .i64 7) := B0.cell 1
  have c2 : w.cell? ⟨q, 2, none⟩ = some (.bool wd) := B0.cell 2
  have c3 : w.cell? ⟨q, 3, none⟩ = some (.int .u64 z) := B0.cell 3
  have g0 := B0.free 0
  have g1 := B0.free 1
  have g3 := B0.free 3
  clear B B0
  have j2 : IntKind.i64.wrap (2 * (f : Int)) = 2 * (f : Int) := by rw [IntKind.wrap_i64]; omega
  obtain ⟨S, hS⟩ : ∃ S, (106 : Int) + 2 * (f : Int) = S := ⟨_, rfl⟩
  obtain ⟨O, hO⟩ : ∃ O, (97 : Int) + (f : Int) = O := ⟨_, rfl⟩
  have jS : IntKind.i64.wrap (106 + 2 * (f : Int)) = S := by rw [IntKind.wrap_i64]; omega
  have jO : IntKind.i64.wrap (97 + (f : Int)) = O := by rw [IntKind.wrap_i64]; omega
  have jS2 : IntKind.i64.wrap S = S := by rw [IntKind.wrap_i64]; omega
  have jO2 : IntKind.i64.wrap O = O := by rw [IntKind.wrap_i64]; omega
  refine viaQ fun Q k => ?_
  go_enter Tryz.func29, Tryz.ntmps29
  go_wp2_with (first
    | (go_at_call 58; refine (F.rThaw z hz.1 hz.2 _).mono ?_; rintro e wx ⟨rfl, hwx⟩; rw [hwx]; clear hwx wx)
    | (go_at_call 63; refine (tCAS2 t0.two (by omega) S 0 0 ⟨by decide, by decide⟩ (u64_th hz)).mono ?_; rintro e w3 ⟨rfl, h3, o3⟩; have t3 := t0.oth0 h3 o3; clear h3 o3; have d0 : w3.cell? ⟨q, 0, none⟩ = some (.int .i64 (f : Int)) := t3.blk.cell 0; have d1 : w3.cell? ⟨q, 1, none⟩ = some (.int .i64 7) := t3.blk.cell 1; have d2 : w3.cell? ⟨q, 2, none⟩ = some (.bool wd) := t3.blk.cell 2; have d3 : w3.cell? ⟨q, 3, none⟩ = some (.int .u64 z) := t3.blk.cell 3; have e0 := t3.blk.free 0; have e1 := t3.blk.free 1; have e3 := t3.blk.free 3))
  refine k.out _ _ ?_
  have en : Mo.next (Mo.mk f 7 wd z) s1 = ⟨f, 0, wd, z⟩ := by simp only [Mo.next, if_neg n3, Mo.S, Mo.O, hS, hO]
  have em : Mo.mem (Mo.mk f 7 wd z) s1 = s1.cas2 S 0 0 1 (F.Plain.th z) := by simp only [Mo.mem, if_neg n3, Mo.S, Mo.O, hS, hO]
  unfold Ml
  rw [en, em]
  exact ⟨⟨_, rfl⟩, (t3.set 1 (.int .i64 0)).two, (t3.set 1 (.int .i64 0)).blk.to (by simp [Mo.cells]), (t3.set 1 (.int .i64 0)).oth⟩
theorem m8 {f : Nat} {z : Int} {wd : Bool} (h : TwoT ow w0 w b y s1 s2 N) (B : Blk w0 w q 70 (Mo.mk f 8 wd z).cells) (hN : N + 5 < 1000000) (hf : f < 3) (hz : U64 z)  :
    Calls Tryz.prog 29 #[pt q, pt b] w fun e w' => Ml ow w0 w b y q ((Mo.mk f 8 wd z).mem s1) s2 (N + 1) ((Mo.mk f 8 wd z).next s1) e w' := by
  have n3 : ¬ f = 3 := by omega
  have n3' : ((f : Int) == 3) = false := by simpa using (show ¬ (f : Int) = 3 by omega)
  have B0 : Blk w0 w q 70 #[.int .i64 (f : Int), .int .i64 8, .bool wd, .int .u64 z] := B
  have t0 : Mt ow w0 w w b y q s1 s2 N #[.int .i64 (f : Int), .int .i64 8, .bool wd, .int .u64 z] := ⟨h, B0, Oth.refl _ _⟩
  have c0 : w.cell? ⟨q, 0, none⟩ = some (.int .i64 (f : Int)) := B0.cell 0
  have c1 : w.cell? ⟨q, 1, none⟩ = some (.int .i64 8) := B0.cell 1
  have c2 : w.cell? ⟨q, 2, none⟩ = some (.bool wd) := B0.cell 2
  have c3 : w.cell? ⟨q, 3, none⟩ = some (.int .u64 z) := B0.cell 3
  have g0 := B0.free 0
  have g1 := B0.free 1
  have g3 := B0.free 3
  clear B B0
  have j2 : IntKind.i64.wrap (2 * (f : Int)) = 2 * (f : Int) := by rw [IntKind.wrap_i64]; omega
  obtain ⟨S, hS⟩ : ∃ S, (106 : Int) + 2 * (f : Int) = S := ⟨_, rfl⟩
  obtain ⟨O, hO⟩ : ∃ O, (97 : Int) + (f : Int) = O := ⟨_, rfl⟩
  have jS : IntKind.i64.wrap (106 + 2 * (f : Int)) = S := by rw [IntKind.wrap_i64]; omega
  have jO : IntKind.i64.wrap (97 + (f : Int)) = O := by rw [IntKind.wrap_i64]; omega
  have jS2 : IntKind.i64.wrap S = S := by rw [IntKind.wrap_i64]; omega
  have jO2 : IntKind.i64.wrap O = O := by rw [IntKind.wrap_i64]; omega
  refine viaQ fun Q k => ?_
  go_enter Tryz.func29, Tryz.ntmps29
  go_upto_region 37 with (fail)
  clear c0 c1 c2 c3 g0 g1 g3
  have hbd : Below w.heap.size w w.drew := (Below.refl _ _).drew
  have td := t0.below hbd
  refine wp_region_noPanic ?_
  refine wp_region_held_drew (S := fun w' => w'.cell? ⟨q, 3, none⟩ = some (.int .u64 z)) (by kernel_rfl) (td.blk.cell 3) (fun hHeld => ?_)
  refine takeH (i := 0) 157 (pt b) rfl rfl (by kernel_rfl) (by kernel_rfl) (by kernel_rfl) (fun _ _ _ h => h) (by rfl) ?_ (by assumption) ?_
  · intro w hSw; (try dsimp only at hSw); go_simp
  simp only [List.setIfInBounds_toArray, List.set_cons_zero, List.set_cons_succ]
  refine takeH (i := 1) 158 (.int .i64 S) rfl rfl (by kernel_rfl) (by kernel_rfl) (by kernel_rfl) (fun _ _ _ h => h) (by rfl) ?_ (by assumption) ?_
  · intro w hSw; (try dsimp only at hSw); go_simp
  simp only [List.setIfInBounds_toArray, List.set_cons_zero, List.set_cons_succ]
  refine takeH (i := 2) 159 (pt q) rfl rfl (by kernel_rfl) (by kernel_rfl) (by kernel_rfl) (fun _ _ _ h => h) (by rfl) ?_ (by assumption) ?_
  · intro w hSw; (try dsimp only at hSw); go_simp
  simp only [List.setIfInBounds_toArray, List.set_cons_zero, List.set_cons_succ]
  refine takeH (i := 3) 160 (pt q) rfl rfl (by kernel_rfl) (by kernel_rfl) (by kernel_rfl) (fun _ _ _ h => h) (by rfl) ?_ (by assumption) ?_
  · intro w hSw; (try dsimp only at hSw); go_simp
  simp only [List.setIfInBounds_toArray, List.set_cons_zero, List.set_cons_succ]
  refine takeH (i := 4) 161 (.pointer (some ⟨q, 3, none⟩)) rfl rfl (by kernel_rfl) (by kernel_rfl) (by kernel_rfl) (fun _ _ _ h => h) (by rfl) ?_ (by assumption) ?_
  · intro w hSw; (try dsimp only at hSw); go_simp
  simp only [List.setIfInBounds_toArray, List.set_cons_zero, List.set_cons_succ]
  refine takeH (i := 5) 162 (.int .u64 z) rfl rfl (by kernel_rfl) (by kernel_rfl) (by kernel_rfl) (fun _ _ _ h => h) (by rfl) ?_ (by assumption) ?_
  · intro w hSw; (try dsimp only at hSw); go_simp
  simp only [List.setIfInBounds_toArray, List.set_cons_zero, List.set_cons_succ]
  refine takeH (i := 6) 163 (pt q) rfl rfl (by kernel_rfl) (by kernel_rfl) (by kernel_rfl) (fun _ _ _ h => h) (by rfl) ?_ (by assumption) ?_
  · intro w hSw; (try dsimp only at hSw); go_simp
  simp only [List.setIfInBounds_toArray, List.set_cons_zero, List.set_cons_succ]
  refine takeH (i := 7) 164 (pt q) rfl rfl (by kernel_rfl) (by kernel_rfl) (by kernel_rfl) (fun _ _ _ h => h) (by rfl) ?_ (by assumption) ?_
  · intro w hSw; (try dsimp only at hSw); go_simp
  simp only [List.setIfInBounds_toArray, List.set_cons_zero, List.set_cons_succ]
  refine takeH (i := 8) 165 (.pointer (some ⟨q, 3, none⟩)) rfl rfl (by kernel_rfl) (by kernel_rfl) (by kernel_rfl) (fun _ _ _ h => h) (by rfl) ?_ (by assumption) ?_
  · intro w hSw; (try dsimp only at hSw); go_simp
  simp only [List.setIfInBounds_toArray, List.set_cons_zero, List.set_cons_succ]
  refine takeH (i := 9) 166 (.int .u64 z) rfl rfl (by kernel_rfl) (by kernel_rfl) (by kernel_rfl) (fun _ _ _ h => h) (by rfl) ?_ (by assumption) ?_
  · intro w hSw; (try dsimp only at hSw); go_simp
  simp only [List.setIfInBounds_toArray, List.set_cons_zero, List.set_cons_succ]
  refine wpAnyH_ready (rs := [10]) (by kernel_rfl) (by simp) ?_
  refine AllReadyH.cons rfl (fun K hK => ?_) AllReadyH.nil
  go_simp
  refine (tCAS2 td.two (by omega) S 2 z ⟨by decide, by decide⟩ hz).mono ?_
  rintro e w3 ⟨rfl, h3, o3⟩
  have t3 := td.oth0 h3 o3
  clear h3 o3
  refine hK.out _ _ (t3.blk.cell 3) (fun hHeld => ?_)
  clear hK K
  try simp only [Act.put, List.setIfInBounds_toArray, List.set_cons_zero, List.set_cons_succ]
  refine wpAnyH_done (by kernel_rfl) ?_ _
  refine NoPanic.normal ?_
  have d0 : w3.cell? ⟨q, 0, none⟩ = some (.int .i64 (f : Int)) := t3.blk.cell 0
  have d1 : w3.cell? ⟨q, 1, none⟩ = some (.int .i64 8) := t3.blk.cell 1
  have d2 : w3.cell? ⟨q, 2, none⟩ = some (.bool wd) := t3.blk.cell 2
  have d3 : w3.cell? ⟨q, 3, none⟩ = some (.int .u64 z) := t3.blk.cell 3
  have e0 := t3.blk.free 0
  have e1 := t3.blk.free 1
  have e3 := t3.blk.free 3
  go_wp2
  refine k.out _ _ ?_
  have en : Mo.next (Mo.mk f 8 wd z) s1 = ⟨f, 0, wd, z⟩ := by simp only [Mo.next, if_neg n3, Mo.S, Mo.O, hS, hO]
  have em : Mo.mem (Mo.mk f 8 wd z) s1 = s1.cas2 S 2 z 3 z := by simp only [Mo.mem, if_neg n3, Mo.S, Mo.O, hS, hO]
  unfold Ml
  rw [en, em]
  exact ⟨⟨_, rfl⟩, (t3.set 1 (.int .i64 0)).two, (t3.set 1 (.int .i64 0)).blk.to (by simp [Mo.cells]), (t3.set 1 (.int .i64 0)).oth⟩
theorem mEnd {pc : Nat} {z : Int} {wd : Bool} (h : TwoT ow w0 w b y s1 s2 N) (B : Blk w0 w q 70 (Mo.mk 3 pc wd z).cells) : Calls Tryz.prog 29 #[pt q, pt b] w fun e w' => e = .returned (.bool true) ∧ w' = w := by
  have c0 : w.cell? ⟨q, 0, none⟩ = some (.int .i64 3) := B.cell 0
  go_enter Tryz.func29, Tryz.ntmps29
  go_wp2
  go_ret
  exact ⟨rfl, rfl⟩
/-- it steps -/
theorem tMv {m : Mo} (h : TwoT ow w0 w b y s1 s2 N) (B : Blk w0 w q 70 m.cells) (ok : m.Ok) (hN : N + 5 < 1000000) :
    Calls Tryz.prog 29 #[pt q, pt b] w fun e w' => (∃ d, e = .returned (.bool d)) ∧ TwoT ow w0 w' b y (m.mem s1) s2 (N + 1) ∧ Blk w0 w' q 70 (m.next s1).cells ∧ Oth [q] w w' := by
  obtain ⟨f, pc, wd, z⟩ := m
  obtain ⟨h1, h2, hz⟩ := ok
  simp only at h1 h2 hz
  have fin : ∀ {m : Mo} {e : Ending} {w' : World}, Ml ow w0 w b y q (m.mem s1) s2 (N + 1) (m.next s1) e w' → (∃ d, e = .returned (.bool d)) ∧ TwoT ow w0 w' b y (m.mem s1) s2 (N + 1) ∧ Blk w0 w' q 70 (m.next s1).cells ∧ Oth [q] w w' := fun ⟨a, t⟩ => ⟨a, t.two, t.blk, t.oth⟩
  by_cases h3 : f = 3
  · subst h3
    refine (mEnd h B).mono ?_
    rintro e w' ⟨rfl, rfl⟩
    exact ⟨⟨_, rfl⟩, h.mono (by omega), B, Oth.refl _ _⟩
  have hf : f < 3 := by omega
  rcases (show pc = 0 ∨ pc = 1 ∨ pc = 2 ∨ pc = 3 ∨ pc = 4 ∨ pc = 5 ∨ pc = 6 ∨ pc = 7 ∨ pc = 8 by omega) with rfl | rfl | rfl | rfl | rfl | rfl | rfl | rfl | rfl
  · rcases wd with _ | _
    · by_cases e3 : s1.got (106 + 2 * (f : Int)) = 3
      · exact (m0c h B hN hf hz e3).mono fun _ _ => fin
      · by_cases e2 : s1.got (106 + 2 * (f : Int)) = 2
        · exact (m0d h B hN hf hz e2).mono fun _ _ => fin
        · exact (m0e h B hN hf hz ⟨e3, e2⟩).mono fun _ _ => fin
    · by_cases e0 : s1.got (106 + 2 * (f : Int)) = 0
      · exact (m0b h B hN hf hz e0).mono fun _ _ => fin
      · exact (m0a h B hN hf hz e0).mono fun _ _ => fin
  · rcases hq : F.Plain.froz (s1.got (97 + (f : Int))) with _ | _
    · exact (m1f h B hN hf hz hq).mono fun _ _ => fin
    · exact (m1t h B hN hf hz hq).mono fun _ _ => fin
  · exact (m2 h B hN hf hz).mono fun _ _ => fin
  · exact (m3 h B hN hf hz).mono fun _ _ => fin
  · exact (m4 h B hN hf hz).mono fun _ _ => fin
  · exact (m5 h B hN hf hz).mono fun _ _ => fin
  · exact (m6 h B hN hf hz).mono fun _ _ => fin
  · exact (m7 h B hN hf hz).mono fun _ _ => fin
  · exact (m8 h B hN hf hz).mono fun _ _ => fin
end
end Go.Proofs.YtpcoldpphihfmaaGreatDoor
