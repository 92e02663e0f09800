/-
  A Next that lies within a block of another one.
-/
import Derived.Test.YtoablodmodnamaaDoorGiq
namespace Go.Proofs.YtoablodmodnamaaDoor
set_option linter.unusedVariables false
set_option maxRecDepth 100000
open Go.ChangeShapes Go.WideShapes Go.RowKit
open S.Plain (t0 t1 tw nx)
open H.Plain (hw pS pC pN pM pG pT pL)

section
variable {TM T : TypeId} {w : World} {L : Loc} {s : St} {p o : Nat} {la lb : List Value}
theorem AtI.putN {a0 a1 a2 a3 a4 a5 a6 a7 a8 a9 a10 : Value} (A : AtI TM w L s p T la lb o #[a0, a1, a2, a3, a4, a5, a6, a7, a8, a9, a10]) (v0 v1 v2 v3 v4 v5 v6 : Value) :
    AtI TM (((((((w.setCell ⟨p, o + 2, none⟩ v0).setCell ⟨p, o + 3, none⟩ v1).setCell ⟨p, o + 4, none⟩ v2).setCell ⟨p, o + 5, none⟩ v3).setCell ⟨p, o + 6, none⟩ v4).setCell ⟨p, o + 7, none⟩ v5).setCell ⟨p, o + 8, none⟩ v6) L s p T la lb o #[a0, a1, v0, v1, v2, v3, v4, v5, v6, a9, a10] := by
  have A1 : AtI TM (w.setCell ⟨p, o + 2, none⟩ v0) L s p T la lb o #[a0, a1, v0, a3, a4, a5, a6, a7, a8, a9, a10] := A.set 2 v0
  have A2 : AtI TM ((w.setCell ⟨p, o + 2, none⟩ v0).setCell ⟨p, o + 3, none⟩ v1) L s p T la lb o #[a0, a1, v0, v1, a4, a5, a6, a7, a8, a9, a10] := A1.set 3 v1
  have A3 : AtI TM (((w.setCell ⟨p, o + 2, none⟩ v0).setCell ⟨p, o + 3, none⟩ v1).setCell ⟨p, o + 4, none⟩ v2) L s p T la lb o #[a0, a1, v0, v1, v2, a5, a6, a7, a8, a9, a10] := A2.set 4 v2
  have A4 : AtI TM ((((w.setCell ⟨p, o + 2, none⟩ v0).setCell ⟨p, o + 3, none⟩ v1).setCell ⟨p, o + 4, none⟩ v2).setCell ⟨p, o + 5, none⟩ v3) L s p T la lb o #[a0, a1, v0, v1, v2, v3, a6, a7, a8, a9, a10] := A3.set 5 v3
  have A5 : AtI TM (((((w.setCell ⟨p, o + 2, none⟩ v0).setCell ⟨p, o + 3, none⟩ v1).setCell ⟨p, o + 4, none⟩ v2).setCell ⟨p, o + 5, none⟩ v3).setCell ⟨p, o + 6, none⟩ v4) L s p T la lb o #[a0, a1, v0, v1, v2, v3, v4, a7, a8, a9, a10] := A4.set 6 v4
  have A6 : AtI TM ((((((w.setCell ⟨p, o + 2, none⟩ v0).setCell ⟨p, o + 3, none⟩ v1).setCell ⟨p, o + 4, none⟩ v2).setCell ⟨p, o + 5, none⟩ v3).setCell ⟨p, o + 6, none⟩ v4).setCell ⟨p, o + 7, none⟩ v5) L s p T la lb o #[a0, a1, v0, v1, v2, v3, v4, v5, a8, a9, a10] := A5.set 7 v5
  have A7 : AtI TM (((((((w.setCell ⟨p, o + 2, none⟩ v0).setCell ⟨p, o + 3, none⟩ v1).setCell ⟨p, o + 4, none⟩ v2).setCell ⟨p, o + 5, none⟩ v3).setCell ⟨p, o + 6, none⟩ v4).setCell ⟨p, o + 7, none⟩ v5).setCell ⟨p, o + 8, none⟩ v6) L s p T la lb o #[a0, a1, v0, v1, v2, v3, v4, v5, v6, a9, a10] := A6.set 8 v6
  exact A7
theorem AtI.free0 {d : Array Value} (h : AtI TM w L s p T la lb o d) : w.frozen? ⟨p, o, none⟩ = false := h.free 0
theorem Went.headN (w : World) (L : Loc) (p o : Nat) (v0 v1 v2 v3 v4 v5 v6 : Value) : Went w L p (((((((w.setCell ⟨p, o + 2, none⟩ v0).setCell ⟨p, o + 3, none⟩ v1).setCell ⟨p, o + 4, none⟩ v2).setCell ⟨p, o + 5, none⟩ v3).setCell ⟨p, o + 6, none⟩ v4).setCell ⟨p, o + 7, none⟩ v5).setCell ⟨p, o + 8, none⟩ v6) L := ((((((((Went.refl w L p).trans (Went.set _ _ _ _ _)).trans (Went.set _ _ _ _ _)).trans (Went.set _ _ _ _ _)).trans (Went.set _ _ _ _ _)).trans (Went.set _ _ _ _ _)).trans (Went.set _ _ _ _ _)).trans (Went.set _ _ _ _ _))
end
section
variable {w : World} {L : Loc} {s : St} {p o : Nat} {la lb : List Value} {T : TypeId}
set_option maxHeartbeats 1000000 in
theorem ni1a {l y1 y2 y3 y4 y5 y6 y7 a n : Int} (A : AtI 142 w L s p T la lb o #[.int .i64 1, .int .u64 l, .int .i64 y1, .int .i64 y2, .int .i64 y3, .int .i64 y4, .int .i64 y5, .int .i64 y6, .int .i64 y7, .int .i64 a, .int .i64 n]) (f : s.Fit) (hc : s.c < 1000000) (r : s.Rng) (h1 : t0 (s.got 1) = 0) :
    Calls Tryd.prog 69 #[.pointer (some ⟨p, o, none⟩), .pointer (some ⟨L.b, 0, none⟩)] w fun e w' => e = .returned (.bool true) ∧
      ∃ L', AtI 142 w' L' (s.load 1) p T la lb o #[.int .i64 0, .int .u64 (s.got 1), .int .i64 y1, .int .i64 y2, .int .i64 y3, .int .i64 y4, .int .i64 y5, .int .i64 y6, .int .i64 y7, .int .i64 a, .int .i64 n] ∧ Went w L p w' L' := by
  have c0 : w.cell? ⟨p, o, none⟩ = some (.int .i64 1) := A.cell 0
  have hr := r.got 1
  obtain ⟨v, hv⟩ : ∃ v, s.got 1 = v := ⟨_, rfl⟩
  rw [hv] at hr h1 ⊢
  have q1 : (t0 v != 0) = false := by simp [h1]
  go_enter Tryd.func69, Tryd.ntmps69
  go_wp2_with (first
    | (go_at_call 31; refine (cLoad A.mem f hc 1).mono ?_; rintro e w1 ⟨rfl, L1, hm1, st⟩; rw [hv]; have A1 := A.step hm1 st; have d1 : w1.cell? ⟨p, o + 1, none⟩ = some (.int .u64 l) := A1.cell 1; have df1 := A1.free 1)
    | (go_at_call 64; refine (cFirst v hr _).mono ?_; rintro e w2 ⟨rfl, hb2⟩; rw [h1]; have A2 : AtI 142 w2 L1 (s.load 1) p T la lb o #[.int .i64 1, .int .u64 v, .int .i64 y1, .int .i64 y2, .int .i64 y3, .int .i64 y4, .int .i64 y5, .int .i64 y6, .int .i64 y7, .int .i64 a, .int .i64 n] := (A1.set 1 (.int .u64 v)).below hb2; have g2 : Went w L p w2 L1 := ((Went.of_step st p).trans (Went.set _ _ _ _ _)).trans (Went.of_below hb2 _ _); clear hb2; have x0 : w2.cell? ⟨p, o, none⟩ = some (.int .i64 1) := A2.cell 0; have xf0 := A2.free0))
  go_ret
  exact ⟨rfl, L1, A2.set 0 (.int .i64 0), g2.trans (Went.set _ _ _ _ _)⟩
set_option maxHeartbeats 1000000 in
theorem ni1b {l y1 y2 y3 y4 y5 y6 y7 a n : Int} (A : AtI 142 w L s p T la lb o #[.int .i64 1, .int .u64 l, .int .i64 y1, .int .i64 y2, .int .i64 y3, .int .i64 y4, .int .i64 y5, .int .i64 y6, .int .i64 y7, .int .i64 a, .int .i64 n]) (f : s.Fit) (hc : s.c < 1000000) (r : s.Rng) (h1 : t0 (s.got 1) ≠ 0) :
    Calls Tryd.prog 69 #[.pointer (some ⟨p, o, none⟩), .pointer (some ⟨L.b, 0, none⟩)] w fun e w' => e = .returned (.bool false) ∧
      ∃ L', AtI 142 w' L' (s.load 1) p T la lb o #[.int .i64 2, .int .u64 (s.got 1), .int .i64 y1, .int .i64 y2, .int .i64 y3, .int .i64 y4, .int .i64 y5, .int .i64 y6, .int .i64 y7, .int .i64 a, .int .i64 n] ∧ Went w L p w' L' := by
  have c0 : w.cell? ⟨p, o, none⟩ = some (.int .i64 1) := A.cell 0
  have hr := r.got 1
  obtain ⟨v, hv⟩ : ∃ v, s.got 1 = v := ⟨_, rfl⟩
  rw [hv] at hr h1 ⊢
  have q1 : (t0 v != 0) = true := by simpa using h1
  go_enter Tryd.func69, Tryd.ntmps69
  go_wp2_with (first
    | (go_at_call 31; refine (cLoad A.mem f hc 1).mono ?_; rintro e w1 ⟨rfl, L1, hm1, st⟩; rw [hv]; have A1 := A.step hm1 st; have d1 : w1.cell? ⟨p, o + 1, none⟩ = some (.int .u64 l) := A1.cell 1; have df1 := A1.free 1)
    | (go_at_call 64; refine (cFirst v hr _).mono ?_; rintro e w2 ⟨rfl, hb2⟩; have A2 : AtI 142 w2 L1 (s.load 1) p T la lb o #[.int .i64 1, .int .u64 v, .int .i64 y1, .int .i64 y2, .int .i64 y3, .int .i64 y4, .int .i64 y5, .int .i64 y6, .int .i64 y7, .int .i64 a, .int .i64 n] := (A1.set 1 (.int .u64 v)).below hb2; have g2 : Went w L p w2 L1 := ((Went.of_step st p).trans (Went.set _ _ _ _ _)).trans (Went.of_below hb2 _ _); clear hb2; have x0 : w2.cell? ⟨p, o, none⟩ = some (.int .i64 1) := A2.cell 0; have xf0 := A2.free0))
  go_ret
  exact ⟨rfl, L1, A2.set 0 (.int .i64 2), g2.trans (Went.set _ _ _ _ _)⟩
set_option maxHeartbeats 1000000 in
theorem ni2 {l y1 y2 y3 y4 y5 y6 y7 a n : Int} (A : AtI 142 w L s p T la lb o #[.int .i64 2, .int .u64 l, .int .i64 y1, .int .i64 y2, .int .i64 y3, .int .i64 y4, .int .i64 y5, .int .i64 y6, .int .i64 y7, .int .i64 a, .int .i64 n]) (f : s.Fit) (hc : s.c < 1000000) (r : s.Rng) (hl : U64 l) :
    Calls Tryd.prog 69 #[.pointer (some ⟨p, o, none⟩), .pointer (some ⟨L.b, 0, none⟩)] w fun e w' => e = .returned (.bool false) ∧
      ∃ L', AtI 142 w' L' (s.load (t0 l)) p T la lb o #[.int .i64 3, .int .u64 l, .int .i64 (pS (s.got (t0 l))), .int .i64 (pC (s.got (t0 l))), .int .i64 (pN (s.got (t0 l))), .int .i64 (pM (s.got (t0 l))), .int .i64 (pG (s.got (t0 l))), .int .i64 (pT (s.got (t0 l))), .int .i64 (pL (s.got (t0 l))), .int .i64 a, .int .i64 n] ∧ Went w L p w' L' := by
  have c0 : w.cell? ⟨p, o, none⟩ = some (.int .i64 2) := A.cell 0
  have c1 : w.cell? ⟨p, o + 1, none⟩ = some (.int .u64 l) := A.cell 1
  have hr := r.got (t0 l)
  obtain ⟨v, hv⟩ : ∃ v, s.got (t0 l) = v := ⟨_, rfl⟩
  rw [hv] at hr ⊢
  go_enter Tryd.func69, Tryd.ntmps69
  go_wp2_with (first
    | (go_at_call 64; refine (cFirst l hl _).mono ?_; rintro e w0 ⟨rfl, hb0⟩; have A0 := A.below hb0)
    | (go_at_call 31; refine (cLoad A0.mem f hc _).mono ?_; rintro e w1 ⟨rfl, L1, hm1, st⟩; rw [hv]; have A1 := A0.step hm1 st)
    | (go_at_call 61; refine (H.cOf v hr.1 hr.2 _ A1.wid).mono ?_; rintro e w2 ⟨rfl, hw2⟩; have hb2 : Below w1.heap.size w1 w2 := (by rw [hw2]; go_grown); clear hw2; have A2 := A1.below hb2; have g2 : Went w L p w2 L1 := (((Went.of_below hb0 L p).trans (Went.of_step st p))).trans (Went.of_below hb2 _ _); clear hb2; have x0 : w2.cell? ⟨p, o, none⟩ = some (.int .i64 2) := A2.cell 0; have xf0 := A2.free0; have x2 : w2.cell? ⟨p, o + 2, none⟩ = some (.int .i64 y1) := A2.cell 2; have xf2 := A2.free 2; have x3 : w2.cell? ⟨p, o + 3, none⟩ = some (.int .i64 y2) := A2.cell 3; have xf3 := A2.free 3; have x4 : w2.cell? ⟨p, o + 4, none⟩ = some (.int .i64 y3) := A2.cell 4; have xf4 := A2.free 4; have x5 : w2.cell? ⟨p, o + 5, none⟩ = some (.int .i64 y4) := A2.cell 5; have xf5 := A2.free 5; have x6 : w2.cell? ⟨p, o + 6, none⟩ = some (.int .i64 y5) := A2.cell 6; have xf6 := A2.free 6; have x7 : w2.cell? ⟨p, o + 7, none⟩ = some (.int .i64 y6) := A2.cell 7; have xf7 := A2.free 7; have x8 : w2.cell? ⟨p, o + 8, none⟩ = some (.int .i64 y7) := A2.cell 8; have xf8 := A2.free 8))
  go_ret
  exact ⟨rfl, L1, (A2.putN (.int .i64 (pS v)) (.int .i64 (pC v)) (.int .i64 (pN v)) (.int .i64 (pM v)) (.int .i64 (pG v)) (.int .i64 (pT v)) (.int .i64 (pL v))).set 0 (.int .i64 3), (g2.trans (Went.headN w2 L1 p o (.int .i64 (pS v)) (.int .i64 (pC v)) (.int .i64 (pN v)) (.int .i64 (pM v)) (.int .i64 (pG v)) (.int .i64 (pT v)) (.int .i64 (pL v)))).trans (Went.set _ _ _ _ _)⟩
set_option maxHeartbeats 1000000 in
theorem ni3t {l y1 y2 y3 y4 y5 y6 y7 a n : Int} (A : AtI 142 w L s p T la lb o #[.int .i64 3, .int .u64 l, .int .i64 y1, .int .i64 y2, .int .i64 y3, .int .i64 y4, .int .i64 y5, .int .i64 y6, .int .i64 y7, .int .i64 a, .int .i64 n]) (f : s.Fit) (hc : s.c < 1000000) (r : s.Rng) (hl : U64 l) (hok : s.ok1 1 l = true) :
    Calls Tryd.prog 69 #[.pointer (some ⟨p, o, none⟩), .pointer (some ⟨L.b, 0, none⟩)] w fun e w' => e = .returned (.bool false) ∧
      ∃ L', AtI 142 w' L' (s.cas 1 l (nx l y7)) p T la lb o #[.int .i64 4, .int .u64 l, .int .i64 y1, .int .i64 y2, .int .i64 y3, .int .i64 y4, .int .i64 y5, .int .i64 y6, .int .i64 y7, .int .i64 a, .int .i64 n] ∧ Went w L p w' L' := by
  have c0 : w.cell? ⟨p, o, none⟩ = some (.int .i64 3) := A.cell 0
  have keep : ∀ w', Below w.heap.size w w' → w'.cell? ⟨p, o + 1, none⟩ = some (.int .u64 l) ∧ w'.cell? ⟨p, o + 8, none⟩ = some (.int .i64 y7) := fun w' hb => ⟨(A.below hb).cell 1, (A.below hb).cell 8⟩
  have hbd : Below w.heap.size w w.drew := (Below.refl w.heap.size w).drew
  have RD := keep _ hbd
  go_enter Tryd.func69, Tryd.ntmps69
  go_wp2
  go_region_held3 (fun w' => w'.cell? ⟨p, o + 1, none⟩ = some (.int .u64 l) ∧ w'.cell? ⟨p, o + 8, none⟩ = some (.int .i64 y7)) (first | assumption | exact RD | exact keep _ (by assumption))
    (first
      | (go_at_call 65; refine (S.gNext l y7 hl.1 hl.2 _).mono ?_; rintro e w1 ⟨rfl, hb1⟩; have hb1' := bel_trans hbd hb1)
      | (go_at_call 62; refine (cCAS (A.below hb1').mem f hc 1 l (nx l y7)).mono ?_; rintro e w2 ⟨rfl, L2, hm2, st2⟩; rw [hok]; have A2 := (A.below hb1').step hm2 st2; have S2 : w2.cell? ⟨p, o + 1, none⟩ = some (.int .u64 l) ∧ w2.cell? ⟨p, o + 8, none⟩ = some (.int .i64 y7) := ⟨A2.cell 1, A2.cell 8⟩; have g2 := (Went.of_below hb1' L p).trans (Went.of_step st2 p); have d0 : w2.cell? ⟨p, o, none⟩ = some (.int .i64 3) := A2.cell 0; have df0 := A2.free0))
  go_wp2
  go_ret
  exact ⟨rfl, L2, A2.set 0 (.int .i64 4), g2.trans (Went.set _ _ _ _ _)⟩
set_option maxHeartbeats 1000000 in
theorem ni3f {l y1 y2 y3 y4 y5 y6 y7 a n : Int} (A : AtI 142 w L s p T la lb o #[.int .i64 3, .int .u64 l, .int .i64 y1, .int .i64 y2, .int .i64 y3, .int .i64 y4, .int .i64 y5, .int .i64 y6, .int .i64 y7, .int .i64 a, .int .i64 n]) (f : s.Fit) (hc : s.c < 1000000) (r : s.Rng) (hl : U64 l) (hok : s.ok1 1 l = false) :
    Calls Tryd.prog 69 #[.pointer (some ⟨p, o, none⟩), .pointer (some ⟨L.b, 0, none⟩)] w fun e w' => e = .returned (.bool false) ∧
      ∃ L', AtI 142 w' L' (s.cas 1 l (nx l y7)) p T la lb o #[.int .i64 1, .int .u64 l, .int .i64 y1, .int .i64 y2, .int .i64 y3, .int .i64 y4, .int .i64 y5, .int .i64 y6, .int .i64 y7, .int .i64 a, .int .i64 n] ∧ Went w L p w' L' := by
  have c0 : w.cell? ⟨p, o, none⟩ = some (.int .i64 3) := A.cell 0
  have keep : ∀ w', Below w.heap.size w w' → w'.cell? ⟨p, o + 1, none⟩ = some (.int .u64 l) ∧ w'.cell? ⟨p, o + 8, none⟩ = some (.int .i64 y7) := fun w' hb => ⟨(A.below hb).cell 1, (A.below hb).cell 8⟩
  have hbd : Below w.heap.size w w.drew := (Below.refl w.heap.size w).drew
  have RD := keep _ hbd
  go_enter Tryd.func69, Tryd.ntmps69
  go_wp2
  go_region_held3 (fun w' => w'.cell? ⟨p, o + 1, none⟩ = some (.int .u64 l) ∧ w'.cell? ⟨p, o + 8, none⟩ = some (.int .i64 y7)) (first | assumption | exact RD | exact keep _ (by assumption))
    (first
      | (go_at_call 65; refine (S.gNext l y7 hl.1 hl.2 _).mono ?_; rintro e w1 ⟨rfl, hb1⟩; have hb1' := bel_trans hbd hb1)
      | (go_at_call 62; refine (cCAS (A.below hb1').mem f hc 1 l (nx l y7)).mono ?_; rintro e w2 ⟨rfl, L2, hm2, st2⟩; rw [hok]; have A2 := (A.below hb1').step hm2 st2; have S2 : w2.cell? ⟨p, o + 1, none⟩ = some (.int .u64 l) ∧ w2.cell? ⟨p, o + 8, none⟩ = some (.int .i64 y7) := ⟨A2.cell 1, A2.cell 8⟩; have g2 := (Went.of_below hb1' L p).trans (Went.of_step st2 p); have d0 : w2.cell? ⟨p, o, none⟩ = some (.int .i64 3) := A2.cell 0; have df0 := A2.free0))
  go_wp2
  go_ret
  exact ⟨rfl, L2, A2.set 0 (.int .i64 1), g2.trans (Went.set _ _ _ _ _)⟩
set_option maxHeartbeats 1000000 in
theorem ni4 {l y1 y2 y3 y4 y5 y6 y7 a n : Int} (A : AtI 142 w L s p T la lb o #[.int .i64 4, .int .u64 l, .int .i64 y1, .int .i64 y2, .int .i64 y3, .int .i64 y4, .int .i64 y5, .int .i64 y6, .int .i64 y7, .int .i64 a, .int .i64 n]) (f : s.Fit) (hc : s.c < 1000000) (r : s.Rng) (hl : U64 l) :
    Calls Tryd.prog 69 #[.pointer (some ⟨p, o, none⟩), .pointer (some ⟨L.b, 0, none⟩)] w fun e w' => e = .returned (.bool true) ∧
      ∃ L', AtI 142 w' L' (s.store (t0 l) (hw y1 y2 y3 y4 0 y6 0)) p T la lb o #[.int .i64 0, .int .u64 l, .int .i64 y1, .int .i64 y2, .int .i64 y3, .int .i64 y4, .int .i64 0, .int .i64 y6, .int .i64 0, .int .i64 (t0 l), .int .i64 y3] ∧ Went w L p w' L' := by
  have c0 : w.cell? ⟨p, o, none⟩ = some (.int .i64 4) := A.cell 0
  have keep : ∀ w', Below w.heap.size w w' → w'.cell? ⟨p, o + 1, none⟩ = some (.int .u64 l) ∧ w'.cell? ⟨p, o + 4, none⟩ = some (.int .i64 y3) := fun w' hb => ⟨(A.below hb).cell 1, (A.below hb).cell 4⟩
  have hbd : Below w.heap.size w w.drew := (Below.refl w.heap.size w).drew
  have RD := keep _ hbd
  go_enter Tryd.func69, Tryd.ntmps69
  go_wp2
  go_region_held3 (fun w' => w'.cell? ⟨p, o + 1, none⟩ = some (.int .u64 l) ∧ w'.cell? ⟨p, o + 4, none⟩ = some (.int .i64 y3)) (first | assumption | exact RD | exact R0 | exact R1 | exact R2 | exact keep _ (by assumption))
    (first
      | (go_at_call 64; refine (cFirst l hl _).mono ?_; rintro e w0 ⟨rfl, hb0⟩; have hb0' := bel_trans hbd hb0; have A0 := A.below hb0'; have R0 := keep _ hb0'; have k0 : w0.cell? ⟨p, o, none⟩ = some (.int .i64 4) := A0.cell 0; have kf0 := A0.free0; have k1 : w0.cell? ⟨p, o + 1, none⟩ = some (.int .u64 l) := A0.cell 1; have kf1 := A0.free 1; have k2 : w0.cell? ⟨p, o + 2, none⟩ = some (.int .i64 y1) := A0.cell 2; have kf2 := A0.free 2; have k3 : w0.cell? ⟨p, o + 3, none⟩ = some (.int .i64 y2) := A0.cell 3; have kf3 := A0.free 3; have k4 : w0.cell? ⟨p, o + 4, none⟩ = some (.int .i64 y3) := A0.cell 4; have kf4 := A0.free 4; have k5 : w0.cell? ⟨p, o + 5, none⟩ = some (.int .i64 y4) := A0.cell 5; have kf5 := A0.free 5; have k6 : w0.cell? ⟨p, o + 6, none⟩ = some (.int .i64 y5) := A0.cell 6; have kf6 := A0.free 6; have k7 : w0.cell? ⟨p, o + 7, none⟩ = some (.int .i64 y6) := A0.cell 7; have kf7 := A0.free 7; have k8 : w0.cell? ⟨p, o + 8, none⟩ = some (.int .i64 y7) := A0.cell 8; have kf8 := A0.free 8; have k9 : w0.cell? ⟨p, o + 9, none⟩ = some (.int .i64 a) := A0.cell 9; have kf9 := A0.free 9; have k10 : w0.cell? ⟨p, o + 10, none⟩ = some (.int .i64 n) := A0.cell 10; have kf10 := A0.free 10; have R1 : (w0.setCell ⟨p, o + 9, none⟩ (.int .i64 (t0 l))).cell? ⟨p, o + 1, none⟩ = some (.int .u64 l) ∧ (w0.setCell ⟨p, o + 9, none⟩ (.int .i64 (t0 l))).cell? ⟨p, o + 4, none⟩ = some (.int .i64 y3) := ⟨(A0.set 9 (.int .i64 (t0 l))).cell 1, (A0.set 9 (.int .i64 (t0 l))).cell 4⟩; have R2 : ((w0.setCell ⟨p, o + 9, none⟩ (.int .i64 (t0 l))).setCell ⟨p, o + 10, none⟩ (.int .i64 y3)).cell? ⟨p, o + 1, none⟩ = some (.int .u64 l) ∧ ((w0.setCell ⟨p, o + 9, none⟩ (.int .i64 (t0 l))).setCell ⟨p, o + 10, none⟩ (.int .i64 y3)).cell? ⟨p, o + 4, none⟩ = some (.int .i64 y3) := ⟨((A0.set 9 (.int .i64 (t0 l))).set 10 (.int .i64 y3)).cell 1, ((A0.set 9 (.int .i64 (t0 l))).set 10 (.int .i64 y3)).cell 4⟩))
  have Ab : AtI 142 ((w0.setCell ⟨p, o + 9, none⟩ (.int .i64 (t0 l))).setCell ⟨p, o + 10, none⟩ (.int .i64 y3)) L s p T la lb o #[.int .i64 4, .int .u64 l, .int .i64 y1, .int .i64 y2, .int .i64 y3, .int .i64 y4, .int .i64 y5, .int .i64 y6, .int .i64 y7, .int .i64 (t0 l), .int .i64 y3] := (A0.set 9 (.int .i64 (t0 l))).set 10 (.int .i64 y3)
  have gb : Went w L p ((w0.setCell ⟨p, o + 9, none⟩ (.int .i64 (t0 l))).setCell ⟨p, o + 10, none⟩ (.int .i64 y3)) L := ((Went.of_below hb0' L p).trans (Went.set _ _ _ _ _)).trans (Went.set _ _ _ _ _)
  generalize (w0.setCell ⟨p, o + 9, none⟩ (.int .i64 (t0 l))).setCell ⟨p, o + 10, none⟩ (.int .i64 y3) = wb at Ab gb ⊢
  have u6 : wb.cell? ⟨p, o + 6, none⟩ = some (.int .i64 y5) := Ab.cell 6
  have uf6 := Ab.free 6
  have u8 : wb.cell? ⟨p, o + 8, none⟩ = some (.int .i64 y7) := Ab.cell 8
  have uf8 := Ab.free 8
  go_wp2
  have Aa : AtI 142 ((wb.setCell ⟨p, o + 6, none⟩ (.int .i64 0)).setCell ⟨p, o + 8, none⟩ (.int .i64 0)) L s p T la lb o #[.int .i64 4, .int .u64 l, .int .i64 y1, .int .i64 y2, .int .i64 y3, .int .i64 y4, .int .i64 0, .int .i64 y6, .int .i64 0, .int .i64 (t0 l), .int .i64 y3] := (Ab.set 6 (.int .i64 0)).set 8 (.int .i64 0)
  have ga : Went w L p ((wb.setCell ⟨p, o + 6, none⟩ (.int .i64 0)).setCell ⟨p, o + 8, none⟩ (.int .i64 0)) L := (gb.trans (Went.set _ _ _ _ _)).trans (Went.set _ _ _ _ _)
  generalize (wb.setCell ⟨p, o + 6, none⟩ (.int .i64 0)).setCell ⟨p, o + 8, none⟩ (.int .i64 0) = wa at Aa ga ⊢
  clear keep hbd RD
  have keep : ∀ w', Below wa.heap.size wa w' → w'.cell? ⟨p, o + 2, none⟩ = some (.int .i64 y1) ∧ w'.cell? ⟨p, o + 3, none⟩ = some (.int .i64 y2) ∧ w'.cell? ⟨p, o + 4, none⟩ = some (.int .i64 y3) ∧ w'.cell? ⟨p, o + 5, none⟩ = some (.int .i64 y4) ∧ w'.cell? ⟨p, o + 6, none⟩ = some (.int .i64 0) ∧ w'.cell? ⟨p, o + 7, none⟩ = some (.int .i64 y6) ∧ w'.cell? ⟨p, o + 8, none⟩ = some (.int .i64 0) ∧ w'.cell? ⟨p, o + 9, none⟩ = some (.int .i64 (t0 l)) := fun w' hb => ⟨(Aa.below hb).cell 2, (Aa.below hb).cell 3, (Aa.below hb).cell 4, (Aa.below hb).cell 5, (Aa.below hb).cell 6, (Aa.below hb).cell 7, (Aa.below hb).cell 8, (Aa.below hb).cell 9⟩
  have hbd : Below wa.heap.size wa wa.drew := (Below.refl wa.heap.size wa).drew
  have RD := keep _ hbd
  go_region_held3 (fun w' => w'.cell? ⟨p, o + 2, none⟩ = some (.int .i64 y1) ∧ w'.cell? ⟨p, o + 3, none⟩ = some (.int .i64 y2) ∧ w'.cell? ⟨p, o + 4, none⟩ = some (.int .i64 y3) ∧ w'.cell? ⟨p, o + 5, none⟩ = some (.int .i64 y4) ∧ w'.cell? ⟨p, o + 6, none⟩ = some (.int .i64 0) ∧ w'.cell? ⟨p, o + 7, none⟩ = some (.int .i64 y6) ∧ w'.cell? ⟨p, o + 8, none⟩ = some (.int .i64 0) ∧ w'.cell? ⟨p, o + 9, none⟩ = some (.int .i64 (t0 l))) (first | assumption | exact RD | exact keep _ (by assumption))
    (first
      | (go_at_call 63; refine (H.cWord y1 y2 y3 y4 0 y6 0 _ (Aa.below hbd).wid).mono ?_; rintro e w1 ⟨rfl, x1, hw1⟩; have hb1' : Below wa.heap.size wa w1 := (by rw [hw1]; exact bel_trans hbd (((Below.refl _ _).alloc (Nat.le_refl _) _).alloc (by simp) _)); clear hw1)
      | (go_at_call 37; refine (cStore (Aa.below hb1').mem f hc (t0 l) (hw y1 y2 y3 y4 0 y6 0)).mono ?_; rintro e w2 ⟨rfl, L2, hm2, st2⟩; have A2 := (Aa.below hb1').step hm2 st2; have S2 : w2.cell? ⟨p, o + 2, none⟩ = some (.int .i64 y1) ∧ w2.cell? ⟨p, o + 3, none⟩ = some (.int .i64 y2) ∧ w2.cell? ⟨p, o + 4, none⟩ = some (.int .i64 y3) ∧ w2.cell? ⟨p, o + 5, none⟩ = some (.int .i64 y4) ∧ w2.cell? ⟨p, o + 6, none⟩ = some (.int .i64 0) ∧ w2.cell? ⟨p, o + 7, none⟩ = some (.int .i64 y6) ∧ w2.cell? ⟨p, o + 8, none⟩ = some (.int .i64 0) ∧ w2.cell? ⟨p, o + 9, none⟩ = some (.int .i64 (t0 l)) := ⟨A2.cell 2, A2.cell 3, A2.cell 4, A2.cell 5, A2.cell 6, A2.cell 7, A2.cell 8, A2.cell 9⟩; have g2 := (ga.trans (Went.of_below hb1' L p)).trans (Went.of_step st2 p); have d0 : w2.cell? ⟨p, o, none⟩ = some (.int .i64 4) := A2.cell 0; have df0 := A2.free0))
  go_wp2
  go_ret
  exact ⟨rfl, L2, A2.set 0 (.int .i64 0), g2.trans (Went.set _ _ _ _ _)⟩
set_option maxHeartbeats 1000000 in
theorem ni0 {l y1 y2 y3 y4 y5 y6 y7 a n : Int} (A : AtI 142 w L s p T la lb o #[.int .i64 0, .int .u64 l, .int .i64 y1, .int .i64 y2, .int .i64 y3, .int .i64 y4, .int .i64 y5, .int .i64 y6, .int .i64 y7, .int .i64 a, .int .i64 n]) (f : s.Fit) (hc : s.c < 1000000) (r : s.Rng) :
    Calls Tryd.prog 69 #[.pointer (some ⟨p, o, none⟩), .pointer (some ⟨L.b, 0, none⟩)] w fun e w' => e = .returned (.bool true) ∧
      ∃ L', AtI 142 w' L' (s) p T la lb o #[.int .i64 0, .int .u64 l, .int .i64 y1, .int .i64 y2, .int .i64 y3, .int .i64 y4, .int .i64 y5, .int .i64 y6, .int .i64 y7, .int .i64 a, .int .i64 n] ∧ Went w L p w' L' := by
  have c0 : w.cell? ⟨p, o, none⟩ = some (.int .i64 0) := A.cell 0
  have cf0 := A.free0
  go_enter Tryd.func69, Tryd.ntmps69
  go_wp2
  go_ret
  exact ⟨rfl, L, A.set 0 (.int .i64 0), Went.set _ _ _ _ _⟩
/-- a step of a Next within a block -/
theorem cNextI {x : NextS} (A : AtI 142 w L s p T la lb o x.cells) (ok : x.Ok) (f : s.Fit) (hc : s.c < 1000000) (r : s.Rng) :
    Calls Tryd.prog 69 #[.pointer (some ⟨p, o, none⟩), .pointer (some ⟨L.b, 0, none⟩)] w fun e w' => e = .returned (.bool ((x.next s).pc == 0)) ∧
      ∃ L', AtI 142 w' L' (x.mem s) p T la lb o (x.next s).cells ∧ Went w L p w' L' := by
  obtain ⟨pc, l, ⟨y1, y2, y3, y4, y5, y6, y7⟩, a, n⟩ := x
  rcases pc_cases4 ok.pc with rfl | rfl | rfl | rfl | rfl
  · exact ni0 A f hc r
  · simp only [NextS.next]
    by_cases h1 : t0 (s.got 1) = 0
    · rw [if_pos h1]; exact ni1a A f hc r h1
    · rw [if_neg h1]; exact ni1b A f hc r h1
  · exact ni2 A f hc r ok.list
  · simp only [NextS.next]
    rcases hok : s.ok1 1 l with _ | _
    · exact ni3f A f hc r ok.list hok
    · exact ni3t A f hc r ok.list hok
  · exact ni4 A f hc r ok.list
theorem cResultI {x : NextS} (B : BlI w p T la lb o x.cells) :
    Calls Tryd.prog 101 #[.pointer (some ⟨p, o, none⟩)] w fun e w' => e = .returned (.tuple #[.int .i64 x.cell, .int .i64 x.count]) ∧ Below w.heap.size w w' := by
  have c9 : w.cell? ⟨p, o + 9, none⟩ = some (.int .i64 x.cell) := B.cell 9
  have c10 : w.cell? ⟨p, o + 10, none⟩ = some (.int .i64 x.count) := B.cell 10
  go_enter Tryd.func101, Tryd.ntmps101
  go_wp2
  go_quiet (fail)
  go_wp2
  go_ret2
  exact ⟨rfl, S.bdr (Below.refl _ _) _⟩
end
end Go.Proofs.YtoablodmodnamaaDoor
