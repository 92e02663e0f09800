/-
  What the steps of a Take come to when they are called.
-/
import Derived.Test.YtbojljkdpebheaaDoorKt
namespace Go.Proofs.YtbojljkdpebheaaDoor
set_option linter.unusedVariables false
set_option maxRecDepth 100000
open Go.ChangeShapes Go.WideShapes Go.RowKit
open S.Plain (t0 t1 tw nx bw b0 b1 b2 b3)
open H.Plain (hw pL)
section
variable {w : World} {L : Loc} {s : St} {p o : Nat} {la lb : List Value} {T : TypeId}
theorem tFind {x : TakeS} (A : AtI 89 w L s p T la lb o x.cells) (ok : x.Ok) (f : s.Fit) (hc : s.c < 1000000) (r : s.Rng) (hp : x.pc = 1) :
    Calls Tryd.prog 73 #[.pointer (some ⟨p, o, none⟩), .pointer (some ⟨L.b, 0, none⟩)] w fun e w' => e = .returned (.int .i64 (x.next s).pc) ∧ ∃ L', AtI 89 w' L' (x.mem s) p T la lb o ((x.next s).at_ x.pc).cells ∧ Went w L p w' L' := by
  obtain ⟨q, z, pc, c, e, v, k, u, us⟩ := x
  obtain rfl : pc = 1 := hp
  have hr := r.got 2
  simp only [TakeS.next, TakeS.mem, TakeS.at_]
  obtain ⟨y, hy⟩ : ∃ y, s.got 2 = y := ⟨_, rfl⟩
  rw [hy] at hr ⊢
  by_cases hq : t0 y = 0
  · rw [if_pos hq]
    go_enter Tryd.func73, Tryd.ntmps73
    go_wp2_with (first
      | (go_at_call 86; refine (mReadHead A (TakeS.mach _) f hc).mono ?_; rintro e w1 ⟨rfl, L1, A1, g1⟩; rw [hy] at A1)
      | (go_at_call 79; refine (mFirst A1.bl (TakeS.mach (TakeS.mk q y 1 c e v k u us)) hr).mono ?_; rintro e w2 ⟨rfl, hb2⟩; rw [hq]; have A2 := A1.below hb2; have g2 := g1.trans (Went.of_below hb2 _ _)))
    go_ret
    exact ⟨rfl, L1, A2, g2⟩
  · rw [if_neg hq]
    have hq' : (t0 y == 0) = false := by simpa using hq
    go_enter Tryd.func73, Tryd.ntmps73
    go_wp2_with (first
      | (go_at_call 86; refine (mReadHead A (TakeS.mach _) f hc).mono ?_; rintro e w1 ⟨rfl, L1, A1, g1⟩; rw [hy] at A1)
      | (go_at_call 79; refine (mFirst A1.bl (TakeS.mach (TakeS.mk q y 1 c e v k u us)) hr).mono ?_; rintro e w2 ⟨rfl, hb2⟩; have A2 := A1.below hb2; have g2 := g1.trans (Went.of_below hb2 _ _)))
    go_ret
    exact ⟨rfl, L1, A2, g2⟩
set_option maxHeartbeats 1000000 in
theorem tRead {x : TakeS} (A : AtI 89 w L s p T la lb o x.cells) (ok : x.Ok) (f : s.Fit) (hc : s.c < 1000000) (r : s.Rng) (hp : x.pc = 2) :
    Calls Tryd.prog 74 #[.pointer (some ⟨p, o, none⟩), .pointer (some ⟨L.b, 0, none⟩)] w fun e w' => e = .returned (.int .i64 (x.next s).pc) ∧ ∃ L', AtI 89 w' L' (x.mem s) p T la lb o ((x.next s).at_ x.pc).cells ∧ Went w L p w' L' := by
  obtain ⟨q, z, pc, c, e, v, k, u, us⟩ := x
  obtain rfl : pc = 2 := hp
  have tb0 := (t0_bounds z).1
  have tb1 := (t0_bounds z).2
  have hr := r.got (TakeS.mk q z 2 c e v k u us).ent
  simp only [TakeS.next, TakeS.mem, TakeS.at_]
  obtain ⟨y, hy⟩ : ∃ y, s.got (TakeS.mk q z 2 c e v k u us).ent = y := ⟨_, rfl⟩
  rw [hy] at hr ⊢
  obtain ⟨j, hj⟩ : ∃ j, (TakeS.mk q z 2 c e v k u us).ent = j := ⟨_, rfl⟩
  rw [hj] at hy ⊢
  have hj' : q.tb + (t0 z - 1) = j := hj
  clear hj
  have f3 := fblock3 (b0 y) (b1 y) (b2 y) (b3 y)
  have keep : ∀ w', Below w.heap.size w w' → w'.cell? ⟨p, o, none⟩ = some (.int .i64 q.t) ∧ w'.cell? ⟨p, o + 1, none⟩ = some (.int .i64 q.b) ∧ w'.cell? ⟨p, o + 2, none⟩ = some (.int .i64 q.tb) ∧ w'.cell? ⟨p, o + 3, none⟩ = some (.int .i64 q.hp) ∧ w'.cell? ⟨p, o + 4, none⟩ = some (.int .i64 q.sz) := fun w' h => ⟨(A.below h).cell 0, (A.below h).cell 1, (A.below h).cell 2, (A.below h).cell 3, (A.below h).cell 4⟩
  have hbd : Below w.heap.size w w.drew := (Below.refl w.heap.size w).drew
  have RD := keep _ hbd
  go_enter Tryd.func74, Tryd.ntmps74
  go_wp2
  go_region_held3 (fun w' => w'.cell? ⟨p, o, none⟩ = some (.int .i64 q.t) ∧ w'.cell? ⟨p, o + 1, none⟩ = some (.int .i64 q.b) ∧ w'.cell? ⟨p, o + 2, none⟩ = some (.int .i64 q.tb) ∧ w'.cell? ⟨p, o + 3, none⟩ = some (.int .i64 q.hp) ∧ w'.cell? ⟨p, o + 4, none⟩ = some (.int .i64 q.sz)) (first | assumption | exact RD | exact keep _ (by assumption))
    (first
      | (go_at_call 89; refine (tBlock (A.below hbd).bl ok.seen).mono ?_; rintro e w1 ⟨rfl, hb1⟩; have hb1' := bel_trans hbd hb1)
      | (go_at_call 88; refine (kEntry ok.pl (by first | omega | (simp only; omega)) (by first | omega | (simp only; omega)) _).mono ?_; rintro e w2 ⟨rfl, hb2⟩; simp only [hj']; have hb2' := bel_trans hb1' hb2)
      | (go_at_call 15; refine (cLoad (A.below hb2').mem f hc j).mono ?_; rintro e w3 ⟨rfl, L3, hm3, st3⟩; rw [hy]; have A3 := (A.below hb2').step hm3 st3; have S3 : w3.cell? ⟨p, o, none⟩ = some (.int .i64 q.t) ∧ w3.cell? ⟨p, o + 1, none⟩ = some (.int .i64 q.b) ∧ w3.cell? ⟨p, o + 2, none⟩ = some (.int .i64 q.tb) ∧ w3.cell? ⟨p, o + 3, none⟩ = some (.int .i64 q.hp) ∧ w3.cell? ⟨p, o + 4, none⟩ = some (.int .i64 q.sz) := ⟨A3.cell 0, A3.cell 1, A3.cell 2, A3.cell 3, A3.cell 4⟩; have g3 := (Went.of_below hb2' L p).trans (Went.of_step st3 p))
      | (go_at_call 87; refine (S.cOfBlock y hr.1 hr.2 _).mono ?_; rintro e w4 ⟨rfl, hw4⟩; have hb4 : Below w3.heap.size w3 w4 := (by rw [hw4]; go_grown); clear hw4; have A4 := A3.below hb4; have S4 : w4.cell? ⟨p, o, none⟩ = some (.int .i64 q.t) ∧ w4.cell? ⟨p, o + 1, none⟩ = some (.int .i64 q.b) ∧ w4.cell? ⟨p, o + 2, none⟩ = some (.int .i64 q.tb) ∧ w4.cell? ⟨p, o + 3, none⟩ = some (.int .i64 q.hp) ∧ w4.cell? ⟨p, o + 4, none⟩ = some (.int .i64 q.sz) := ⟨A4.cell 0, A4.cell 1, A4.cell 2, A4.cell 3, A4.cell 4⟩; have d9 : w4.cell? ⟨p, o + 9, none⟩ = some (.int .i64 (b3 v)) := A4.cell 9; have df9 := A4.free 9; have A5 := A4.set 9 (.int .i64 (b3 y)); have S5 : (w4.setCell ⟨p, o + 9, none⟩ (.int .i64 (b3 y))).cell? ⟨p, o, none⟩ = some (.int .i64 q.t) ∧ (w4.setCell ⟨p, o + 9, none⟩ (.int .i64 (b3 y))).cell? ⟨p, o + 1, none⟩ = some (.int .i64 q.b) ∧ (w4.setCell ⟨p, o + 9, none⟩ (.int .i64 (b3 y))).cell? ⟨p, o + 2, none⟩ = some (.int .i64 q.tb) ∧ (w4.setCell ⟨p, o + 9, none⟩ (.int .i64 (b3 y))).cell? ⟨p, o + 3, none⟩ = some (.int .i64 q.hp) ∧ (w4.setCell ⟨p, o + 9, none⟩ (.int .i64 (b3 y))).cell? ⟨p, o + 4, none⟩ = some (.int .i64 q.sz) := ⟨A5.cell 0, A5.cell 1, A5.cell 2, A5.cell 3, A5.cell 4⟩; have g5 := (g3.trans (Went.of_below hb4 _ _)).trans (Went.set _ _ p (o + 9) (.int .i64 (b3 y)))))
  go_wp2
  go_ret
  exact ⟨rfl, L3, A5, g5⟩
set_option maxHeartbeats 1000000 in
theorem tTake {x : TakeS} (A : AtI 89 w L s p T la lb o x.cells) (ok : x.Ok) (f : s.Fit) (hc : s.c < 1000000) (r : s.Rng) (hp : x.pc = 3) :
    Calls Tryd.prog 75 #[.pointer (some ⟨p, o, none⟩), .pointer (some ⟨L.b, 0, none⟩)] w fun e w' => e = .returned (.int .i64 (x.next s).pc) ∧ ∃ L', AtI 89 w' L' (x.mem s) p T la lb o ((x.next s).at_ x.pc).cells ∧ Went w L p w' L' := by
  obtain ⟨q, z, pc, c, e, v, k, u, us⟩ := x
  obtain rfl : pc = 3 := hp
  simp only [TakeS.next, TakeS.mem, TakeS.at_]
  obtain ⟨b, hb⟩ : ∃ b, s.ok1 2 z = b := ⟨_, rfl⟩
  rw [hb]
  have keep : ∀ w', Below w.heap.size w w' → w'.cell? ⟨p, o + 9, none⟩ = some (.int .i64 (b3 v)) := fun w' h => (A.below h).cell 9
  have hbd : Below w.heap.size w w.drew := (Below.refl w.heap.size w).drew
  have RD := keep _ hbd
  go_enter Tryd.func75, Tryd.ntmps75
  go_wp2
  go_region_held3 (fun w' => w'.cell? ⟨p, o + 9, none⟩ = some (.int .i64 (b3 v))) (first | assumption | exact RD | exact keep _ (by assumption))
    ((go_at_call 90; refine (mSwap (A.below hbd) (TakeS.mach _) f hc ok.seen (b3 v)).mono ?_; rintro e w1 ⟨rfl, L1, A1, g1⟩; simp only [hb]; have S1 : w1.cell? ⟨p, o + 9, none⟩ = some (.int .i64 (b3 v)) := A1.cell 9; have g1' := (Went.of_below hbd L p).trans g1))
  rcases b with _ | _
  · go_wp2
    go_ret
    exact ⟨rfl, L1, A1, g1'⟩
  · go_wp2
    go_ret
    exact ⟨rfl, L1, A1, g1'⟩
set_option maxHeartbeats 1000000 in
theorem tMark {x : TakeS} (A : AtI 89 w L s p T la lb o x.cells) (ok : x.Ok) (f : s.Fit) (hc : s.c < 1000000) (r : s.Rng) (hp : x.pc = 4) :
    Calls Tryd.prog 76 #[.pointer (some ⟨p, o, none⟩), .pointer (some ⟨L.b, 0, none⟩)] w fun e w' => e = .returned (.int .i64 (x.next s).pc) ∧ ∃ L', AtI 89 w' L' (x.mem s) p T la lb o ((x.next s).at_ x.pc).cells ∧ Went w L p w' L' := by
  obtain ⟨q, z, pc, c, e, v, k, u, us⟩ := x
  obtain rfl : pc = 4 := hp
  have tb0 := (t0_bounds z).1
  have tb1 := (t0_bounds z).2
  have cb := (cs_bounds ok.c0 ok.c2).1
  simp only at cb
  simp only [TakeS.next, TakeS.mem, TakeS.at_]
  have keep : ∀ w', Below w.heap.size w w' → w'.cell? ⟨p, o + 7, none⟩ = some (.int .i64 c) ∧ w'.cell? ⟨p, o + 8, none⟩ = some (.int .i64 e) := fun w' h => ⟨(A.below h).cell 7, (A.below h).cell 8⟩
  have hbd : Below w.heap.size w w.drew := (Below.refl w.heap.size w).drew
  have RD := keep _ hbd
  go_enter Tryd.func76, Tryd.ntmps76
  go_wp2
  go_region_held3 (fun w' => w'.cell? ⟨p, o + 7, none⟩ = some (.int .i64 c) ∧ w'.cell? ⟨p, o + 8, none⟩ = some (.int .i64 e)) (first | assumption | exact RD | exact keep _ (by assumption))
    (first
      | (go_at_call 89; refine (tBlock (A.below hbd).bl ok.seen).mono ?_; rintro e w1 ⟨rfl, hb1⟩; have hb1' := bel_trans hbd hb1)
      | (go_at_call 91; refine (mWrite (A.below hb1') (TakeS.mach _) ok.pl f hc (by first | omega | (simp only; omega)) (by first | omega | (simp only; omega)) 1 c e 0).mono ?_; rintro e w2 ⟨rfl, L2, A2, g2⟩; have S2 : w2.cell? ⟨p, o + 7, none⟩ = some (.int .i64 c) ∧ w2.cell? ⟨p, o + 8, none⟩ = some (.int .i64 e) := ⟨A2.cell 7, A2.cell 8⟩; have g2' := (Went.of_below hb1' L p).trans g2))
  go_wp2_with (go_at_call 92; refine (tBehindM A2 ok (by decide) (by decide) (by first | omega | (simp only; omega))).mono ?_; rintro e w3 ⟨rfl, L3, A3, g3⟩)
  go_ret
  exact ⟨rfl, L3, A3, g2'.trans g3⟩
set_option maxHeartbeats 2000000 in
theorem tLinkM {x : TakeS} (A : AtI 89 w L s p T la lb o x.cells) (ok : x.Ok) (f : s.Fit) (hc : s.c < 1000000) (r : s.Rng) (hp : x.pc = 5) (hk : x.k + 2 < P.Plain.cs x.cls) :
    Calls Tryd.prog 77 #[.pointer (some ⟨p, o, none⟩), .pointer (some ⟨L.b, 0, none⟩)] w fun e w' => e = .returned (.int .i64 (x.next s).pc) ∧ ∃ L', AtI 89 w' L' (x.mem s) p T la lb o ((x.next s).at_ x.pc).cells ∧ Went w L p w' L' := by
  obtain ⟨q, z, pc, c, e, v, k, u, us⟩ := x
  obtain rfl : pc = 5 := hp
  have cb := (cs_bounds ok.c0 ok.c2).2
  have k0 := ok.k0
  have k8 := ok.k8
  have k5 := ok.k5 rfl
  simp only at cb k0 k8 k5 hk
  have hk2 : k + 1 + 1 < P.Plain.cs c := by omega
  simp only [TakeS.next, TakeS.mem, TakeS.at_]
  rw [if_pos hk, if_pos hk]
  have hd : decide (k + 1 + 1 < P.Plain.cs c) = true := decide_eq_true hk2
  have e2 : k + 2 = k + 1 + 1 := by omega
  rw [e2]
  clear e2 hk hk2
  have c10 : w.cell? ⟨p, o + 10, none⟩ = some (.int .i64 k) := A.cell 10
  have c7 : w.cell? ⟨p, o + 7, none⟩ = some (.int .i64 c) := A.cell 7
  have W1 := A.wid.2
  go_enter Tryd.func77, Tryd.ntmps77
  go_wp2_with (first
    | (go_at_call 93; refine (P.cCells _ _ W1).mono ?_; rintro e w1 ⟨rfl, hw1⟩; rw [hw1]; clear hw1)
    | (go_at_call 80; refine (tCell A.bl ok.pl ok.seen A.wid (k := k + 1 + 1) (by omega) (by omega)).mono ?_; rintro e wa ⟨rfl, hba⟩))
  have Aa := A.below hba
  have keep : ∀ w', Below wa.heap.size wa w' → w'.cell? ⟨p, o + 7, none⟩ = some (.int .i64 c) := fun w' h => (Aa.below h).cell 7
  have hbd : Below wa.heap.size wa wa.drew := (Below.refl wa.heap.size wa).drew
  have RD := keep _ hbd
  go_region_held3 (fun w' => w'.cell? ⟨p, o + 7, none⟩ = some (.int .i64 c)) (first | assumption | exact RD | exact keep _ (by assumption))
    (first
      | (go_at_call 80; refine (tCell (Aa.below hbd).bl ok.pl ok.seen (Aa.below hbd).wid (k := k + 1) (by omega) (by omega)).mono ?_; rintro e w2 ⟨rfl, hb2⟩; have hb2' := bel_trans hbd hb2)
      | (go_at_call 54; refine (H.cWord 0 c 0 0 0 0 (TakeS.ad ⟨q, z, 5, c, e, v, k, u, us⟩ (k + 1 + 1)) _ (Aa.below hb2').wid.1).mono ?_; rintro e w3 ⟨rfl, x3, hw3⟩; have hb3' : Below wa.heap.size wa w3 := (by rw [hw3]; exact bel_trans hb2' (((Below.refl _ _).alloc (Nat.le_refl _) _).alloc (by simp) _)); clear hw3)
      | (go_at_call 27; refine (cStore (Aa.below hb3').mem f hc _ _).mono ?_; rintro e w4 ⟨rfl, L4, hm4, st4⟩; have A4 := (Aa.below hb3').step hm4 st4; have S4 : w4.cell? ⟨p, o + 7, none⟩ = some (.int .i64 c) := A4.cell 7; have g4 := (Went.of_below (bel_trans hba hb3') L p).trans (Went.of_step st4 p)))
  go_wp2_with (go_at_call 92; refine (tBehindM A4 ok (k := k + 1) (by omega) (by omega) (by simp only; exact of_decide_eq_true hd)).mono ?_; rintro e w5 ⟨rfl, L5, A5, g5⟩)
  go_ret
  exact ⟨rfl, L5, A5, g4.trans g5⟩
set_option maxHeartbeats 2000000 in
theorem tLinkL {x : TakeS} (A : AtI 89 w L s p T la lb o x.cells) (ok : x.Ok) (f : s.Fit) (hc : s.c < 1000000) (r : s.Rng) (hp : x.pc = 5) (hk : ¬ x.k + 2 < P.Plain.cs x.cls) :
    Calls Tryd.prog 77 #[.pointer (some ⟨p, o, none⟩), .pointer (some ⟨L.b, 0, none⟩)] w fun e w' => e = .returned (.int .i64 (x.next s).pc) ∧ ∃ L', AtI 89 w' L' (x.mem s) p T la lb o ((x.next s).at_ x.pc).cells ∧ Went w L p w' L' := by
  obtain ⟨q, z, pc, c, e, v, k, u, us⟩ := x
  obtain rfl : pc = 5 := hp
  have cb := (cs_bounds ok.c0 ok.c2).2
  have k0 := ok.k0
  have k8 := ok.k8
  have k5 := ok.k5 rfl
  simp only at cb k0 k8 k5 hk
  have hk2 : ¬ k + 1 + 1 < P.Plain.cs c := by omega
  simp only [TakeS.next, TakeS.mem, TakeS.at_]
  rw [if_neg hk, if_neg hk]
  have hd : decide (k + 1 + 1 < P.Plain.cs c) = false := decide_eq_false hk2
  have e2 : k + 2 = k + 1 + 1 := by omega
  skip
  clear e2 hk hk2
  have c10 : w.cell? ⟨p, o + 10, none⟩ = some (.int .i64 k) := A.cell 10
  have c7 : w.cell? ⟨p, o + 7, none⟩ = some (.int .i64 c) := A.cell 7
  have W1 := A.wid.2
  go_enter Tryd.func77, Tryd.ntmps77
  go_wp2_with (go_at_call 93; refine (P.cCells _ _ W1).mono ?_; rintro e w1 ⟨rfl, hw1⟩; rw [hw1]; clear hw1)
  obtain ⟨wa, hwa⟩ : ∃ wa, w = wa := ⟨_, rfl⟩
  have hba : Below w.heap.size w wa := hwa ▸ Below.refl _ _
  rw [hwa]
  have Aa := A.below hba
  have keep : ∀ w', Below wa.heap.size wa w' → w'.cell? ⟨p, o + 7, none⟩ = some (.int .i64 c) := fun w' h => (Aa.below h).cell 7
  have hbd : Below wa.heap.size wa wa.drew := (Below.refl wa.heap.size wa).drew
  have RD := keep _ hbd
  go_region_held3 (fun w' => w'.cell? ⟨p, o + 7, none⟩ = some (.int .i64 c)) (first | assumption | exact RD | exact keep _ (by assumption))
    (first
      | (go_at_call 80; refine (tCell (Aa.below hbd).bl ok.pl ok.seen (Aa.below hbd).wid (k := k + 1) (by omega) (by omega)).mono ?_; rintro e w2 ⟨rfl, hb2⟩; have hb2' := bel_trans hbd hb2)
      | (go_at_call 54; refine (H.cWord 0 c 0 0 0 0 0 _ (Aa.below hb2').wid.1).mono ?_; rintro e w3 ⟨rfl, x3, hw3⟩; have hb3' : Below wa.heap.size wa w3 := (by rw [hw3]; exact bel_trans hb2' (((Below.refl _ _).alloc (Nat.le_refl _) _).alloc (by simp) _)); clear hw3)
      | (go_at_call 27; refine (cStore (Aa.below hb3').mem f hc _ _).mono ?_; rintro e w4 ⟨rfl, L4, hm4, st4⟩; have A4 := (Aa.below hb3').step hm4 st4; have S4 : w4.cell? ⟨p, o + 7, none⟩ = some (.int .i64 c) := A4.cell 7; have g4 := (Went.of_below (bel_trans hba hb3') L p).trans (Went.of_step st4 p)))
  go_wp2_with (go_at_call 92; refine (tBehindL A4 ok (k := k + 1) (by omega) (by omega) (by simp only; exact of_decide_eq_false hd)).mono ?_; rintro e w5 ⟨rfl, L5, A5, g5⟩)
  go_ret
  exact ⟨rfl, L5, A5, g4.trans g5⟩
theorem tPushC {x : TakeS} (A : AtI 89 w L s p T la lb o x.cells) (ok : x.Ok) (f : s.Fit) (hc : s.c < 1000000) (r : s.Rng) (hp : x.pc = 6) :
    Calls Tryd.prog 78 #[.pointer (some ⟨p, o, none⟩), .pointer (some ⟨L.b, 0, none⟩)] w fun e w' => e = .returned (.int .i64 (x.next s).pc) ∧ ∃ L', AtI 89 w' L' (x.mem s) p T la lb o ((x.next s).at_ x.pc).cells ∧ Went w L p w' L' := by
  obtain ⟨q, z, pc, c, e, v, k, u, us⟩ := x
  obtain rfl : pc = 6 := hp
  have ok' := (ok.push.next r).pc
  simp only [TakeS.next, TakeS.mem, TakeS.at_]
  simp only at ok'
  have A0 := AtI.sub (d := (TakeS.mk q z 6 c e v k u us).cells) (k := 11) (e := u.cells) A (show 11 ≤ 17 by decide)
  have key : ∀ {w1 : World} {L1 : Loc} {s1 : St}, AtI 89 w1 L1 s1 p T _ _ (o + 11) (u.next s).cells → AtI 89 w1 L1 s1 p T la lb o (TakeS.cells ⟨q, z, 6, c, e, v, k, u.next s, us⟩) := fun h => AtI.up (d := (TakeS.mk q z 6 c e v k u us).cells) (k := 11) (e := u.cells) h A.len rfl
  obtain ⟨b, hb⟩ : ∃ b, ((u.next s).pc == 0) = b := ⟨_, rfl⟩
  rcases b with _ | _
  · have hn : ¬ (u.next s).pc = 0 := by simpa using hb
    rw [if_neg hn]
    go_enter Tryd.func78, Tryd.ntmps78
    go_wp2_with (go_at_call 25; refine (cPushI A0 ok.push f hc r).mono ?_; rintro e w1 ⟨rfl, L1, A1', g1⟩; simp only [hb]; have A1 := key A1')
    go_ret
    exact ⟨rfl, L1, A1, g1⟩
  · have hn : (u.next s).pc = 0 := by simpa using hb
    rw [if_pos hn]
    go_enter Tryd.func78, Tryd.ntmps78
    go_wp2_with (go_at_call 25; refine (cPushI A0 ok.push f hc r).mono ?_; rintro e w1 ⟨rfl, L1, A1', g1⟩; simp only [hb]; have A1 := key A1')
    go_ret
    exact ⟨rfl, L1, A1, g1⟩
end
end Go.Proofs.YtbojljkdpebheaaDoor
