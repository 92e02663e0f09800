/-
  What the functions of Take and Give come to when they are called.
-/
import Derived.Test.YtbojljkdpebheaaDoorKc
import Derived.Test.YtbojljkdpebheaaDoorHand
namespace Go.Proofs.YtbojljkdpebheaaDoor
set_option linter.unusedVariables false
set_option maxRecDepth 100000
open Go.ChangeShapes Go.WideShapes Go.RowKit
open S.Plain (t0 t1 tw nx bw b0 b1 b2 b3)
open H.Plain (hw pL)

theorem fblock3 (a b c d : Int) (w : World) : (Instr.field 102 (.agg #[.int .i64 a, .int .i64 b, .int .i64 c, .int .i64 d]) 3).run Tryd.prog w = .ok (.int .i64 d) w := by kernel_rfl
section
variable {w : World} {L : Loc} {s : St} {p o : Nat} {la lb : List Value} {T : TypeId}
theorem tBlock {x : TakeS} (hb : BlI w p T la lb o x.cells) (hz : U64 x.seen) :
    Calls Tryd.prog 89 #[.pointer (some ⟨p, o, none⟩)] w fun e w' => e = .returned (.int .i64 (t0 x.seen - 1)) ∧ Below w.heap.size w w' := by
  have tb := t0_bounds x.seen
  obtain ⟨tb0, tb1⟩ := tb
  go_enter Tryd.func89, Tryd.ntmps89
  go_wp2_with (go_at_call 79; refine (mFirst hb x.mach hz).mono ?_; rintro e w1 ⟨rfl, hb1⟩)
  go_ret
  exact ⟨rfl, hb1⟩
set_option maxHeartbeats 1000000 in
theorem tCell {x : TakeS} (hb : BlI w p T la lb o x.cells) (hq : x.pl.Ok) (hz : U64 x.seen) (W : Laid w) {k : Int} (k0 : 0 ≤ k) (k1 : k ≤ 100) :
    Calls Tryd.prog 80 #[.pointer (some ⟨p, o, none⟩), .int .i64 k] w fun e w' => e = .returned (.int .i64 (x.ad k)) ∧ Below w.heap.size w w' := by
  have tb0 := (t0_bounds x.seen).1
  have tb1 := (t0_bounds x.seen).2
  have keepb : ∀ w', Below w.heap.size w w' → BlI w' p T la lb o x.cells := fun w' h => hb.below h
  have keep : ∀ w', Below w.heap.size w w' → w'.cell? ⟨p, o, none⟩ = some (.int .i64 x.pl.t) ∧ w'.cell? ⟨p, o + 1, none⟩ = some (.int .i64 x.pl.b) ∧ w'.cell? ⟨p, o + 2, none⟩ = some (.int .i64 x.pl.tb) ∧ w'.cell? ⟨p, o + 3, none⟩ = some (.int .i64 x.pl.hp) ∧ w'.cell? ⟨p, o + 4, none⟩ = some (.int .i64 x.pl.sz) ∧ w'.cell? ⟨p, o + 7, none⟩ = some (.int .i64 x.cls) := fun w' h => ⟨(keepb w' h).cell 0, (keepb w' h).cell 1, (keepb w' h).cell 2, (keepb w' h).cell 3, (keepb w' h).cell 4, (keepb w' h).cell 7⟩
  have hbd : Below w.heap.size w w.drew := (Below.refl w.heap.size w).drew
  have RD := keep _ hbd
  go_enter Tryd.func80, Tryd.ntmps80
  go_wp2
  go_region_held3 (fun w' => w'.cell? ⟨p, o, none⟩ = some (.int .i64 x.pl.t) ∧ w'.cell? ⟨p, o + 1, none⟩ = some (.int .i64 x.pl.b) ∧ w'.cell? ⟨p, o + 2, none⟩ = some (.int .i64 x.pl.tb) ∧ w'.cell? ⟨p, o + 3, none⟩ = some (.int .i64 x.pl.hp) ∧ w'.cell? ⟨p, o + 4, none⟩ = some (.int .i64 x.pl.sz) ∧ w'.cell? ⟨p, o + 7, none⟩ = some (.int .i64 x.cls)) (first | assumption | exact RD | exact keep _ (by assumption))
    (first
      | (go_at_call 89; refine (tBlock (keepb _ hbd) hz).mono ?_; rintro e w1 ⟨rfl, hb1⟩; have hb1' := bel_trans hbd hb1)
      | (go_at_call 94; refine (kCell hq x.cls (by omega) (by omega) k0 k1 _ (W.on hb1')).mono ?_; rintro e w2 ⟨rfl, hb2⟩; have hb2' := bel_trans hb1' hb2))
  go_wp2
  go_ret
  exact ⟨rfl, hb2'⟩
set_option maxHeartbeats 1000000 in
theorem tBehindM {x : TakeS} (A : AtI 89 w L s p T la lb o x.cells) (ok : x.Ok) {k : Int} (k0 : 0 ≤ k) (k1 : k ≤ 8) (hk : k + 1 < P.Plain.cs x.cls) :
    Calls Tryd.prog 92 #[.pointer (some ⟨p, o, none⟩), .int .i64 k] w fun e w' => e = .returned (.int .i64 5) ∧
      ∃ L', AtI 89 w' L' s p T la lb o { x with k := k }.cells ∧ Went w L p w' L' := by
  have c10 : w.cell? ⟨p, o + 10, none⟩ = some (.int .i64 x.k) := A.cell 10; have cf10 := A.free 10
  have A1 : AtI 89 (w.setCell ⟨p, o + 10, none⟩ (.int .i64 k)) L s p T la lb o { x with k := k }.cells := A.set 10 (.int .i64 k)
  have c7 : (w.setCell ⟨p, o + 10, none⟩ (.int .i64 k)).cell? ⟨p, o + 7, none⟩ = some (.int .i64 x.cls) := A1.cell 7
  have g1 : Went w L p (w.setCell ⟨p, o + 10, none⟩ (.int .i64 k)) L := Went.set _ _ _ _ _
  have W1 := A1.wid.2
  go_enter Tryd.func92, Tryd.ntmps92
  go_wp2_with (go_at_call 93; refine (P.cCells _ _ W1).mono ?_; rintro e w1 ⟨rfl, hw1⟩; rw [hw1]; clear hw1)
  go_ret
  exact ⟨rfl, L, A1, g1⟩
set_option maxHeartbeats 2000000 in
theorem tBehindL {x : TakeS} (A : AtI 89 w L s p T la lb o x.cells) (ok : x.Ok) {k : Int} (k0 : 0 ≤ k) (k1 : k ≤ 8) (hk : ¬ k + 1 < P.Plain.cs x.cls) :
    Calls Tryd.prog 92 #[.pointer (some ⟨p, o, none⟩), .int .i64 k] w fun e w' => e = .returned (.int .i64 6) ∧
      ∃ L', AtI 89 w' L' s p T la lb o { x with k := k, push := PushS.new (3 + 3 * x.set + x.cls) (x.ad 1) (x.ad k) x.cls }.cells ∧ Went w L p w' L' := by
  have c10 : w.cell? ⟨p, o + 10, none⟩ = some (.int .i64 x.k) := A.cell 10; have cf10 := A.free 10
  have A1 : AtI 89 (w.setCell ⟨p, o + 10, none⟩ (.int .i64 k)) L s p T la lb o { x with k := k }.cells := A.set 10 (.int .i64 k)
  have c7 : (w.setCell ⟨p, o + 10, none⟩ (.int .i64 k)).cell? ⟨p, o + 7, none⟩ = some (.int .i64 x.cls) := A1.cell 7
  have g1 : Went w L p (w.setCell ⟨p, o + 10, none⟩ (.int .i64 k)) L := Went.set _ _ _ _ _
  have W1 := A1.wid.2
  have hk' : decide (k + 1 < P.Plain.cs x.cls) = false := decide_eq_false hk
  have e0 := ok.e0
  have e1 := ok.e1
  have q0 := ok.c0
  have q2 := ok.c2
  go_enter Tryd.func92, Tryd.ntmps92
  go_wp2_with (go_at_call 93; refine (P.cCells _ _ W1).mono ?_; rintro e w1 ⟨rfl, hw1⟩; rw [hw1]; clear hw1)
  generalize w.setCell ⟨p, o + 10, none⟩ (.int .i64 k) = wa at A1 g1 c7 W1 ⊢
  have keep : ∀ w', Below wa.heap.size wa w' → w'.cell? ⟨p, o + 7, none⟩ = some (.int .i64 x.cls) ∧ w'.cell? ⟨p, o + 8, none⟩ = some (.int .i64 x.set) := fun w' h => ⟨(A1.below h).cell 7, (A1.below h).cell 8⟩
  have hbd : Below wa.heap.size wa wa.drew := (Below.refl wa.heap.size wa).drew
  have RD := keep _ hbd
  refine wp_region_held_drew (S := fun w' => w'.cell? ⟨p, o + 7, none⟩ = some (.int .i64 x.cls) ∧ w'.cell? ⟨p, o + 8, none⟩ = some (.int .i64 x.set)) (by kernel_rfl) RD (fun hHeld => ?_)
  refine takeH (i := 0) 17 (.pointer (some ⟨p, o, none⟩)) rfl rfl (by kernel_rfl) (by kernel_rfl) (by kernel_rfl) (fun _ _ _ h => h) (by rfl) ?_ (by assumption) ?_
  · intro w hSw; (try dsimp only at hSw); go_simp
  simp only [List.setIfInBounds_toArray, List.set_cons_zero, List.set_cons_succ]
  refine takeH (i := 1) 18 (.pointer (some ⟨p, o, none⟩)) rfl rfl (by kernel_rfl) (by kernel_rfl) (by kernel_rfl) (fun _ _ _ h => h) (by rfl) ?_ (by assumption) ?_
  · intro w hSw; (try dsimp only at hSw); go_simp
  simp only [List.setIfInBounds_toArray, List.set_cons_zero, List.set_cons_succ]
  refine takeH (i := 2) 19 (.pointer (some ⟨p, o, none⟩)) rfl rfl (by kernel_rfl) (by kernel_rfl) (by kernel_rfl) (fun _ _ _ h => h) (by rfl) ?_ (by assumption) ?_
  · intro w hSw; (try dsimp only at hSw); go_simp
  simp only [List.setIfInBounds_toArray, List.set_cons_zero, List.set_cons_succ]
  refine takeH (i := 3) 20 (.pointer (some ⟨p, o + 8, none⟩)) rfl rfl (by kernel_rfl) (by kernel_rfl) (by kernel_rfl) (fun _ _ _ h => h) (by rfl) ?_ (by assumption) ?_
  · intro w hSw; (try dsimp only at hSw); go_simp
  simp only [List.setIfInBounds_toArray, List.set_cons_zero, List.set_cons_succ]
  refine takeH (i := 4) 21 (.int .i64 x.set) rfl rfl (by kernel_rfl) (by kernel_rfl) (by kernel_rfl) (fun _ _ _ h => h) (by rfl) ?_ (by assumption) ?_
  · intro w hSw; (try dsimp only at hSw); go_simp
  simp only [List.setIfInBounds_toArray, List.set_cons_zero, List.set_cons_succ]
  refine takeH (i := 5) 22 (.pointer (some ⟨p, o, none⟩)) rfl rfl (by kernel_rfl) (by kernel_rfl) (by kernel_rfl) (fun _ _ _ h => h) (by rfl) ?_ (by assumption) ?_
  · intro w hSw; (try dsimp only at hSw); go_simp
  simp only [List.setIfInBounds_toArray, List.set_cons_zero, List.set_cons_succ]
  refine takeH (i := 6) 23 (.pointer (some ⟨p, o, none⟩)) rfl rfl (by kernel_rfl) (by kernel_rfl) (by kernel_rfl) (fun _ _ _ h => h) (by rfl) ?_ (by assumption) ?_
  · intro w hSw; (try dsimp only at hSw); go_simp
  simp only [List.setIfInBounds_toArray, List.set_cons_zero, List.set_cons_succ]
  refine takeH (i := 7) 24 (.pointer (some ⟨p, o + 7, none⟩)) rfl rfl (by kernel_rfl) (by kernel_rfl) (by kernel_rfl) (fun _ _ _ h => h) (by rfl) ?_ (by assumption) ?_
  · intro w hSw; (try dsimp only at hSw); go_simp
  simp only [List.setIfInBounds_toArray, List.set_cons_zero, List.set_cons_succ]
  refine takeH (i := 8) 25 (.int .i64 x.cls) rfl rfl (by kernel_rfl) (by kernel_rfl) (by kernel_rfl) (fun _ _ _ h => h) (by rfl) ?_ (by assumption) ?_
  · intro w hSw; (try dsimp only at hSw); go_simp
  simp only [List.setIfInBounds_toArray, List.set_cons_zero, List.set_cons_succ]
  refine takeH (i := 10) 27 (.pointer (some ⟨p, o, none⟩)) rfl rfl (by kernel_rfl) (by kernel_rfl) (by kernel_rfl) (fun _ _ _ h => h) (by rfl) ?_ (by assumption) ?_
  · intro w hSw; (try dsimp only at hSw); go_simp
  simp only [List.setIfInBounds_toArray, List.set_cons_zero, List.set_cons_succ]
  refine takeH (i := 12) 29 (.pointer (some ⟨p, o, none⟩)) rfl rfl (by kernel_rfl) (by kernel_rfl) (by kernel_rfl) (fun _ _ _ h => h) (by rfl) ?_ (by assumption) ?_
  · intro w hSw; (try dsimp only at hSw); go_simp
  simp only [List.setIfInBounds_toArray, List.set_cons_zero, List.set_cons_succ]
  refine takeH (i := 13) 30 (.int .i64 k) rfl rfl (by kernel_rfl) (by kernel_rfl) (by kernel_rfl) (fun _ _ _ h => h) (by rfl) ?_ (by assumption) ?_
  · intro w hSw; (try dsimp only at hSw); go_simp
  simp only [List.setIfInBounds_toArray, List.set_cons_zero, List.set_cons_succ]
  refine takeH (i := 15) 32 (.pointer (some ⟨p, o, none⟩)) rfl rfl (by kernel_rfl) (by kernel_rfl) (by kernel_rfl) (fun _ _ _ h => h) (by rfl) ?_ (by assumption) ?_
  · intro w hSw; (try dsimp only at hSw); go_simp
  simp only [List.setIfInBounds_toArray, List.set_cons_zero, List.set_cons_succ]
  refine takeH (i := 16) 33 (.pointer (some ⟨p, o, none⟩)) rfl rfl (by kernel_rfl) (by kernel_rfl) (by kernel_rfl) (fun _ _ _ h => h) (by rfl) ?_ (by assumption) ?_
  · intro w hSw; (try dsimp only at hSw); go_simp
  simp only [List.setIfInBounds_toArray, List.set_cons_zero, List.set_cons_succ]
  refine takeH (i := 17) 34 (.pointer (some ⟨p, o + 7, none⟩)) rfl rfl (by kernel_rfl) (by kernel_rfl) (by kernel_rfl) (fun _ _ _ h => h) (by rfl) ?_ (by assumption) ?_
  · intro w hSw; (try dsimp only at hSw); go_simp
  simp only [List.setIfInBounds_toArray, List.set_cons_zero, List.set_cons_succ]
  refine takeH (i := 18) 35 (.int .i64 x.cls) rfl rfl (by kernel_rfl) (by kernel_rfl) (by kernel_rfl) (fun _ _ _ h => h) (by rfl) ?_ (by assumption) ?_
  · intro w hSw; (try dsimp only at hSw); go_simp
  simp only [List.setIfInBounds_toArray, List.set_cons_zero, List.set_cons_succ]
  refine wpAnyH_ready (rs := [9]) (by kernel_rfl) (by simp) ?_
  refine AllReadyH.cons rfl (fun K hK => ?_) AllReadyH.nil
  go_simp
  refine (P.cList _ _ e0 e1 q0 q2 _).mono ?_; rintro e w1 ⟨rfl, hw1⟩; rw [hw1]; clear hw1
  refine hK.out _ _ RD (fun hHeld => ?_)
  clear hK K
  try simp only [Act.put, List.setIfInBounds_toArray, List.set_cons_zero, List.set_cons_succ]
  refine wpAnyH_ready (rs := [11]) (by kernel_rfl) (by simp) ?_
  refine AllReadyH.cons rfl (fun K hK => ?_) AllReadyH.nil
  go_simp
  refine (tCell (x := { x with k := k }) (A1.below hbd).bl ok.pl ok.seen (A1.below hbd).wid (by decide) (by decide)).mono ?_; rintro e w2 ⟨rfl, hb2'⟩; have hb2 := bel_trans hbd hb2'
  refine hK.out _ _ (keep _ hb2) (fun hHeld => ?_)
  clear hK K
  try simp only [Act.put, List.setIfInBounds_toArray, List.set_cons_zero, List.set_cons_succ]
  refine wpAnyH_ready (rs := [14]) (by kernel_rfl) (by simp) ?_
  refine AllReadyH.cons rfl (fun K hK => ?_) AllReadyH.nil
  go_simp
  refine (tCell (x := { x with k := k }) (A1.below hb2).bl ok.pl ok.seen (A1.below hb2).wid k0 (by omega)).mono ?_; rintro e w3 ⟨rfl, hb3'⟩; have hb3 := bel_trans hb2 hb3'
  refine hK.out _ _ (keep _ hb3) (fun hHeld => ?_)
  clear hK K
  try simp only [Act.put, List.setIfInBounds_toArray, List.set_cons_zero, List.set_cons_succ]
  refine wpAnyH_ready (rs := [19]) (by kernel_rfl) (by simp) ?_
  refine AllReadyH.cons rfl (fun K hK => ?_) AllReadyH.nil
  go_simp
  refine (cNewPush _ _ _ _ _).mono ?_; rintro e w4 ⟨rfl, hw4⟩; have k4 : w4.heap[w3.heap.size]? = some (.cells (PushS.new (3 + 3 * x.set + x.cls) (x.ad 1) (x.ad k) x.cls).cells 79 (0, 0)) := (by rw [hw4]; exact heap_alloc_new _ _); have hb4 : Below wa.heap.size wa w4 := (by rw [hw4]; exact S.bal hb3 _); obtain ⟨y, hy⟩ : ∃ y, w3.heap.size = y := ⟨_, rfl⟩; rw [hy] at k4 ⊢; clear hy hw4; have A4 := A1.below hb4; have m0 : w4.cell? ⟨y, 0, none⟩ = some (.int .i64 (3 + 3 * x.set + x.cls)) := cell_of_row w4 _ _ _ _ _ k4; have m1 : w4.cell? ⟨y, 1, none⟩ = some (.int .i64 (x.ad 1)) := cell_of_row w4 _ _ _ _ _ k4; have m2 : w4.cell? ⟨y, 2, none⟩ = some (.int .i64 (x.ad k)) := cell_of_row w4 _ _ _ _ _ k4; have m3 : w4.cell? ⟨y, 3, none⟩ = some (.int .i64 x.cls) := cell_of_row w4 _ _ _ _ _ k4; have m4 : w4.cell? ⟨y, 4, none⟩ = some (.int .u64 0) := cell_of_row w4 _ _ _ _ _ k4; have m5 : w4.cell? ⟨y, 5, none⟩ = some (.func (.func 43) #[] #[]) := cell_of_row w4 _ _ _ _ _ k4; have d11 : w4.cell? ⟨p, o + 11, none⟩ = some (.int .i64 x.push.hd) := A4.cell 11; have df11 := A4.free 11; have d12 : w4.cell? ⟨p, o + 12, none⟩ = some (.int .i64 x.push.fst) := A4.cell 12; have df12 := A4.free 12; have d13 : w4.cell? ⟨p, o + 13, none⟩ = some (.int .i64 x.push.lst) := A4.cell 13; have df13 := A4.free 13; have d14 : w4.cell? ⟨p, o + 14, none⟩ = some (.int .i64 x.push.cls) := A4.cell 14; have df14 := A4.free 14; have d15 : w4.cell? ⟨p, o + 15, none⟩ = some (.int .u64 x.push.seen) := A4.cell 15; have df15 := A4.free 15; have d16 : w4.cell? ⟨p, o + 16, none⟩ = some (pushFn x.push.pc) := A4.cell 16; have df16 := A4.free 16; have A5 := AtI.sets [.int .i64 (3 + 3 * x.set + x.cls), .int .i64 (x.ad 1), .int .i64 (x.ad k), .int .i64 x.cls, .int .u64 0, .func (.func 43) #[] #[]] (k := 11) A4 (show 11 + 6 ≤ 17 by decide); have g5 := (g1.trans (Went.of_below hb4 L p)).trans (Went.sets p L [.int .i64 (3 + 3 * x.set + x.cls), .int .i64 (x.ad 1), .int .i64 (x.ad k), .int .i64 x.cls, .int .u64 0, .func (.func 43) #[] #[]] w4 (o + 11))
  refine hK.out _ _ (keep _ hb4) (fun hHeld => ?_)
  clear hK K
  try simp only [Act.put, List.setIfInBounds_toArray, List.set_cons_zero, List.set_cons_succ]
  refine takeH (i := 20) 37 (.pointer (some ⟨y, 0, none⟩)) rfl rfl (by kernel_rfl) (by kernel_rfl) (by kernel_rfl) (fun _ _ _ h => h) (by rfl) ?_ (by assumption) ?_
  · intro w hSw; (try dsimp only at hSw); go_simp
  simp only [List.setIfInBounds_toArray, List.set_cons_zero, List.set_cons_succ]
  refine wpAnyH_ready (rs := [21]) (by kernel_rfl) (by simp) ?_
  refine AllReadyH.cons rfl (fun K hK => ?_) AllReadyH.nil
  go_simp
  refine hK.out _ _ (keep _ hb4) (fun hHeld => ?_)
  clear hK K
  try simp only [Act.put, List.setIfInBounds_toArray, List.set_cons_zero, List.set_cons_succ]
  refine takeH (i := 22) 39 (.pointer (some ⟨p, o, none⟩)) rfl rfl (by kernel_rfl) (by kernel_rfl) (by kernel_rfl) (fun _ _ _ h => h) (by rfl) ?_ (by assumption) ?_
  · intro w hSw; (try dsimp only at hSw); go_simp
  simp only [List.setIfInBounds_toArray, List.set_cons_zero, List.set_cons_succ]
  refine takeH (i := 23) 40 (.pointer (some ⟨p, o + 11, none⟩)) rfl rfl (by kernel_rfl) (by kernel_rfl) (by kernel_rfl) (fun _ _ _ h => h) (by rfl) ?_ (by assumption) ?_
  · intro w hSw; (try dsimp only at hSw); go_simp
  simp only [List.setIfInBounds_toArray, List.set_cons_zero, List.set_cons_succ]
  refine wpAnyH_ready (rs := [24]) (by kernel_rfl) (by simp) ?_
  refine AllReadyH.cons rfl (fun K hK => ?_) AllReadyH.nil
  go_simp
  refine hK.out _ _ ⟨A5.cell 7, A5.cell 8⟩ (fun hHeld => ?_)
  clear hK K
  try simp only [Act.put, List.setIfInBounds_toArray, List.set_cons_zero, List.set_cons_succ]
  refine wpAnyH_done (by kernel_rfl) ?_ _
  go_wp2
  go_ret
  exact ⟨rfl, L, A5, g5⟩
end
end Go.Proofs.YtbojljkdpebheaaDoor
