/-
  What the functions of a Reserve come to when they are called: it may lie within a block of another machine.
-/
import Derived.Test.YtbojljkdpebheaaDoorKd
import Derived.Test.YtbojljkdpebheaaDoorAp
namespace Go.Proofs.YtbojljkdpebheaaDoor
set_option linter.unusedVariables false
set_option maxRecDepth 100000
open Go.ChangeShapes Go.WideShapes Go.RowKit
open S.Plain (t0 t1 tw nx bw b0 b1 b2 b3)
open H.Plain (hw pL)
section
variable {w : World} {L : Loc} {s : St} {p o : Nat} {la lb : List Value} {T : TypeId}
theorem rList {x : ResS} (hb : BlI w p T la lb o x.cells) (c0 : 0 ≤ x.cls) (c2 : x.cls ≤ 2) (e0 : 0 ≤ x.set) (e1 : x.set ≤ 1) :
    Calls Tryd.prog 59 #[.pointer (some ⟨p, o, none⟩)] w fun e w' => e = .returned (.int .i64 x.hd) ∧ Below w.heap.size w w' := by
  have keep : ∀ w', Below w.heap.size w w' → w'.cell? ⟨p, o + 5, none⟩ = some (.int .i64 x.cls) ∧ w'.cell? ⟨p, o + 6, none⟩ = some (.int .i64 x.set) := fun w' h => ⟨(hb.below h).cell 5, (hb.below h).cell 6⟩
  have hbd : Below w.heap.size w w.drew := (Below.refl w.heap.size w).drew
  have RD := keep _ hbd
  go_enter Tryd.func59, Tryd.ntmps59
  go_wp2
  go_region_held3 (fun w' => w'.cell? ⟨p, o + 5, none⟩ = some (.int .i64 x.cls) ∧ w'.cell? ⟨p, o + 6, none⟩ = some (.int .i64 x.set)) (first | assumption | exact RD | exact keep _ (by assumption))
    ((go_at_call 70; refine (P.cList _ _ e0 e1 c0 c2 _).mono ?_; rintro e w1 ⟨rfl, hw1⟩; have hb1 : Below w.heap.size w w1 := (by rw [hw1]; exact hbd); clear hw1))
  go_wp2
  go_ret
  exact ⟨rfl, hb1⟩
theorem cResCell {x : ResS} (hb : BlI w p T la lb o x.cells) :
    Calls Tryd.prog 31 #[.pointer (some ⟨p, o, none⟩)] w fun e w' => e = .returned (.int .i64 x.cell) ∧ w' = w := by
  have c30 : w.cell? ⟨p, o + 30, none⟩ = some (.int .i64 x.cell) := hb.cell 30
  go_enter Tryd.func31, Tryd.ntmps31
  go_wp2
  go_ret
  exact ⟨rfl, rfl⟩
set_option maxHeartbeats 1000000 in
theorem rBeginB {x : ResS} (B : BlI w p T la lb o x.cells) (c0 : 0 ≤ x.cls) (c2 : x.cls ≤ 2) (e0 : 0 ≤ x.set) (e1 : x.set ≤ 1) :
    Calls Tryd.prog 45 #[.pointer (some ⟨p, o, none⟩)] w fun e w' => e = .returned (.int .i64 1) ∧
      BlI w' p T la lb o { x with pop := PopS.new x.hd }.cells ∧ Kept [p] w w' := by
  obtain ⟨j, hj⟩ : ∃ j, x.hd = j := ⟨_, rfl⟩
  rw [hj]
  go_enter Tryd.func45, Tryd.ntmps45
  go_wp2_with (first
    | (go_at_call 59; refine (rList B c0 c2 e0 e1).mono ?_; rintro e w1 ⟨rfl, hb1⟩; rw [hj])
    | (go_at_call 58; refine (cNewPop j _).mono ?_; rintro e w2 ⟨rfl, hw2⟩; have k2 : w2.heap[w1.heap.size]? = some (.cells (PopS.new j).cells 74 (0, 0)) := (by rw [hw2]; exact heap_alloc_new _ _); have hb2 : Below w.heap.size w w2 := (by rw [hw2]; exact S.bal hb1 _); obtain ⟨y, hy⟩ : ∃ y, w1.heap.size = y := ⟨_, rfl⟩; rw [hy] at k2 ⊢; clear hy hw2; have A2 := B.below hb2; have m0 : w2.cell? ⟨y, 0, none⟩ = some (.int .i64 j) := cell_of_row w2 _ _ _ _ _ k2; have m1 : w2.cell? ⟨y, 1, none⟩ = some (.int .i64 0) := cell_of_row w2 _ _ _ _ _ k2; have m2 : w2.cell? ⟨y, 2, none⟩ = some (.int .u64 0) := cell_of_row w2 _ _ _ _ _ k2; have m3 : w2.cell? ⟨y, 3, none⟩ = some (.func (.func 69) #[] #[]) := cell_of_row w2 _ _ _ _ _ k2; have d8 : w2.cell? ⟨p, o + 8, none⟩ = some (.int .i64 x.pop.hd) := A2.cell 8; have df8 := A2.free 8; have d9 : w2.cell? ⟨p, o + 9, none⟩ = some (.int .i64 x.pop.link) := A2.cell 9; have df9 := A2.free 9; have d10 : w2.cell? ⟨p, o + 10, none⟩ = some (.int .u64 x.pop.seen) := A2.cell 10; have df10 := A2.free 10; have d11 : w2.cell? ⟨p, o + 11, none⟩ = some (popFn x.pop.pc) := A2.cell 11; have df11 := A2.free 11))
  have A5 := BlI.sets [.int .i64 j, .int .i64 0, .int .u64 0, .func (.func 69) #[] #[]] (k := 8) A2 (show 8 + 4 ≤ 31 by decide)
  have g5 := (Kept.of_below (F := [p]) hb2).trans (Kept.sets p [.int .i64 j, .int .i64 0, .int .u64 0, .func (.func 69) #[] #[]] w2 (o + 8)) (fun _ h => .inl h)
  go_ret
  exact ⟨rfl, A5, g5⟩
theorem rBegin {x : ResS} (A : AtI 89 w L s p T la lb o x.cells) (c0 : 0 ≤ x.cls) (c2 : x.cls ≤ 2) (e0 : 0 ≤ x.set) (e1 : x.set ≤ 1) :
    Calls Tryd.prog 45 #[.pointer (some ⟨p, o, none⟩)] w fun e w' => e = .returned (.int .i64 1) ∧
      AtI 89 w' L s p T la lb o { x with pop := PopS.new x.hd }.cells ∧ Went w L p w' L := by
  refine (rBeginB A.bl c0 c2 e0 e1).mono ?_
  rintro e w' ⟨rfl, B, k⟩
  exact ⟨rfl, A.on B k⟩
set_option maxHeartbeats 1000000 in
theorem rPopA {x : ResS} (A : AtI 89 w L s p T la lb o x.cells) (ok : x.Ok) (f : s.Fit) (hc : s.c < 1000000) (r : s.Rng) (hp : x.pc = 1) (hn : (x.pop.next s).pc ≠ 0) :
    Calls Tryd.prog 46 #[.pointer (some ⟨p, o, none⟩), .pointer (some ⟨L.b, 0, none⟩)] w fun e w' => e = .returned (.int .i64 (x.next s).pc) ∧ ∃ L', AtI 89 w' L' (x.mem s) p T la lb o ((x.next s).at_ x.pc).cells ∧ Went w L p w' L' := by
  obtain ⟨q, c, e, pc, pop, tk, z, cl⟩ := x
  obtain rfl : pc = 1 := hp
  have A0 := AtI.sub (d := (ResS.mk q c e 1 pop tk z cl).cells) (k := 8) (e := pop.cells) A (show 8 ≤ 31 by decide)
  have key : ∀ {w1 : World} {L1 : Loc} {s1 : St} {y : PopS}, AtI 89 w1 L1 s1 p T _ _ (o + 8) y.cells → AtI 89 w1 L1 s1 p T la lb o (ResS.cells ⟨q, c, e, 1, y, tk, z, cl⟩) := fun {w1 L1 s1 y} h => AtI.up (d := (ResS.mk q c e 1 pop tk z cl).cells) (k := 8) (e := pop.cells) h A.len rfl
  simp only at hn
  have hb : ((pop.next s).pc == 0) = false := by simpa using hn
  simp only [ResS.next, ResS.mem, ResS.at_, if_neg hn]
  obtain ⟨y, hy⟩ : ∃ y, pop.next s = y := ⟨_, rfl⟩
  go_enter Tryd.func46, Tryd.ntmps46
  go_wp2_with (go_at_call 60; refine (cPopI A0 ok.pop f hc r).mono ?_; rintro e' w1 ⟨rfl, L1, A1', g1⟩; simp only [hb]; rw [hy] at A1'; have A1 := key A1')
  go_ret
  rw [hy]
  exact ⟨rfl, L1, A1, g1⟩
set_option maxHeartbeats 1000000 in
theorem rPopB {x : ResS} (A : AtI 89 w L s p T la lb o x.cells) (ok : x.Ok) (f : s.Fit) (hc : s.c < 1000000) (r : s.Rng) (hp : x.pc = 1) (hn : (x.pop.next s).pc = 0) (hz : t0 (x.pop.next s).seen ≠ 0) :
    Calls Tryd.prog 46 #[.pointer (some ⟨p, o, none⟩), .pointer (some ⟨L.b, 0, none⟩)] w fun e w' => e = .returned (.int .i64 (x.next s).pc) ∧ ∃ L', AtI 89 w' L' (x.mem s) p T la lb o ((x.next s).at_ x.pc).cells ∧ Went w L p w' L' := by
  obtain ⟨q, c, e, pc, pop, tk, z, cl⟩ := x
  obtain rfl : pc = 1 := hp
  have A0 := AtI.sub (d := (ResS.mk q c e 1 pop tk z cl).cells) (k := 8) (e := pop.cells) A (show 8 ≤ 31 by decide)
  have key : ∀ {w1 : World} {L1 : Loc} {s1 : St} {y : PopS}, AtI 89 w1 L1 s1 p T _ _ (o + 8) y.cells → AtI 89 w1 L1 s1 p T la lb o (ResS.cells ⟨q, c, e, 1, y, tk, z, cl⟩) := fun {w1 L1 s1 y} h => AtI.up (d := (ResS.mk q c e 1 pop tk z cl).cells) (k := 8) (e := pop.cells) h A.len rfl
  simp only at hn hz
  have hb : ((pop.next s).pc == 0) = true := by simpa using hn
  simp only [ResS.next, ResS.mem, ResS.at_, if_pos hn, if_neg hz]
  obtain ⟨y, hy⟩ : ∃ y, pop.next s = y := ⟨_, rfl⟩
  have h0 : y.pc = 0 := hy ▸ hn
  rw [hy] at hz ⊢
  obtain ⟨v, ht⟩ : ∃ v, t0 y.seen = v := ⟨_, rfl⟩
  rw [ht] at hz ⊢
  have hz' : (v != 0) = true := by simpa using hz
  go_enter Tryd.func46, Tryd.ntmps46
  go_wp2_with (first
    | (go_at_call 60; refine (cPopI A0 ok.pop f hc r).mono ?_; rintro e' w1 ⟨rfl, L1, A1', g1⟩; simp only [hb]; rw [hy] at A1'; have A1 := key A1')
    | (go_at_call 61; refine (cResultI A1'.bl (hy ▸ ok.pop.next r) h0).mono ?_; rintro e' w2 ⟨rfl, hb2⟩; have A2 := A1.below hb2; have d30 : w2.cell? ⟨p, o + 30, none⟩ = some (.int .i64 cl) := A2.cell 30; have df30 := A2.free 30; have d29 : w2.cell? ⟨p, o + 29, none⟩ = some (.int .u64 z) := A2.cell 29; have df29 := A2.free 29; rw [ht]; have A3 := (A2.set 30 (.int .i64 v)).set 29 (.int .u64 y.seen); have g3 := ((g1.trans (Went.of_below hb2 L1 p)).trans (Went.set _ _ p (o + 30) (.int .i64 v))).trans (Went.set _ _ p (o + 29) (.int .u64 y.seen)); have n30 : ((w2.setCell ⟨p, o + 30, none⟩ (.int .i64 v)).setCell ⟨p, o + 29, none⟩ (.int .u64 y.seen)).cell? ⟨p, o + 30, none⟩ = some (.int .i64 v) := A3.cell 30; have n29 : (w2.setCell ⟨p, o + 30, none⟩ (.int .i64 v)).cell? ⟨p, o + 29, none⟩ = some (.int .u64 z) := (A2.set 30 (.int .i64 v)).cell 29))
  go_ret
  exact ⟨rfl, L1, A3, g3⟩
set_option maxHeartbeats 4000000 in
theorem rPopC {x : ResS} (A : AtI 89 w L s p T la lb o x.cells) (ok : x.Ok) (f : s.Fit) (hc : s.c < 1000000) (r : s.Rng) (hp : x.pc = 1) (hn : (x.pop.next s).pc = 0) (hz : t0 (x.pop.next s).seen = 0) :
    Calls Tryd.prog 46 #[.pointer (some ⟨p, o, none⟩), .pointer (some ⟨L.b, 0, none⟩)] w fun e w' => e = .returned (.int .i64 (x.next s).pc) ∧ ∃ L', AtI 89 w' L' (x.mem s) p T la lb o ((x.next s).at_ x.pc).cells ∧ Went w L p w' L' := by
  obtain ⟨q, c, e, pc, pop, tk, z, cl⟩ := x
  obtain rfl : pc = 1 := hp
  have A0 := AtI.sub (d := (ResS.mk q c e 1 pop tk z cl).cells) (k := 8) (e := pop.cells) A (show 8 ≤ 31 by decide)
  have key : ∀ {w1 : World} {L1 : Loc} {s1 : St} {y : PopS}, AtI 89 w1 L1 s1 p T _ _ (o + 8) y.cells → AtI 89 w1 L1 s1 p T la lb o (ResS.cells ⟨q, c, e, 1, y, tk, z, cl⟩) := fun {w1 L1 s1 y} h => AtI.up (d := (ResS.mk q c e 1 pop tk z cl).cells) (k := 8) (e := pop.cells) h A.len rfl
  simp only at hn hz
  have hb : ((pop.next s).pc == 0) = true := by simpa using hn
  simp only [ResS.next, ResS.mem, ResS.at_, if_pos hn, if_pos hz]
  obtain ⟨y, hy⟩ : ∃ y, pop.next s = y := ⟨_, rfl⟩
  have h0 : y.pc = 0 := hy ▸ hn
  rw [hy] at hz ⊢
  have ht : t0 y.seen = 0 := hz
  go_enter Tryd.func46, Tryd.ntmps46
  go_wp2_with (first
    | (go_at_call 60; refine (cPopI A0 ok.pop f hc r).mono ?_; rintro e' w1 ⟨rfl, L1, A1', g1⟩; simp only [hb]; rw [hy] at A1'; have A1 := key A1')
    | (go_at_call 61; refine (cResultI A1'.bl (hy ▸ ok.pop.next r) h0).mono ?_; rintro e' w2 ⟨rfl, hb2⟩; have A2 := A1.below hb2; have d30 : w2.cell? ⟨p, o + 30, none⟩ = some (.int .i64 cl) := A2.cell 30; have df30 := A2.free 30; have d29 : w2.cell? ⟨p, o + 29, none⟩ = some (.int .u64 z) := A2.cell 29; have df29 := A2.free 29; rw [ht]; have A3 := (A2.set 30 (.int .i64 0)).set 29 (.int .u64 y.seen); have g3 := ((g1.trans (Went.of_below hb2 L1 p)).trans (Went.set _ _ p (o + 30) (.int .i64 0))).trans (Went.set _ _ p (o + 29) (.int .u64 y.seen)); have n30 : ((w2.setCell ⟨p, o + 30, none⟩ (.int .i64 0)).setCell ⟨p, o + 29, none⟩ (.int .u64 y.seen)).cell? ⟨p, o + 30, none⟩ = some (.int .i64 0) := A3.cell 30; have n29 : (w2.setCell ⟨p, o + 30, none⟩ (.int .i64 0)).cell? ⟨p, o + 29, none⟩ = some (.int .u64 z) := (A2.set 30 (.int .i64 0)).cell 29))
  generalize (w2.setCell ⟨p, o + 30, none⟩ (.int .i64 0)).setCell ⟨p, o + 29, none⟩ (.int .u64 y.seen) = wa at A3 g3 n30 ⊢
  have keep : ∀ w', Below wa.heap.size wa w' → w'.cell? ⟨p, o, none⟩ = some (.int .i64 q.t) ∧ w'.cell? ⟨p, o + 1, none⟩ = some (.int .i64 q.b) ∧ w'.cell? ⟨p, o + 2, none⟩ = some (.int .i64 q.tb) ∧ w'.cell? ⟨p, o + 3, none⟩ = some (.int .i64 q.hp) ∧ w'.cell? ⟨p, o + 4, none⟩ = some (.int .i64 q.sz) ∧ w'.cell? ⟨p, o + 5, none⟩ = some (.int .i64 c) ∧ w'.cell? ⟨p, o + 6, none⟩ = some (.int .i64 e) := fun w' h => ⟨(A3.below h).cell 0, (A3.below h).cell 1, (A3.below h).cell 2, (A3.below h).cell 3, (A3.below h).cell 4, (A3.below h).cell 5, (A3.below h).cell 6⟩
  have hbd : Below wa.heap.size wa wa.drew := (Below.refl wa.heap.size wa).drew
  have RD := keep _ hbd
  clear n29 d29 d30 df29 df30
  refine wp_region_held_drew (S := fun w' => w'.cell? ⟨p, o, none⟩ = some (.int .i64 q.t) ∧ w'.cell? ⟨p, o + 1, none⟩ = some (.int .i64 q.b) ∧ w'.cell? ⟨p, o + 2, none⟩ = some (.int .i64 q.tb) ∧ w'.cell? ⟨p, o + 3, none⟩ = some (.int .i64 q.hp) ∧ w'.cell? ⟨p, o + 4, none⟩ = some (.int .i64 q.sz) ∧ w'.cell? ⟨p, o + 5, none⟩ = some (.int .i64 c) ∧ w'.cell? ⟨p, o + 6, none⟩ = some (.int .i64 e)) (by kernel_rfl) RD (fun hHeld => ?_)
  refine takeH (i := 0) 29 (.pointer (some ⟨p, o, none⟩)) rfl rfl (by kernel_rfl) (by kernel_rfl) (by kernel_rfl) (fun _ _ _ h => h) (by rfl) ?_ (by assumption) ?_
  · intro w hSw; (try dsimp only at hSw); go_simp
  simp only [List.setIfInBounds_toArray, List.set_cons_zero, List.set_cons_succ]
  refine takeH (i := 1) 30 (.pointer (some ⟨p, o, none⟩)) rfl rfl (by kernel_rfl) (by kernel_rfl) (by kernel_rfl) (fun _ _ _ h => h) (by rfl) ?_ (by assumption) ?_
  · intro w hSw; (try dsimp only at hSw); go_simp
  simp only [List.setIfInBounds_toArray, List.set_cons_zero, List.set_cons_succ]
  refine takeH (i := 2) 31 (.pointer (some ⟨p, o, none⟩)) rfl rfl (by kernel_rfl) (by kernel_rfl) (by kernel_rfl) (fun _ _ _ h => h) (by rfl) ?_ (by assumption) ?_
  · intro w hSw; (try dsimp only at hSw); go_simp
  simp only [List.setIfInBounds_toArray, List.set_cons_zero, List.set_cons_succ]
  refine takeH (i := 3) 32 (.pointer (some ⟨p, o, none⟩)) rfl rfl (by kernel_rfl) (by kernel_rfl) (by kernel_rfl) (fun _ _ _ h => h) (by rfl) ?_ (by assumption) ?_
  · intro w hSw; (try dsimp only at hSw); go_simp
  simp only [List.setIfInBounds_toArray, List.set_cons_zero, List.set_cons_succ]
  refine takeH (i := 4) 33 (.agg #[.int .i64 q.t, .int .i64 q.b, .int .i64 q.tb, .int .i64 q.hp, .int .i64 q.sz]) rfl rfl (by kernel_rfl) (by kernel_rfl) (by kernel_rfl) (fun _ _ _ h => h) (by rfl) ?_ (by assumption) ?_
  · intro w hSw; (try dsimp only at hSw); go_simp
  simp only [List.setIfInBounds_toArray, List.set_cons_zero, List.set_cons_succ]
  refine takeH (i := 5) 34 (.pointer (some ⟨p, o, none⟩)) rfl rfl (by kernel_rfl) (by kernel_rfl) (by kernel_rfl) (fun _ _ _ h => h) (by rfl) ?_ (by assumption) ?_
  · intro w hSw; (try dsimp only at hSw); go_simp
  simp only [List.setIfInBounds_toArray, List.set_cons_zero, List.set_cons_succ]
  refine takeH (i := 6) 35 (.pointer (some ⟨p, o, none⟩)) rfl rfl (by kernel_rfl) (by kernel_rfl) (by kernel_rfl) (fun _ _ _ h => h) (by rfl) ?_ (by assumption) ?_
  · intro w hSw; (try dsimp only at hSw); go_simp
  simp only [List.setIfInBounds_toArray, List.set_cons_zero, List.set_cons_succ]
  refine takeH (i := 7) 36 (.pointer (some ⟨p, o + 5, none⟩)) rfl rfl (by kernel_rfl) (by kernel_rfl) (by kernel_rfl) (fun _ _ _ h => h) (by rfl) ?_ (by assumption) ?_
  · intro w hSw; (try dsimp only at hSw); go_simp
  simp only [List.setIfInBounds_toArray, List.set_cons_zero, List.set_cons_succ]
  refine takeH (i := 8) 37 (.int .i64 c) rfl rfl (by kernel_rfl) (by kernel_rfl) (by kernel_rfl) (fun _ _ _ h => h) (by rfl) ?_ (by assumption) ?_
  · intro w hSw; (try dsimp only at hSw); go_simp
  simp only [List.setIfInBounds_toArray, List.set_cons_zero, List.set_cons_succ]
  refine takeH (i := 9) 38 (.pointer (some ⟨p, o, none⟩)) rfl rfl (by kernel_rfl) (by kernel_rfl) (by kernel_rfl) (fun _ _ _ h => h) (by rfl) ?_ (by assumption) ?_
  · intro w hSw; (try dsimp only at hSw); go_simp
  simp only [List.setIfInBounds_toArray, List.set_cons_zero, List.set_cons_succ]
  refine takeH (i := 10) 39 (.pointer (some ⟨p, o, none⟩)) rfl rfl (by kernel_rfl) (by kernel_rfl) (by kernel_rfl) (fun _ _ _ h => h) (by rfl) ?_ (by assumption) ?_
  · intro w hSw; (try dsimp only at hSw); go_simp
  simp only [List.setIfInBounds_toArray, List.set_cons_zero, List.set_cons_succ]
  refine takeH (i := 11) 40 (.pointer (some ⟨p, o + 6, none⟩)) rfl rfl (by kernel_rfl) (by kernel_rfl) (by kernel_rfl) (fun _ _ _ h => h) (by rfl) ?_ (by assumption) ?_
  · intro w hSw; (try dsimp only at hSw); go_simp
  simp only [List.setIfInBounds_toArray, List.set_cons_zero, List.set_cons_succ]
  refine takeH (i := 12) 41 (.int .i64 e) rfl rfl (by kernel_rfl) (by kernel_rfl) (by kernel_rfl) (fun _ _ _ h => h) (by rfl) ?_ (by assumption) ?_
  · intro w hSw; (try dsimp only at hSw); go_simp
  simp only [List.setIfInBounds_toArray, List.set_cons_zero, List.set_cons_succ]
  refine wpAnyH_ready (rs := [13]) (by kernel_rfl) (by simp) ?_
  refine AllReadyH.cons rfl (fun K hK => ?_) AllReadyH.nil
  go_simp
  refine (cNewTake q c e _).mono ?_; rintro e' w5 ⟨w4, rfl, hb4, hw5⟩; have k5 : w5.heap[w4.heap.size]? = some (.cells (TakeS.new q c e).cells 81 (0, 0)) := (by rw [hw5]; exact heap_alloc_new _ _); have hb5 : Below wa.heap.size wa w5 := (by rw [hw5]; exact S.bal (bel_trans hbd hb4) _); obtain ⟨i, hi⟩ : ∃ i, w4.heap.size = i := ⟨_, rfl⟩; rw [hi] at k5 ⊢; clear hi hw5; have A5 := A3.below hb5; have m0 : w5.cell? ⟨i, 0, none⟩ = some (.int .i64 q.t) := cell_of_row w5 _ _ _ _ _ k5; have m1 : w5.cell? ⟨i, 1, none⟩ = some (.int .i64 q.b) := cell_of_row w5 _ _ _ _ _ k5; have m2 : w5.cell? ⟨i, 2, none⟩ = some (.int .i64 q.tb) := cell_of_row w5 _ _ _ _ _ k5; have m3 : w5.cell? ⟨i, 3, none⟩ = some (.int .i64 q.hp) := cell_of_row w5 _ _ _ _ _ k5; have m4 : w5.cell? ⟨i, 4, none⟩ = some (.int .i64 q.sz) := cell_of_row w5 _ _ _ _ _ k5; have m5 : w5.cell? ⟨i, 5, none⟩ = some (.int .u64 0) := cell_of_row w5 _ _ _ _ _ k5; have m6 : w5.cell? ⟨i, 6, none⟩ = some (.int .i64 1) := cell_of_row w5 _ _ _ _ _ k5; have m7 : w5.cell? ⟨i, 7, none⟩ = some (.int .i64 c) := cell_of_row w5 _ _ _ _ _ k5; have m8 : w5.cell? ⟨i, 8, none⟩ = some (.int .i64 e) := cell_of_row w5 _ _ _ _ _ k5; have m9 : w5.cell? ⟨i, 9, none⟩ = some (.int .i64 0) := cell_of_row w5 _ _ _ _ _ k5; have m10 : w5.cell? ⟨i, 10, none⟩ = some (.int .i64 0) := cell_of_row w5 _ _ _ _ _ k5; have m11 : w5.cell? ⟨i, 11, none⟩ = some (.int .i64 0) := cell_of_row w5 _ _ _ _ _ k5; have m12 : w5.cell? ⟨i, 12, none⟩ = some (.int .i64 0) := cell_of_row w5 _ _ _ _ _ k5; have m13 : w5.cell? ⟨i, 13, none⟩ = some (.int .i64 0) := cell_of_row w5 _ _ _ _ _ k5; have m14 : w5.cell? ⟨i, 14, none⟩ = some (.int .i64 0) := cell_of_row w5 _ _ _ _ _ k5; have m15 : w5.cell? ⟨i, 15, none⟩ = some (.int .u64 0) := cell_of_row w5 _ _ _ _ _ k5; have m16 : w5.cell? ⟨i, 16, none⟩ = some (.nilFunc) := cell_of_row w5 _ _ _ _ _ k5; have d12 : w5.cell? ⟨p, o + 12, none⟩ = some (.int .i64 tk.pl.t) := A5.cell 12; have df12 := A5.free 12; have d13 : w5.cell? ⟨p, o + 13, none⟩ = some (.int .i64 tk.pl.b) := A5.cell 13; have df13 := A5.free 13; have d14 : w5.cell? ⟨p, o + 14, none⟩ = some (.int .i64 tk.pl.tb) := A5.cell 14; have df14 := A5.free 14; have d15 : w5.cell? ⟨p, o + 15, none⟩ = some (.int .i64 tk.pl.hp) := A5.cell 15; have df15 := A5.free 15; have d16 : w5.cell? ⟨p, o + 16, none⟩ = some (.int .i64 tk.pl.sz) := A5.cell 16; have df16 := A5.free 16; have d17 : w5.cell? ⟨p, o + 17, none⟩ = some (.int .u64 tk.seen) := A5.cell 17; have df17 := A5.free 17; have d18 : w5.cell? ⟨p, o + 18, none⟩ = some (.int .i64 tk.pc) := A5.cell 18; have df18 := A5.free 18; have d19 : w5.cell? ⟨p, o + 19, none⟩ = some (.int .i64 tk.cls) := A5.cell 19; have df19 := A5.free 19; have d20 : w5.cell? ⟨p, o + 20, none⟩ = some (.int .i64 tk.set) := A5.cell 20; have df20 := A5.free 20; have d21 : w5.cell? ⟨p, o + 21, none⟩ = some (.int .i64 (b3 tk.raw)) := A5.cell 21; have df21 := A5.free 21; have d22 : w5.cell? ⟨p, o + 22, none⟩ = some (.int .i64 tk.k) := A5.cell 22; have df22 := A5.free 22; have d23 : w5.cell? ⟨p, o + 23, none⟩ = some (.int .i64 tk.push.hd) := A5.cell 23; have df23 := A5.free 23; have d24 : w5.cell? ⟨p, o + 24, none⟩ = some (.int .i64 tk.push.fst) := A5.cell 24; have df24 := A5.free 24; have d25 : w5.cell? ⟨p, o + 25, none⟩ = some (.int .i64 tk.push.lst) := A5.cell 25; have df25 := A5.free 25; have d26 : w5.cell? ⟨p, o + 26, none⟩ = some (.int .i64 tk.push.cls) := A5.cell 26; have df26 := A5.free 26; have d27 : w5.cell? ⟨p, o + 27, none⟩ = some (.int .u64 tk.push.seen) := A5.cell 27; have df27 := A5.free 27; have d28 : w5.cell? ⟨p, o + 28, none⟩ = some (pushFn tk.push.pc) := A5.cell 28; have df28 := A5.free 28; have A6 := AtI.sets [.int .i64 q.t, .int .i64 q.b, .int .i64 q.tb, .int .i64 q.hp, .int .i64 q.sz, .int .u64 0, .int .i64 1, .int .i64 c, .int .i64 e, .int .i64 0, .int .i64 0, .int .i64 0, .int .i64 0, .int .i64 0, .int .i64 0, .int .u64 0, .nilFunc] (k := 12) A5 (show 12 + 17 ≤ 31 by decide); have g6 := (g3.trans (Went.of_below hb5 L1 p)).trans (Went.sets p L1 [.int .i64 q.t, .int .i64 q.b, .int .i64 q.tb, .int .i64 q.hp, .int .i64 q.sz, .int .u64 0, .int .i64 1, .int .i64 c, .int .i64 e, .int .i64 0, .int .i64 0, .int .i64 0, .int .i64 0, .int .i64 0, .int .i64 0, .int .u64 0, .nilFunc] w5 (o + 12))
  refine hK.out _ _ (keep _ hb5) (fun hHeld => ?_)
  clear hK K
  try simp only [Act.put, List.setIfInBounds_toArray, List.set_cons_zero, List.set_cons_succ]
  refine takeH (i := 14) 43 (.pointer (some ⟨i, 0, none⟩)) rfl rfl (by kernel_rfl) (by kernel_rfl) (by kernel_rfl) (fun _ _ _ h => h) (by rfl) ?_ (by assumption) ?_
  · intro w hSw; (try dsimp only at hSw); go_simp
  simp only [List.setIfInBounds_toArray, List.set_cons_zero, List.set_cons_succ]
  refine wpAnyH_ready (rs := [15]) (by kernel_rfl) (by simp) ?_
  refine AllReadyH.cons rfl (fun K hK => ?_) AllReadyH.nil
  go_simp
  refine hK.out _ _ (keep _ hb5) (fun hHeld => ?_)
  clear hK K
  try simp only [Act.put, List.setIfInBounds_toArray, List.set_cons_zero, List.set_cons_succ]
  refine takeH (i := 16) 45 (.pointer (some ⟨p, o, none⟩)) rfl rfl (by kernel_rfl) (by kernel_rfl) (by kernel_rfl) (fun _ _ _ h => h) (by rfl) ?_ (by assumption) ?_
  · intro w hSw; (try dsimp only at hSw); go_simp
  simp only [List.setIfInBounds_toArray, List.set_cons_zero, List.set_cons_succ]
  refine takeH (i := 17) 46 (.pointer (some ⟨p, o + 12, none⟩)) rfl rfl (by kernel_rfl) (by kernel_rfl) (by kernel_rfl) (fun _ _ _ h => h) (by rfl) ?_ (by assumption) ?_
  · intro w hSw; (try dsimp only at hSw); go_simp
  simp only [List.setIfInBounds_toArray, List.set_cons_zero, List.set_cons_succ]
  refine wpAnyH_ready (rs := [18]) (by kernel_rfl) (by simp) ?_
  refine AllReadyH.cons rfl (fun K hK => ?_) AllReadyH.nil
  go_simp
  refine hK.out _ _ ⟨A6.cell 0, A6.cell 1, A6.cell 2, A6.cell 3, A6.cell 4, A6.cell 5, A6.cell 6⟩ (fun hHeld => ?_)
  clear hK K
  try simp only [Act.put, List.setIfInBounds_toArray, List.set_cons_zero, List.set_cons_succ]
  refine wpAnyH_done (by kernel_rfl) ?_ _
  go_wp2
  go_ret
  exact ⟨rfl, L1, A6, g6⟩
set_option maxHeartbeats 1000000 in
theorem rTakeA {x : ResS} (A : AtI 89 w L s p T la lb o x.cells) (ok : x.Ok) (f : s.Fit) (hc : s.c < 1000000) (r : s.Rng) (hp : x.pc = 2) (hn : (x.take.next s).pc ≠ 0) :
    Calls Tryd.prog 47 #[.pointer (some ⟨p, o, none⟩), .pointer (some ⟨L.b, 0, none⟩)] w fun e w' => e = .returned (.int .i64 (x.next s).pc) ∧ ∃ L', AtI 89 w' L' (x.mem s) p T la lb o ((x.next s).at_ x.pc).cells ∧ Went w L p w' L' := by
  obtain ⟨q, c, e, pc, pop, tk, z, cl⟩ := x
  obtain rfl : pc = 2 := hp
  have A0 := AtI.sub (d := (ResS.mk q c e 2 pop tk z cl).cells) (k := 12) (e := tk.cells) A (show 12 ≤ 31 by decide)
  have key : ∀ {w1 : World} {L1 : Loc} {s1 : St} {y : TakeS}, AtI 89 w1 L1 s1 p T _ _ (o + 12) y.cells → AtI 89 w1 L1 s1 p T la lb o (ResS.cells ⟨q, c, e, 2, pop, y, z, cl⟩) := fun {w1 L1 s1 y} h => AtI.up (d := (ResS.mk q c e 2 pop tk z cl).cells) (k := 12) (e := tk.cells) h A.len rfl
  simp only at hn
  have hb : ((tk.next s).pc == 0) = false := by simpa using hn
  simp only [ResS.next, ResS.mem, ResS.at_, if_neg hn]
  obtain ⟨y, hy⟩ : ∃ y, tk.next s = y := ⟨_, rfl⟩
  go_enter Tryd.func47, Tryd.ntmps47
  go_wp2_with (go_at_call 63; refine (cTakeI A0 ok.take f hc r).mono ?_; rintro e' w1 ⟨rfl, L1, A1', g1⟩; simp only [hb]; rw [hy] at A1'; have A1 := key A1')
  go_ret
  rw [hy]
  exact ⟨rfl, L1, A1, g1⟩
set_option maxHeartbeats 1000000 in
theorem rTakeB {x : ResS} (A : AtI 89 w L s p T la lb o x.cells) (ok : x.Ok) (f : s.Fit) (hc : s.c < 1000000) (r : s.Rng) (hp : x.pc = 2) (hn : (x.take.next s).pc = 0) (hz : (x.take.next s).cell ≠ 0) :
    Calls Tryd.prog 47 #[.pointer (some ⟨p, o, none⟩), .pointer (some ⟨L.b, 0, none⟩)] w fun e w' => e = .returned (.int .i64 (x.next s).pc) ∧ ∃ L', AtI 89 w' L' (x.mem s) p T la lb o ((x.next s).at_ x.pc).cells ∧ Went w L p w' L' := by
  obtain ⟨q, c, e, pc, pop, tk, z, cl⟩ := x
  obtain rfl : pc = 2 := hp
  have A0 := AtI.sub (d := (ResS.mk q c e 2 pop tk z cl).cells) (k := 12) (e := tk.cells) A (show 12 ≤ 31 by decide)
  have key : ∀ {w1 : World} {L1 : Loc} {s1 : St} {y : TakeS}, AtI 89 w1 L1 s1 p T _ _ (o + 12) y.cells → AtI 89 w1 L1 s1 p T la lb o (ResS.cells ⟨q, c, e, 2, pop, y, z, cl⟩) := fun {w1 L1 s1 y} h => AtI.up (d := (ResS.mk q c e 2 pop tk z cl).cells) (k := 12) (e := tk.cells) h A.len rfl
  simp only at hn hz
  have hb : ((tk.next s).pc == 0) = true := by simpa using hn
  simp only [ResS.next, ResS.mem, ResS.at_, if_pos hn, if_neg hz]
  obtain ⟨y, hy⟩ : ∃ y, tk.next s = y := ⟨_, rfl⟩
  rw [hy] at hz ⊢
  obtain ⟨v, ht⟩ : ∃ v, y.cell = v := ⟨_, rfl⟩
  rw [ht] at hz ⊢
  have hz' : (v != 0) = true := by simpa using hz
  go_enter Tryd.func47, Tryd.ntmps47
  go_wp2_with (first
    | (go_at_call 63; refine (cTakeI A0 ok.take f hc r).mono ?_; rintro e' w1 ⟨rfl, L1, A1', g1⟩; simp only [hb]; rw [hy] at A1'; have A1 := key A1')
    | (go_at_call 64; refine (cCellI A1'.bl (hy ▸ ok.take.next r) A1.wid).mono ?_; rintro e' w2 ⟨rfl, hb2⟩; have A2 := A1.below hb2; have d30 : w2.cell? ⟨p, o + 30, none⟩ = some (.int .i64 cl) := A2.cell 30; have df30 := A2.free 30; rw [ht]; have A3 := A2.set 30 (.int .i64 v); have g3 := (g1.trans (Went.of_below hb2 L1 p)).trans (Went.set _ _ p (o + 30) (.int .i64 v))))
  go_ret
  exact ⟨rfl, L1, A3, g3⟩
set_option maxHeartbeats 1000000 in
theorem rTakeC {x : ResS} (A : AtI 89 w L s p T la lb o x.cells) (ok : x.Ok) (f : s.Fit) (hc : s.c < 1000000) (r : s.Rng) (hp : x.pc = 2) (hn : (x.take.next s).pc = 0) (hz : (x.take.next s).cell = 0) :
    Calls Tryd.prog 47 #[.pointer (some ⟨p, o, none⟩), .pointer (some ⟨L.b, 0, none⟩)] w fun e w' => e = .returned (.int .i64 (x.next s).pc) ∧ ∃ L', AtI 89 w' L' (x.mem s) p T la lb o ((x.next s).at_ x.pc).cells ∧ Went w L p w' L' := by
  obtain ⟨q, c, e, pc, pop, tk, z, cl⟩ := x
  obtain rfl : pc = 2 := hp
  have A0 := AtI.sub (d := (ResS.mk q c e 2 pop tk z cl).cells) (k := 12) (e := tk.cells) A (show 12 ≤ 31 by decide)
  have key : ∀ {w1 : World} {L1 : Loc} {s1 : St} {y : TakeS}, AtI 89 w1 L1 s1 p T _ _ (o + 12) y.cells → AtI 89 w1 L1 s1 p T la lb o (ResS.cells ⟨q, c, e, 2, pop, y, z, cl⟩) := fun {w1 L1 s1 y} h => AtI.up (d := (ResS.mk q c e 2 pop tk z cl).cells) (k := 12) (e := tk.cells) h A.len rfl
  simp only at hn hz
  have hb : ((tk.next s).pc == 0) = true := by simpa using hn
  simp only [ResS.next, ResS.mem, ResS.at_, if_pos hn, if_pos hz]
  obtain ⟨y, hy⟩ : ∃ y, tk.next s = y := ⟨_, rfl⟩
  rw [hy] at hz ⊢
  obtain ⟨v, ht⟩ : ∃ v, y.cell = v := ⟨_, rfl⟩
  rw [ht] at hz ⊢
  subst hz
  go_enter Tryd.func47, Tryd.ntmps47
  go_wp2_with (first
    | (go_at_call 63; refine (cTakeI A0 ok.take f hc r).mono ?_; rintro e' w1 ⟨rfl, L1, A1', g1⟩; simp only [hb]; rw [hy] at A1'; have A1 := key A1')
    | (go_at_call 64; refine (cCellI A1'.bl (hy ▸ ok.take.next r) A1.wid).mono ?_; rintro e' w2 ⟨rfl, hb2⟩; have A2 := A1.below hb2; have d30 : w2.cell? ⟨p, o + 30, none⟩ = some (.int .i64 cl) := A2.cell 30; have df30 := A2.free 30; rw [ht]; have A3 := A2.set 30 (.int .i64 0); have g3 := (g1.trans (Went.of_below hb2 L1 p)).trans (Went.set _ _ p (o + 30) (.int .i64 0))))
  go_ret
  exact ⟨rfl, L1, A3, g3⟩
set_option maxHeartbeats 1000000 in
theorem rAgainA {x : ResS} (A : AtI 89 w L s p T la lb o x.cells) (ok : x.Ok) (f : s.Fit) (hc : s.c < 1000000) (r : s.Rng) (hp : x.pc = 3) (hz : s.got x.hd = x.seen) :
    Calls Tryd.prog 48 #[.pointer (some ⟨p, o, none⟩), .pointer (some ⟨L.b, 0, none⟩)] w fun e w' => e = .returned (.int .i64 (x.next s).pc) ∧ ∃ L', AtI 89 w' L' (x.mem s) p T la lb o ((x.next s).at_ x.pc).cells ∧ Went w L p w' L' := by
  obtain ⟨q, c, e, pc, pop, tk, z, cl⟩ := x
  obtain rfl : pc = 3 := hp
  have rl := fun (w' : World) (h : BlI w' p T la lb o (ResS.mk q c e 3 pop tk z cl).cells) => rList h ok.c0 ok.c2 ok.e0 ok.e1
  have bg := fun (w' : World) (L' : Loc) (s' : St) (h : AtI 89 w' L' s' p T la lb o (ResS.mk q c e 3 pop tk z cl).cells) => rBegin h ok.c0 ok.c2 ok.e0 ok.e1
  obtain ⟨j, hj⟩ : ∃ j, (ResS.mk q c e 3 pop tk z cl).hd = j := ⟨_, rfl⟩
  simp only [hj] at hz rl bg
  simp only [ResS.next, ResS.mem, ResS.at_, hj, if_pos hz]
  have hg : (s.got j == z) = true := by simpa using hz
  obtain ⟨v, hv⟩ : ∃ v, s.got j = v := ⟨_, rfl⟩
  rw [hv] at hg
  obtain rfl : v = z := hv ▸ hz
  have keep : ∀ w', Below w.heap.size w w' → w'.cell? ⟨p, o + 29, none⟩ = some (.int .u64 v) := fun w' h => (A.below h).cell 29
  have hbd : Below w.heap.size w w.drew := (Below.refl w.heap.size w).drew
  have RD := keep _ hbd
  go_enter Tryd.func48, Tryd.ntmps48
  go_wp2
  go_region_held3 (fun w' => w'.cell? ⟨p, o + 29, none⟩ = some (.int .u64 v)) (first | assumption | exact RD | exact keep _ (by assumption))
    (first
      | (go_at_call 59; refine (rl _ (A.below hbd).bl).mono ?_; rintro e' w1 ⟨rfl, hb1⟩; have hb1' := bel_trans hbd hb1)
      | (go_at_call 15; refine (cLoad (A.below hb1').mem f hc j).mono ?_; rintro e' w2 ⟨rfl, L2, hm2, st2⟩; rw [hv]; have A2 := (A.below hb1').step hm2 st2; have S2 : w2.cell? ⟨p, o + 29, none⟩ = some (.int .u64 v) := A2.cell 29; have g2 := (Went.of_below hb1' L p).trans (Went.of_step st2 p)))
  go_wp2
  go_ret
  exact ⟨rfl, L2, A2, g2⟩
set_option maxHeartbeats 1000000 in
theorem rAgainB {x : ResS} (A : AtI 89 w L s p T la lb o x.cells) (ok : x.Ok) (f : s.Fit) (hc : s.c < 1000000) (r : s.Rng) (hp : x.pc = 3) (hz : s.got x.hd ≠ x.seen) :
    Calls Tryd.prog 48 #[.pointer (some ⟨p, o, none⟩), .pointer (some ⟨L.b, 0, none⟩)] w fun e w' => e = .returned (.int .i64 (x.next s).pc) ∧ ∃ L', AtI 89 w' L' (x.mem s) p T la lb o ((x.next s).at_ x.pc).cells ∧ Went w L p w' L' := by
  obtain ⟨q, c, e, pc, pop, tk, z, cl⟩ := x
  obtain rfl : pc = 3 := hp
  have rl := fun (w' : World) (h : BlI w' p T la lb o (ResS.mk q c e 3 pop tk z cl).cells) => rList h ok.c0 ok.c2 ok.e0 ok.e1
  have bg := fun (w' : World) (L' : Loc) (s' : St) (h : AtI 89 w' L' s' p T la lb o (ResS.mk q c e 3 pop tk z cl).cells) => rBegin h ok.c0 ok.c2 ok.e0 ok.e1
  obtain ⟨j, hj⟩ : ∃ j, (ResS.mk q c e 3 pop tk z cl).hd = j := ⟨_, rfl⟩
  simp only [hj] at hz rl bg
  simp only [ResS.next, ResS.mem, ResS.at_, hj, if_neg hz]
  have hg : (s.got j == z) = false := by simpa using hz
  obtain ⟨v, hv⟩ : ∃ v, s.got j = v := ⟨_, rfl⟩
  rw [hv] at hg
  clear hz
  have keep : ∀ w', Below w.heap.size w w' → w'.cell? ⟨p, o + 29, none⟩ = some (.int .u64 z) := fun w' h => (A.below h).cell 29
  have hbd : Below w.heap.size w w.drew := (Below.refl w.heap.size w).drew
  have RD := keep _ hbd
  go_enter Tryd.func48, Tryd.ntmps48
  go_wp2
  go_region_held3 (fun w' => w'.cell? ⟨p, o + 29, none⟩ = some (.int .u64 z)) (first | assumption | exact RD | exact keep _ (by assumption))
    (first
      | (go_at_call 59; refine (rl _ (A.below hbd).bl).mono ?_; rintro e' w1 ⟨rfl, hb1⟩; have hb1' := bel_trans hbd hb1)
      | (go_at_call 15; refine (cLoad (A.below hb1').mem f hc j).mono ?_; rintro e' w2 ⟨rfl, L2, hm2, st2⟩; rw [hv]; have A2 := (A.below hb1').step hm2 st2; have S2 : w2.cell? ⟨p, o + 29, none⟩ = some (.int .u64 z) := A2.cell 29; have g2 := (Went.of_below hb1' L p).trans (Went.of_step st2 p)))
  go_wp2_with (go_at_call 45; refine (bg _ _ _ A2).mono ?_; rintro e' w3 ⟨rfl, A3, g3⟩)
  go_ret
  exact ⟨rfl, L2, A3, g2.trans g3⟩
theorem cRes0 {x : ResS} (A : AtI 89 w L s p T la lb o x.cells) (h0 : x.pc = 0) :
    Calls Tryd.prog 30 #[.pointer (some ⟨p, o, none⟩), .pointer (some ⟨L.b, 0, none⟩)] w fun e w' => e = .returned (.bool true) ∧ w' = w := by
  have c7 : w.cell? ⟨p, o + 7, none⟩ = some (.int .i64 0) := by have h : w.cell? ⟨p, o + 7, none⟩ = some (.int .i64 (x.pc : Int)) := A.cell 7; rw [h0] at h; exact h
  go_enter Tryd.func30, Tryd.ntmps30
  go_wp2
  go_ret
  exact ⟨rfl, rfl⟩
theorem cResI {x : ResS} (A : AtI 89 w L s p T la lb o x.cells) (ok : x.Ok) (f : s.Fit) (hc : s.c < 1000000) (r : s.Rng) :
    Calls Tryd.prog 30 #[.pointer (some ⟨p, o, none⟩), .pointer (some ⟨L.b, 0, none⟩)] w fun e w' => e = .returned (.bool ((x.next s).pc == 0)) ∧
      ∃ L', AtI 89 w' L' (x.mem s) p T la lb o (x.next s).cells ∧ Went w L p w' L' := by
  have fin : ∀ q : Nat, ((q : Int) == 0) = (q == 0) := fun q => by rcases q with _ | q <;> simp <;> omega
  have hpc := ok.pc
  obtain ⟨pc, hpe⟩ : ∃ pc, x.pc = pc := ⟨_, rfl⟩
  rw [hpe] at hpc
  rcases pc_cases hpc with rfl | rfl | rfl | rfl
  · have e1 : x.next s = x := by obtain ⟨q, c, e, pc, pop, tk, z, cl⟩ := x; obtain rfl : pc = 0 := hpe; rfl
    have e2 : x.mem s = s := by obtain ⟨q, c, e, pc, pop, tk, z, cl⟩ := x; obtain rfl : pc = 0 := hpe; rfl
    rw [e1, e2]
    refine (cRes0 A hpe).mono ?_
    rintro e w' ⟨rfl, rfl⟩
    exact ⟨by rw [hpe]; rfl, L, A, Went.refl _ _ _⟩
  · have c7 : w.cell? ⟨p, o + 7, none⟩ = some (.int .i64 1) := by have h : w.cell? ⟨p, o + 7, none⟩ = some (.int .i64 (x.pc : Int)) := A.cell 7; rw [hpe] at h; exact h
    have C : Calls Tryd.prog 46 #[.pointer (some ⟨p, o, none⟩), .pointer (some ⟨L.b, 0, none⟩)] w fun e w' => e = .returned (.int .i64 (x.next s).pc) ∧ ∃ L', AtI 89 w' L' (x.mem s) p T la lb o ((x.next s).at_ x.pc).cells ∧ Went w L p w' L' := by
      by_cases hn : (x.pop.next s).pc = 0
      · by_cases hz : t0 (x.pop.next s).seen = 0
        · exact rPopC A ok f hc r hpe hn hz
        · exact rPopB A ok f hc r hpe hn hz
      · exact rPopA A ok f hc r hpe hn
    go_enter Tryd.func30, Tryd.ntmps30
    go_wp2_with (go_at_call 46; refine C.mono ?_; rintro e w1 ⟨rfl, L1, A1, g1⟩; have d7 : w1.cell? ⟨p, o + 7, none⟩ = some (.int .i64 1) := (by have h : w1.cell? ⟨p, o + 7, none⟩ = some (.int .i64 (x.pc : Int)) := A1.cell 7; rw [hpe] at h; exact h); have df7 := A1.free 7; rw [hpe] at A1; obtain ⟨y, hy⟩ : ∃ y, x.next s = y := ⟨_, rfl⟩; rw [hy] at A1 ⊢; have A2 : AtI 89 (w1.setCell ⟨p, o + 7, none⟩ (.int .i64 y.pc)) L1 (x.mem s) p T la lb o y.cells := A1.set 7 (.int .i64 y.pc); have n7 : (w1.setCell ⟨p, o + 7, none⟩ (.int .i64 y.pc)).cell? ⟨p, o + 7, none⟩ = some (.int .i64 y.pc) := A2.cell 7)
    go_ret
    rw [hy]
    refine ⟨?_, L1, A2, g1.trans (Went.set _ _ _ _ _)⟩
    first | rfl | (show Ending.returned (.bool ((y.pc : Int) == 0)) = _; rw [fin])
  · have c7 : w.cell? ⟨p, o + 7, none⟩ = some (.int .i64 2) := by have h : w.cell? ⟨p, o + 7, none⟩ = some (.int .i64 (x.pc : Int)) := A.cell 7; rw [hpe] at h; exact h
    have C : Calls Tryd.prog 47 #[.pointer (some ⟨p, o, none⟩), .pointer (some ⟨L.b, 0, none⟩)] w fun e w' => e = .returned (.int .i64 (x.next s).pc) ∧ ∃ L', AtI 89 w' L' (x.mem s) p T la lb o ((x.next s).at_ x.pc).cells ∧ Went w L p w' L' := by
      by_cases hn : (x.take.next s).pc = 0
      · by_cases hz : (x.take.next s).cell = 0
        · exact rTakeC A ok f hc r hpe hn hz
        · exact rTakeB A ok f hc r hpe hn hz
      · exact rTakeA A ok f hc r hpe hn
    go_enter Tryd.func30, Tryd.ntmps30
    go_wp2_with (go_at_call 47; refine C.mono ?_; rintro e w1 ⟨rfl, L1, A1, g1⟩; have d7 : w1.cell? ⟨p, o + 7, none⟩ = some (.int .i64 2) := (by have h : w1.cell? ⟨p, o + 7, none⟩ = some (.int .i64 (x.pc : Int)) := A1.cell 7; rw [hpe] at h; exact h); have df7 := A1.free 7; rw [hpe] at A1; obtain ⟨y, hy⟩ : ∃ y, x.next s = y := ⟨_, rfl⟩; rw [hy] at A1 ⊢; have A2 : AtI 89 (w1.setCell ⟨p, o + 7, none⟩ (.int .i64 y.pc)) L1 (x.mem s) p T la lb o y.cells := A1.set 7 (.int .i64 y.pc); have n7 : (w1.setCell ⟨p, o + 7, none⟩ (.int .i64 y.pc)).cell? ⟨p, o + 7, none⟩ = some (.int .i64 y.pc) := A2.cell 7)
    go_ret
    rw [hy]
    refine ⟨?_, L1, A2, g1.trans (Went.set _ _ _ _ _)⟩
    first | rfl | (show Ending.returned (.bool ((y.pc : Int) == 0)) = _; rw [fin])
  · have c7 : w.cell? ⟨p, o + 7, none⟩ = some (.int .i64 3) := by have h : w.cell? ⟨p, o + 7, none⟩ = some (.int .i64 (x.pc : Int)) := A.cell 7; rw [hpe] at h; exact h
    have C : Calls Tryd.prog 48 #[.pointer (some ⟨p, o, none⟩), .pointer (some ⟨L.b, 0, none⟩)] w fun e w' => e = .returned (.int .i64 (x.next s).pc) ∧ ∃ L', AtI 89 w' L' (x.mem s) p T la lb o ((x.next s).at_ x.pc).cells ∧ Went w L p w' L' := by
      by_cases hz : s.got x.hd = x.seen
      · exact rAgainA A ok f hc r hpe hz
      · exact rAgainB A ok f hc r hpe hz
    go_enter Tryd.func30, Tryd.ntmps30
    go_wp2_with (go_at_call 48; refine C.mono ?_; rintro e w1 ⟨rfl, L1, A1, g1⟩; have d7 : w1.cell? ⟨p, o + 7, none⟩ = some (.int .i64 3) := (by have h : w1.cell? ⟨p, o + 7, none⟩ = some (.int .i64 (x.pc : Int)) := A1.cell 7; rw [hpe] at h; exact h); have df7 := A1.free 7; rw [hpe] at A1; obtain ⟨y, hy⟩ : ∃ y, x.next s = y := ⟨_, rfl⟩; rw [hy] at A1 ⊢; have A2 : AtI 89 (w1.setCell ⟨p, o + 7, none⟩ (.int .i64 y.pc)) L1 (x.mem s) p T la lb o y.cells := A1.set 7 (.int .i64 y.pc); have n7 : (w1.setCell ⟨p, o + 7, none⟩ (.int .i64 y.pc)).cell? ⟨p, o + 7, none⟩ = some (.int .i64 y.pc) := A2.cell 7)
    go_ret
    rw [hy]
    refine ⟨?_, L1, A2, g1.trans (Went.set _ _ _ _ _)⟩
    first | rfl | (show Ending.returned (.bool ((y.pc : Int) == 0)) = _; rw [fin])
end
end Go.Proofs.YtbojljkdpebheaaDoor
