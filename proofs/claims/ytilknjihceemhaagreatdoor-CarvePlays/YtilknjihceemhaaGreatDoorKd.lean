/-
  A Take and a Give: made, a step of each, what a Take tells.
-/
import Derived.Test.YtilknjihceemhaaGreatDoorKs
namespace Go.Proofs.YtilknjihceemhaaGreatDoor
set_option linter.unusedVariables false
set_option maxRecDepth 100000
open Go.ChangeShapes Go.WideShapes Go.RowKit
open S.Plain (t0 t1 tw nx bw b0 b1 b2 b3)
open H.Plain (hw pL)

theorem cBegin (q : Pl) (w : World) :
    Calls Tryz.prog 31 #[.agg #[.int .i64 q.t, .int .i64 q.b, .int .i64 q.tb, .int .i64 q.hp, .int .i64 q.sz]] w fun e w' => e = .returned (.agg #[.int .i64 q.t, .int .i64 q.b, .int .i64 q.tb, .int .i64 q.hp, .int .i64 q.sz, .int .u64 0, .int .i64 1]) ∧ Below w.heap.size w w' := by
  go_enter Tryz.func31, Tryz.ntmps31
  go_wp2
  exact bodyPost_ret (v := .agg #[.int .i64 q.t, .int .i64 q.b, .int .i64 q.tb, .int .i64 q.hp, .int .i64 q.sz, .int .u64 0, .int .i64 1]) (by simp [results, Tryz.results31, go_sem]) rfl ⟨rfl, S.bal (S.bal (Below.refl _ _) _) _⟩
theorem cNewTake (q : Pl) (c e : Int) (w : World) :
    Calls Tryz.prog 11 #[.agg #[.int .i64 q.t, .int .i64 q.b, .int .i64 q.tb, .int .i64 q.hp, .int .i64 q.sz], .int .i64 c, .int .i64 e] w fun v w' => ∃ w1, v = .returned (.pointer (some ⟨w1.heap.size, 0, none⟩)) ∧ Below w.heap.size w w1 ∧ w' = w1.alloc (.cells (TakeS.new q c e).cells 79) := by
  go_enter Tryz.func11, Tryz.ntmps11
  go_wp2_with (go_at_call 31; refine (cBegin q _).mono ?_; rintro v w1 ⟨rfl, hb1⟩; have hb := bel_trans (S.bal (Below.refl w.heap.size w) _) hb1; clear hb1)
  go_ret
  exact ⟨w1, rfl, hb, rfl⟩
theorem cNewGive (q : Pl) (b : Int) (w : World) :
    Calls Tryz.prog 22 #[.agg #[.int .i64 q.t, .int .i64 q.b, .int .i64 q.tb, .int .i64 q.hp, .int .i64 q.sz], .int .i64 b] w fun v w' => ∃ w1, v = .returned (.pointer (some ⟨w1.heap.size, 0, none⟩)) ∧ Below w.heap.size w w1 ∧ w' = w1.alloc (.cells (GiveS.new q b).cells 101) := by
  go_enter Tryz.func22, Tryz.ntmps22
  go_wp2_with (go_at_call 31; refine (cBegin q _).mono ?_; rintro v w1 ⟨rfl, hb1⟩; have hb := bel_trans (S.bal (Below.refl w.heap.size w) _) hb1; clear hb1)
  go_ret
  exact ⟨w1, rfl, hb, rfl⟩
section
variable {w : World} {L : Loc} {s : St} {p : Nat}
set_option maxHeartbeats 1000000 in
theorem gFind {x : GiveS} (A : At 97 w L s p 101 x.cells) (ok : x.Ok) (f : s.Fit) (hc : s.c < 1000000) (r : s.Rng) (hp : x.pc = 1) :
    Calls Tryz.prog 60 #[.pointer (some ⟨p, 0, none⟩), .pointer (some ⟨L.b, 0, none⟩)] w fun e w' => e = .returned (.int .i64 (x.next s).pc) ∧ ∃ L', At 97 w' L' (x.mem s) p 101 ((x.next s).at_ x.pc).cells ∧ Went w L p w' L' := by
  obtain ⟨q, z, pc, b⟩ := x
  obtain rfl : pc = 1 := hp
  simp only [GiveS.next, GiveS.mem, GiveS.at_]
  go_enter Tryz.func60, Tryz.ntmps60
  go_wp2_with (go_at_call 66; refine (mReadHead A (GiveS.mach _) f hc).mono ?_; rintro e w1 ⟨rfl, L1, A1, g1⟩)
  go_ret
  exact ⟨rfl, L1, A1, g1⟩
set_option maxHeartbeats 1000000 in
theorem gMark {x : GiveS} (A : At 97 w L s p 101 x.cells) (ok : x.Ok) (f : s.Fit) (hc : s.c < 1000000) (r : s.Rng) (hp : x.pc = 2) :
    Calls Tryz.prog 61 #[.pointer (some ⟨p, 0, none⟩), .pointer (some ⟨L.b, 0, none⟩)] w fun e w' => e = .returned (.int .i64 (x.next s).pc) ∧ ∃ L', At 97 w' L' (x.mem s) p 101 ((x.next s).at_ x.pc).cells ∧ Went w L p w' L' := by
  obtain ⟨q, z, pc, b⟩ := x
  obtain rfl : pc = 2 := hp
  simp only [GiveS.next, GiveS.mem, GiveS.at_]
  have b0' := ok.b0
  have b1' := ok.b1
  simp only at b0' b1'
  have keep : ∀ w', Below w.heap.size w w' → w'.cell? ⟨p, 7, none⟩ = some (.int .i64 b) := fun w' h => (A.below h).cell 7
  have hbd : Below w.heap.size w w.drew := (Below.refl w.heap.size w).drew
  have RD := keep _ hbd
  go_enter Tryz.func61, Tryz.ntmps61
  go_wp2
  go_region_held3 (fun w' => w'.cell? ⟨p, 7, none⟩ = some (.int .i64 b)) (first | assumption | exact RD | exact keep _ (by assumption))
    (first
      | (go_at_call 41; refine (mFirst (A.below hbd).blk (GiveS.mach _) ok.seen).mono ?_; rintro e w1 ⟨rfl, hb1⟩; have hb1' := bel_trans hbd hb1)
      | (go_at_call 71; refine (mWrite (A.below hb1') (GiveS.mach _) ok.pl f hc (by omega) (by omega) 0 0 0 (t0 z)).mono ?_; rintro e w2 ⟨rfl, L2, A2, g2⟩; have S2 : w2.cell? ⟨p, 7, none⟩ = some (.int .i64 b) := A2.cell 7; have g2' := (Went.of_below hb1' L p).trans g2))
  go_wp2
  go_ret
  exact ⟨rfl, L2, A2, g2'⟩
set_option maxHeartbeats 1000000 in
theorem gSwap {x : GiveS} (A : At 97 w L s p 101 x.cells) (ok : x.Ok) (f : s.Fit) (hc : s.c < 1000000) (r : s.Rng) (hp : x.pc = 3) :
    Calls Tryz.prog 62 #[.pointer (some ⟨p, 0, none⟩), .pointer (some ⟨L.b, 0, none⟩)] w fun e w' => e = .returned (.int .i64 (x.next s).pc) ∧ ∃ L', At 97 w' L' (x.mem s) p 101 ((x.next s).at_ x.pc).cells ∧ Went w L p w' L' := by
  obtain ⟨q, z, pc, b⟩ := x
  obtain rfl : pc = 3 := hp
  simp only [GiveS.next, GiveS.mem, GiveS.at_]
  have b0' := ok.b0
  have b1' := ok.b1
  simp only at b0' b1'
  have wr : IntKind.i64.wrap (b + 1) = b + 1 := wrap_small _ (by omega) (by omega)
  obtain ⟨t, ht⟩ : ∃ t, s.ok1 2 z = t := ⟨_, rfl⟩
  rw [ht]
  have keep : ∀ w', Below w.heap.size w w' → w'.cell? ⟨p, 7, none⟩ = some (.int .i64 b) := fun w' h => (A.below h).cell 7
  have hbd : Below w.heap.size w w.drew := (Below.refl w.heap.size w).drew
  have RD := keep _ hbd
  go_enter Tryz.func62, Tryz.ntmps62
  go_wp2
  go_region_held3 (fun w' => w'.cell? ⟨p, 7, none⟩ = some (.int .i64 b)) (first | assumption | exact RD | exact keep _ (by assumption))
    ((go_at_call 70; refine (mSwap (A.below hbd) (GiveS.mach _) f hc ok.seen (b + 1)).mono ?_; rintro e w1 ⟨rfl, L1, A1, g1⟩; simp only [ht]; have S1 : w1.cell? ⟨p, 7, none⟩ = some (.int .i64 b) := A1.cell 7; have g1' := (Went.of_below hbd L p).trans g1))
  rcases t with _ | _
  · go_wp2
    go_ret
    exact ⟨rfl, L1, A1, g1'⟩
  · go_wp2
    go_ret
    exact ⟨rfl, L1, A1, g1'⟩
theorem takeDo0 {x : TakeS} (A : At 97 w L s p 79 x.cells) (h0 : x.pc = 0) (v : Value) :
    Calls Tryz.prog 32 #[.pointer (some ⟨p, 0, none⟩), .pointer (some ⟨L.b, 0, none⟩), v] w fun e w' => e = .returned (.bool true) ∧ w' = w := by
  obtain ⟨q, z, pc, c, e, v, k, u, us⟩ := x
  obtain rfl : pc = 0 := h0
  have c6 : w.cell? ⟨p, 6, none⟩ = some (.int .i64 0) := A.cell 6
  go_enter Tryz.func32, Tryz.ntmps32
  go_wp2
  go_ret
  exact ⟨rfl, rfl⟩
set_option maxHeartbeats 2000000 in
theorem takeDo {x : TakeS} {TF : TypeId} {g : Nat} (A : At 97 w L s p 79 x.cells) (ok : x.Ok) (f : s.Fit) (hc : s.c < 1000000) (r : s.Rng) (hg : w.heap[g]? = some (.cells #[.func (.func 33) #[.pointer (some ⟨p, 0, none⟩)] #[], .func (.func 34) #[.pointer (some ⟨p, 0, none⟩)] #[], .func (.func 35) #[.pointer (some ⟨p, 0, none⟩)] #[], .func (.func 36) #[.pointer (some ⟨p, 0, none⟩)] #[], .func (.func 37) #[.pointer (some ⟨p, 0, none⟩)] #[], .func (.func 38) #[.pointer (some ⟨p, 0, none⟩)] #[]] TF (0, 0))) :
    Calls Tryz.prog 32 #[.pointer (some ⟨p, 0, none⟩), .pointer (some ⟨L.b, 0, none⟩), .slice (some ⟨g, 0, none⟩) 6 6] w fun e w' => e = .returned (.bool ((x.next s).pc == 0)) ∧
      ∃ L', At 97 w' L' (x.mem s) p 79 (x.next s).cells ∧ Went w L p w' L' := by
  have fin : ∀ q : Nat, ((q : Int) == 0) = (q == 0) := fun q => by rcases q with _ | q <;> simp <;> omega
  have hpc := ok.pc
  obtain ⟨pc, hpe⟩ : ∃ pc, x.pc = pc := ⟨_, rfl⟩
  rw [hpe] at hpc
  rcases pc6_cases hpc with rfl | rfl | rfl | rfl | rfl | rfl | rfl
  · have e1 : x.next s = x := by obtain ⟨q, z, pc, c, e, v, k, u, us⟩ := x; obtain rfl : pc = 0 := hpe; rfl
    have e2 : x.mem s = s := by obtain ⟨q, z, pc, c, e, v, k, u, us⟩ := x; obtain rfl : pc = 0 := hpe; rfl
    rw [e1, e2]
    refine (takeDo0 A hpe _).mono ?_
    rintro e w' ⟨rfl, rfl⟩
    exact ⟨by rw [hpe]; rfl, L, A, Went.refl _ _ _⟩
  · have c6 : w.cell? ⟨p, 6, none⟩ = some (.int .i64 1) := by have h := A.cell 6; simp only [TakeS.cells] at h; rw [hpe] at h; exact h
    have cf : w.cell? ⟨g, 0, none⟩ = some (.func (.func 33) #[.pointer (some ⟨p, 0, none⟩)] #[]) := cell_of_row w _ _ _ _ _ hg
    go_enter Tryz.func32, Tryz.ntmps32
    go_wp2_with (go_at_call 33; refine (tFind A ok f hc r hpe).mono ?_; rintro e w1 ⟨rfl, L1, A1, g1⟩; have d6 : w1.cell? ⟨p, 6, none⟩ = some (.int .i64 1) := (by have h := A1.cell 6; rw [hpe] at h; exact h); have df6 := A1.free 6; rw [hpe] at A1; obtain ⟨y, hy⟩ : ∃ y, x.next s = y := ⟨_, rfl⟩; rw [hy] at A1 ⊢; have A2 : At 97 (w1.setCell ⟨p, 6, none⟩ (.int .i64 y.pc)) L1 (x.mem s) p 79 y.cells := A1.set 6 (.int .i64 y.pc))
    go_ret
    rw [hy]
    refine ⟨?_, L1, A2, g1.trans (Went.set _ _ _ _ _)⟩
    first | rfl | (show Ending.returned (.bool ((y.pc : Int) == 0)) = _; rw [fin])
  · have c6 : w.cell? ⟨p, 6, none⟩ = some (.int .i64 2) := by have h := A.cell 6; simp only [TakeS.cells] at h; rw [hpe] at h; exact h
    have cf : w.cell? ⟨g, 1, none⟩ = some (.func (.func 34) #[.pointer (some ⟨p, 0, none⟩)] #[]) := cell_of_row w _ _ _ _ _ hg
    go_enter Tryz.func32, Tryz.ntmps32
    go_wp2_with (go_at_call 34; refine (tRead A ok f hc r hpe).mono ?_; rintro e w1 ⟨rfl, L1, A1, g1⟩; have d6 : w1.cell? ⟨p, 6, none⟩ = some (.int .i64 2) := (by have h := A1.cell 6; rw [hpe] at h; exact h); have df6 := A1.free 6; rw [hpe] at A1; obtain ⟨y, hy⟩ : ∃ y, x.next s = y := ⟨_, rfl⟩; rw [hy] at A1 ⊢; have A2 : At 97 (w1.setCell ⟨p, 6, none⟩ (.int .i64 y.pc)) L1 (x.mem s) p 79 y.cells := A1.set 6 (.int .i64 y.pc))
    go_ret
    rw [hy]
    refine ⟨?_, L1, A2, g1.trans (Went.set _ _ _ _ _)⟩
    first | rfl | (show Ending.returned (.bool ((y.pc : Int) == 0)) = _; rw [fin])
  · have c6 : w.cell? ⟨p, 6, none⟩ = some (.int .i64 3) := by have h := A.cell 6; simp only [TakeS.cells] at h; rw [hpe] at h; exact h
    have cf : w.cell? ⟨g, 2, none⟩ = some (.func (.func 35) #[.pointer (some ⟨p, 0, none⟩)] #[]) := cell_of_row w _ _ _ _ _ hg
    go_enter Tryz.func32, Tryz.ntmps32
    go_wp2_with (go_at_call 35; refine (tTake A ok f hc r hpe).mono ?_; rintro e w1 ⟨rfl, L1, A1, g1⟩; have d6 : w1.cell? ⟨p, 6, none⟩ = some (.int .i64 3) := (by have h := A1.cell 6; rw [hpe] at h; exact h); have df6 := A1.free 6; rw [hpe] at A1; obtain ⟨y, hy⟩ : ∃ y, x.next s = y := ⟨_, rfl⟩; rw [hy] at A1 ⊢; have A2 : At 97 (w1.setCell ⟨p, 6, none⟩ (.int .i64 y.pc)) L1 (x.mem s) p 79 y.cells := A1.set 6 (.int .i64 y.pc))
    go_ret
    rw [hy]
    refine ⟨?_, L1, A2, g1.trans (Went.set _ _ _ _ _)⟩
    first | rfl | (show Ending.returned (.bool ((y.pc : Int) == 0)) = _; rw [fin])
  · have c6 : w.cell? ⟨p, 6, none⟩ = some (.int .i64 4) := by have h := A.cell 6; simp only [TakeS.cells] at h; rw [hpe] at h; exact h
    have cf : w.cell? ⟨g, 3, none⟩ = some (.func (.func 36) #[.pointer (some ⟨p, 0, none⟩)] #[]) := cell_of_row w _ _ _ _ _ hg
    go_enter Tryz.func32, Tryz.ntmps32
    go_wp2_with (go_at_call 36; refine (tMark A ok f hc r hpe).mono ?_; rintro e w1 ⟨rfl, L1, A1, g1⟩; have d6 : w1.cell? ⟨p, 6, none⟩ = some (.int .i64 4) := (by have h := A1.cell 6; rw [hpe] at h; exact h); have df6 := A1.free 6; rw [hpe] at A1; obtain ⟨y, hy⟩ : ∃ y, x.next s = y := ⟨_, rfl⟩; rw [hy] at A1 ⊢; have A2 : At 97 (w1.setCell ⟨p, 6, none⟩ (.int .i64 y.pc)) L1 (x.mem s) p 79 y.cells := A1.set 6 (.int .i64 y.pc))
    go_ret
    rw [hy]
    refine ⟨?_, L1, A2, g1.trans (Went.set _ _ _ _ _)⟩
    first | rfl | (show Ending.returned (.bool ((y.pc : Int) == 0)) = _; rw [fin])
  · have c6 : w.cell? ⟨p, 6, none⟩ = some (.int .i64 5) := by have h := A.cell 6; simp only [TakeS.cells] at h; rw [hpe] at h; exact h
    have cf : w.cell? ⟨g, 4, none⟩ = some (.func (.func 37) #[.pointer (some ⟨p, 0, none⟩)] #[]) := cell_of_row w _ _ _ _ _ hg
    by_cases hk : x.k + 2 < P.Plain.cs x.cls
    · go_enter Tryz.func32, Tryz.ntmps32
      go_wp2_with (go_at_call 37; refine (tLinkM A ok f hc r hpe hk).mono ?_; rintro e w1 ⟨rfl, L1, A1, g1⟩; have d6 : w1.cell? ⟨p, 6, none⟩ = some (.int .i64 5) := (by have h := A1.cell 6; rw [hpe] at h; exact h); have df6 := A1.free 6; rw [hpe] at A1; obtain ⟨y, hy⟩ : ∃ y, x.next s = y := ⟨_, rfl⟩; rw [hy] at A1 ⊢; have A2 : At 97 (w1.setCell ⟨p, 6, none⟩ (.int .i64 y.pc)) L1 (x.mem s) p 79 y.cells := A1.set 6 (.int .i64 y.pc))
      go_ret
      rw [hy]
      refine ⟨?_, L1, A2, g1.trans (Went.set _ _ _ _ _)⟩
      first | rfl | (show Ending.returned (.bool ((y.pc : Int) == 0)) = _; rw [fin])
    · go_enter Tryz.func32, Tryz.ntmps32
      go_wp2_with (go_at_call 37; refine (tLinkL A ok f hc r hpe hk).mono ?_; rintro e w1 ⟨rfl, L1, A1, g1⟩; have d6 : w1.cell? ⟨p, 6, none⟩ = some (.int .i64 5) := (by have h := A1.cell 6; rw [hpe] at h; exact h); have df6 := A1.free 6; rw [hpe] at A1; obtain ⟨y, hy⟩ : ∃ y, x.next s = y := ⟨_, rfl⟩; rw [hy] at A1 ⊢; have A2 : At 97 (w1.setCell ⟨p, 6, none⟩ (.int .i64 y.pc)) L1 (x.mem s) p 79 y.cells := A1.set 6 (.int .i64 y.pc))
      go_ret
      rw [hy]
      refine ⟨?_, L1, A2, g1.trans (Went.set _ _ _ _ _)⟩
      first | rfl | (show Ending.returned (.bool ((y.pc : Int) == 0)) = _; rw [fin])
  · have c6 : w.cell? ⟨p, 6, none⟩ = some (.int .i64 6) := by have h := A.cell 6; simp only [TakeS.cells] at h; rw [hpe] at h; exact h
    have cf : w.cell? ⟨g, 5, none⟩ = some (.func (.func 38) #[.pointer (some ⟨p, 0, none⟩)] #[]) := cell_of_row w _ _ _ _ _ hg
    go_enter Tryz.func32, Tryz.ntmps32
    go_wp2_with (go_at_call 38; refine (tPushC A ok f hc r hpe).mono ?_; rintro e w1 ⟨rfl, L1, A1, g1⟩; have d6 : w1.cell? ⟨p, 6, none⟩ = some (.int .i64 6) := (by have h := A1.cell 6; rw [hpe] at h; exact h); have df6 := A1.free 6; rw [hpe] at A1; obtain ⟨y, hy⟩ : ∃ y, x.next s = y := ⟨_, rfl⟩; rw [hy] at A1 ⊢; have A2 : At 97 (w1.setCell ⟨p, 6, none⟩ (.int .i64 y.pc)) L1 (x.mem s) p 79 y.cells := A1.set 6 (.int .i64 y.pc))
    go_ret
    rw [hy]
    refine ⟨?_, L1, A2, g1.trans (Went.set _ _ _ _ _)⟩
    first | rfl | (show Ending.returned (.bool ((y.pc : Int) == 0)) = _; rw [fin])
theorem cTake {x : TakeS} (A : At 97 w L s p 79 x.cells) (ok : x.Ok) (f : s.Fit) (hc : s.c < 1000000) (r : s.Rng) :
    Calls Tryz.prog 12 #[.pointer (some ⟨p, 0, none⟩), .pointer (some ⟨L.b, 0, none⟩)] w fun e w' => e = .returned (.bool ((x.next s).pc == 0)) ∧
      ∃ L', At 97 w' L' (x.mem s) p 79 (x.next s).cells ∧ Went w L p w' L' := by
  have ga : Below w.heap.size w (w.alloc (.cells #[.func (.func 33) #[.pointer (some ⟨p, 0, none⟩)] #[], .func (.func 34) #[.pointer (some ⟨p, 0, none⟩)] #[], .func (.func 35) #[.pointer (some ⟨p, 0, none⟩)] #[], .func (.func 36) #[.pointer (some ⟨p, 0, none⟩)] #[], .func (.func 37) #[.pointer (some ⟨p, 0, none⟩)] #[], .func (.func 38) #[.pointer (some ⟨p, 0, none⟩)] #[]] 81)) := S.bal (Below.refl _ _) _
  go_enter Tryz.func12, Tryz.ntmps12
  go_wp2_with (go_at_call 32; refine (takeDo (A.below ga) ok f hc r (heap_alloc_new _ _)).mono ?_; rintro e w1 ⟨rfl, L1, A1, g1⟩)
  go_ret
  exact ⟨rfl, L1, A1, (Went.of_below ga L p).trans g1⟩
theorem giveDo0 {x : GiveS} (A : At 97 w L s p 101 x.cells) (h0 : x.pc = 0) (v : Value) :
    Calls Tryz.prog 32 #[.pointer (some ⟨p, 0, none⟩), .pointer (some ⟨L.b, 0, none⟩), v] w fun e w' => e = .returned (.bool true) ∧ w' = w := by
  obtain ⟨q, z, pc, b⟩ := x
  obtain rfl : pc = 0 := h0
  have c6 : w.cell? ⟨p, 6, none⟩ = some (.int .i64 0) := A.cell 6
  go_enter Tryz.func32, Tryz.ntmps32
  go_wp2
  go_ret
  exact ⟨rfl, rfl⟩
set_option maxHeartbeats 2000000 in
theorem giveDo {x : GiveS} {TF : TypeId} {g : Nat} (A : At 97 w L s p 101 x.cells) (ok : x.Ok) (f : s.Fit) (hc : s.c < 1000000) (r : s.Rng) (hg : w.heap[g]? = some (.cells #[.func (.func 60) #[.pointer (some ⟨p, 0, none⟩)] #[], .func (.func 61) #[.pointer (some ⟨p, 0, none⟩)] #[], .func (.func 62) #[.pointer (some ⟨p, 0, none⟩)] #[]] TF (0, 0))) :
    Calls Tryz.prog 32 #[.pointer (some ⟨p, 0, none⟩), .pointer (some ⟨L.b, 0, none⟩), .slice (some ⟨g, 0, none⟩) 3 3] w fun e w' => e = .returned (.bool ((x.next s).pc == 0)) ∧
      ∃ L', At 97 w' L' (x.mem s) p 101 (x.next s).cells ∧ Went w L p w' L' := by
  have fin : ∀ q : Nat, ((q : Int) == 0) = (q == 0) := fun q => by rcases q with _ | q <;> simp <;> omega
  have hpc := ok.pc
  obtain ⟨pc, hpe⟩ : ∃ pc, x.pc = pc := ⟨_, rfl⟩
  rw [hpe] at hpc
  rcases pc_cases hpc with rfl | rfl | rfl | rfl
  · have e1 : x.next s = x := by obtain ⟨q, z, pc, b⟩ := x; obtain rfl : pc = 0 := hpe; rfl
    have e2 : x.mem s = s := by obtain ⟨q, z, pc, b⟩ := x; obtain rfl : pc = 0 := hpe; rfl
    rw [e1, e2]
    refine (giveDo0 A hpe _).mono ?_
    rintro e w' ⟨rfl, rfl⟩
    exact ⟨by rw [hpe]; rfl, L, A, Went.refl _ _ _⟩
  · have c6 : w.cell? ⟨p, 6, none⟩ = some (.int .i64 1) := by have h := A.cell 6; simp only [GiveS.cells] at h; rw [hpe] at h; exact h
    have cf : w.cell? ⟨g, 0, none⟩ = some (.func (.func 60) #[.pointer (some ⟨p, 0, none⟩)] #[]) := cell_of_row w _ _ _ _ _ hg
    go_enter Tryz.func32, Tryz.ntmps32
    go_wp2_with (go_at_call 60; refine (gFind A ok f hc r hpe).mono ?_; rintro e w1 ⟨rfl, L1, A1, g1⟩; have d6 : w1.cell? ⟨p, 6, none⟩ = some (.int .i64 1) := (by have h := A1.cell 6; rw [hpe] at h; exact h); have df6 := A1.free 6; rw [hpe] at A1; obtain ⟨y, hy⟩ : ∃ y, x.next s = y := ⟨_, rfl⟩; rw [hy] at A1 ⊢; have A2 : At 97 (w1.setCell ⟨p, 6, none⟩ (.int .i64 y.pc)) L1 (x.mem s) p 101 y.cells := A1.set 6 (.int .i64 y.pc))
    go_ret
    rw [hy]
    refine ⟨?_, L1, A2, g1.trans (Went.set _ _ _ _ _)⟩
    first | rfl | (show Ending.returned (.bool ((y.pc : Int) == 0)) = _; rw [fin])
  · have c6 : w.cell? ⟨p, 6, none⟩ = some (.int .i64 2) := by have h := A.cell 6; simp only [GiveS.cells] at h; rw [hpe] at h; exact h
    have cf : w.cell? ⟨g, 1, none⟩ = some (.func (.func 61) #[.pointer (some ⟨p, 0, none⟩)] #[]) := cell_of_row w _ _ _ _ _ hg
    go_enter Tryz.func32, Tryz.ntmps32
    go_wp2_with (go_at_call 61; refine (gMark A ok f hc r hpe).mono ?_; rintro e w1 ⟨rfl, L1, A1, g1⟩; have d6 : w1.cell? ⟨p, 6, none⟩ = some (.int .i64 2) := (by have h := A1.cell 6; rw [hpe] at h; exact h); have df6 := A1.free 6; rw [hpe] at A1; obtain ⟨y, hy⟩ : ∃ y, x.next s = y := ⟨_, rfl⟩; rw [hy] at A1 ⊢; have A2 : At 97 (w1.setCell ⟨p, 6, none⟩ (.int .i64 y.pc)) L1 (x.mem s) p 101 y.cells := A1.set 6 (.int .i64 y.pc))
    go_ret
    rw [hy]
    refine ⟨?_, L1, A2, g1.trans (Went.set _ _ _ _ _)⟩
    first | rfl | (show Ending.returned (.bool ((y.pc : Int) == 0)) = _; rw [fin])
  · have c6 : w.cell? ⟨p, 6, none⟩ = some (.int .i64 3) := by have h := A.cell 6; simp only [GiveS.cells] at h; rw [hpe] at h; exact h
    have cf : w.cell? ⟨g, 2, none⟩ = some (.func (.func 62) #[.pointer (some ⟨p, 0, none⟩)] #[]) := cell_of_row w _ _ _ _ _ hg
    go_enter Tryz.func32, Tryz.ntmps32
    go_wp2_with (go_at_call 62; refine (gSwap A ok f hc r hpe).mono ?_; rintro e w1 ⟨rfl, L1, A1, g1⟩; have d6 : w1.cell? ⟨p, 6, none⟩ = some (.int .i64 3) := (by have h := A1.cell 6; rw [hpe] at h; exact h); have df6 := A1.free 6; rw [hpe] at A1; obtain ⟨y, hy⟩ : ∃ y, x.next s = y := ⟨_, rfl⟩; rw [hy] at A1 ⊢; have A2 : At 97 (w1.setCell ⟨p, 6, none⟩ (.int .i64 y.pc)) L1 (x.mem s) p 101 y.cells := A1.set 6 (.int .i64 y.pc))
    go_ret
    rw [hy]
    refine ⟨?_, L1, A2, g1.trans (Went.set _ _ _ _ _)⟩
    first | rfl | (show Ending.returned (.bool ((y.pc : Int) == 0)) = _; rw [fin])
theorem cGive {x : GiveS} (A : At 97 w L s p 101 x.cells) (ok : x.Ok) (f : s.Fit) (hc : s.c < 1000000) (r : s.Rng) :
    Calls Tryz.prog 26 #[.pointer (some ⟨p, 0, none⟩), .pointer (some ⟨L.b, 0, none⟩)] w fun e w' => e = .returned (.bool ((x.next s).pc == 0)) ∧
      ∃ L', At 97 w' L' (x.mem s) p 101 (x.next s).cells ∧ Went w L p w' L' := by
  have ga : Below w.heap.size w (w.alloc (.cells #[.func (.func 60) #[.pointer (some ⟨p, 0, none⟩)] #[], .func (.func 61) #[.pointer (some ⟨p, 0, none⟩)] #[], .func (.func 62) #[.pointer (some ⟨p, 0, none⟩)] #[]] 81)) := S.bal (Below.refl _ _) _
  go_enter Tryz.func26, Tryz.ntmps26
  go_wp2_with (go_at_call 32; refine (giveDo (A.below ga) ok f hc r (heap_alloc_new _ _)).mono ?_; rintro e w1 ⟨rfl, L1, A1, g1⟩)
  go_ret
  exact ⟨rfl, L1, A1, (Went.of_below ga L p).trans g1⟩
theorem cCell {x : TakeS} (hb : w.heap[p]? = some (.cells x.cells 79 (0, 0))) (ok : x.Ok) (W : Laid w) :
    Calls Tryz.prog 17 #[.pointer (some ⟨p, 0, none⟩)] w fun e w' => e = .returned (.int .i64 x.cell) ∧ Below w.heap.size w w' := by
  have c6 : w.cell? ⟨p, 6, none⟩ = some (.int .i64 x.pc) := cell_of_row w _ _ _ _ _ hb
  by_cases h0 : x.pc = 0
  · rw [h0] at c6
    by_cases hz : t0 x.seen = 0
    · have e : x.cell = 0 := if_neg fun h => h.2 hz
      rw [e]
      go_enter Tryz.func17, Tryz.ntmps17
      go_wp2_with (go_at_call 41; refine (mFirst hb x.mach ok.seen).mono ?_; rintro e w1 ⟨rfl, hb1⟩; rw [hz])
      go_ret
      exact ⟨rfl, hb1⟩
    · have e : x.cell = x.ad 0 := if_pos ⟨h0, hz⟩
      have hz' : (t0 x.seen == 0) = false := by simpa using hz
      rw [e]
      go_enter Tryz.func17, Tryz.ntmps17
      go_wp2_with (first
        | (go_at_call 41; refine (mFirst hb x.mach ok.seen).mono ?_; rintro e w1 ⟨rfl, hb1⟩; have hb' := (hb1.block p (lt_of_block hb)).trans hb)
        | (go_at_call 42; refine (tCell hb' ok.pl ok.seen (W.on hb1) (by decide) (by decide)).mono ?_; rintro e w2 ⟨rfl, hb2⟩))
      go_ret
      exact ⟨rfl, bel_trans hb1 hb2⟩
  · have e : x.cell = 0 := if_neg fun h => h0 h.1
    have h0' : ((x.pc : Int) != 0) = true := by simp; omega
    rw [e]
    go_enter Tryz.func17, Tryz.ntmps17
    go_wp2
    go_ret
    exact ⟨rfl, Below.refl _ _⟩
end
end Go.Proofs.YtilknjihceemhaaGreatDoor
