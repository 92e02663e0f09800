/-
  A Take and a Give: made, a step of each, what a Take tells.
-/
import Derived.Test.YtbojljkdpebheaaDoorKs
namespace Go.Proofs.YtbojljkdpebheaaDoor
set_option linter.unusedVariables false
set_option maxRecDepth 100000
open Go.ChangeShapes Go.WideShapes Go.RowKit
open S.Plain (t0 t1 tw nx bw b0 b1 b2 b3)
open H.Plain (hw pL)

theorem cBegin (q : Pl) (w : World) :
    Calls Tryd.prog 71 #[.agg #[.int .i64 q.t, .int .i64 q.b, .int .i64 q.tb, .int .i64 q.hp, .int .i64 q.sz]] w fun e w' => e = .returned (.agg #[.int .i64 q.t, .int .i64 q.b, .int .i64 q.tb, .int .i64 q.hp, .int .i64 q.sz, .int .u64 0, .int .i64 1]) ∧ Below w.heap.size w w' := by
  go_enter Tryd.func71, Tryd.ntmps71
  go_wp2
  exact bodyPost_ret (v := .agg #[.int .i64 q.t, .int .i64 q.b, .int .i64 q.tb, .int .i64 q.hp, .int .i64 q.sz, .int .u64 0, .int .i64 1]) (by simp [results, Tryd.results71, go_sem]) rfl ⟨rfl, S.bal (S.bal (Below.refl _ _) _) _⟩
theorem cNewTake (q : Pl) (c e : Int) (w : World) :
    Calls Tryd.prog 62 #[.agg #[.int .i64 q.t, .int .i64 q.b, .int .i64 q.tb, .int .i64 q.hp, .int .i64 q.sz], .int .i64 c, .int .i64 e] w fun v w' => ∃ w1, v = .returned (.pointer (some ⟨w1.heap.size, 0, none⟩)) ∧ Below w.heap.size w w1 ∧ w' = w1.alloc (.cells (TakeS.new q c e).cells 81) := by
  go_enter Tryd.func62, Tryd.ntmps62
  go_wp2_with (go_at_call 71; refine (cBegin q _).mono ?_; rintro v w1 ⟨rfl, hb1⟩; have hb := bel_trans (S.bal (Below.refl w.heap.size w) _) hb1; clear hb1)
  go_ret
  exact ⟨w1, rfl, hb, rfl⟩
section
variable {w : World} {L : Loc} {s : St} {p o : Nat} {la lb : List Value} {T : TypeId}
theorem takeDo0 {x : TakeS} (A : AtI 89 w L s p T la lb o x.cells) (h0 : x.pc = 0) (v : Value) :
    Calls Tryd.prog 72 #[.pointer (some ⟨p, o, none⟩), .pointer (some ⟨L.b, 0, none⟩), v] w fun e w' => e = .returned (.bool true) ∧ w' = w := by
  obtain ⟨q, z, pc, c, e, v, k, u, us⟩ := x
  obtain rfl : pc = 0 := h0
  have c6 : w.cell? ⟨p, o + 6, none⟩ = some (.int .i64 0) := A.cell 6
  go_enter Tryd.func72, Tryd.ntmps72
  go_wp2
  go_ret
  exact ⟨rfl, rfl⟩
set_option maxHeartbeats 2000000 in
theorem takeDo {x : TakeS} {TF : TypeId} {g : Nat} (A : AtI 89 w L s p T la lb o x.cells) (ok : x.Ok) (f : s.Fit) (hc : s.c < 1000000) (r : s.Rng) (hg : w.heap[g]? = some (.cells #[.func (.func 73) #[.pointer (some ⟨p, o, none⟩)] #[], .func (.func 74) #[.pointer (some ⟨p, o, none⟩)] #[], .func (.func 75) #[.pointer (some ⟨p, o, none⟩)] #[], .func (.func 76) #[.pointer (some ⟨p, o, none⟩)] #[], .func (.func 77) #[.pointer (some ⟨p, o, none⟩)] #[], .func (.func 78) #[.pointer (some ⟨p, o, none⟩)] #[]] TF (0, 0))) :
    Calls Tryd.prog 72 #[.pointer (some ⟨p, o, none⟩), .pointer (some ⟨L.b, 0, none⟩), .slice (some ⟨g, 0, none⟩) 6 6] w fun e w' => e = .returned (.bool ((x.next s).pc == 0)) ∧
      ∃ L', AtI 89 w' L' (x.mem s) p T la lb o (x.next s).cells ∧ Went w L p w' L' := by
  have fin : ∀ q : Nat, ((q : Int) == 0) = (q == 0) := fun q => by rcases q with _ | q <;> simp <;> omega
  have hpc := ok.pc
  obtain ⟨pc, hpe⟩ : ∃ pc, x.pc = pc := ⟨_, rfl⟩
  rw [hpe] at hpc
  rcases pc6_cases hpc with rfl | rfl | rfl | rfl | rfl | rfl | rfl
  · have e1 : x.next s = x := by obtain ⟨q, z, pc, c, e, v, k, u, us⟩ := x; obtain rfl : pc = 0 := hpe; rfl
    have e2 : x.mem s = s := by obtain ⟨q, z, pc, c, e, v, k, u, us⟩ := x; obtain rfl : pc = 0 := hpe; rfl
    rw [e1, e2]
    refine (takeDo0 A hpe _).mono ?_
    rintro e w' ⟨rfl, rfl⟩
    exact ⟨by rw [hpe]; rfl, L, A, Went.refl _ _ _⟩
  · have c6 : w.cell? ⟨p, o + 6, none⟩ = some (.int .i64 1) := by have h : w.cell? ⟨p, o + 6, none⟩ = some (.int .i64 (x.pc : Int)) := A.cell 6; rw [hpe] at h; exact h
    have cf : w.cell? ⟨g, 0, none⟩ = some (.func (.func 73) #[.pointer (some ⟨p, o, none⟩)] #[]) := cell_of_row w _ _ _ _ _ hg
    go_enter Tryd.func72, Tryd.ntmps72
    go_wp2_with (go_at_call 73; refine (tFind A ok f hc r hpe).mono ?_; rintro e w1 ⟨rfl, L1, A1, g1⟩; have d6 : w1.cell? ⟨p, o + 6, none⟩ = some (.int .i64 1) := (by have h : w1.cell? ⟨p, o + 6, none⟩ = some (.int .i64 (x.pc : Int)) := A1.cell 6; rw [hpe] at h; exact h); have df6 := A1.free 6; rw [hpe] at A1; obtain ⟨y, hy⟩ : ∃ y, x.next s = y := ⟨_, rfl⟩; rw [hy] at A1 ⊢; have A2 : AtI 89 (w1.setCell ⟨p, o + 6, none⟩ (.int .i64 y.pc)) L1 (x.mem s) p T la lb o y.cells := A1.set 6 (.int .i64 y.pc))
    go_ret
    rw [hy]
    refine ⟨?_, L1, A2, g1.trans (Went.set _ _ _ _ _)⟩
    first | rfl | (show Ending.returned (.bool ((y.pc : Int) == 0)) = _; rw [fin])
  · have c6 : w.cell? ⟨p, o + 6, none⟩ = some (.int .i64 2) := by have h : w.cell? ⟨p, o + 6, none⟩ = some (.int .i64 (x.pc : Int)) := A.cell 6; rw [hpe] at h; exact h
    have cf : w.cell? ⟨g, 1, none⟩ = some (.func (.func 74) #[.pointer (some ⟨p, o, none⟩)] #[]) := cell_of_row w _ _ _ _ _ hg
    go_enter Tryd.func72, Tryd.ntmps72
    go_wp2_with (go_at_call 74; refine (tRead A ok f hc r hpe).mono ?_; rintro e w1 ⟨rfl, L1, A1, g1⟩; have d6 : w1.cell? ⟨p, o + 6, none⟩ = some (.int .i64 2) := (by have h : w1.cell? ⟨p, o + 6, none⟩ = some (.int .i64 (x.pc : Int)) := A1.cell 6; rw [hpe] at h; exact h); have df6 := A1.free 6; rw [hpe] at A1; obtain ⟨y, hy⟩ : ∃ y, x.next s = y := ⟨_, rfl⟩; rw [hy] at A1 ⊢; have A2 : AtI 89 (w1.setCell ⟨p, o + 6, none⟩ (.int .i64 y.pc)) L1 (x.mem s) p T la lb o y.cells := A1.set 6 (.int .i64 y.pc))
    go_ret
    rw [hy]
    refine ⟨?_, L1, A2, g1.trans (Went.set _ _ _ _ _)⟩
    first | rfl | (show Ending.returned (.bool ((y.pc : Int) == 0)) = _; rw [fin])
  · have c6 : w.cell? ⟨p, o + 6, none⟩ = some (.int .i64 3) := by have h : w.cell? ⟨p, o + 6, none⟩ = some (.int .i64 (x.pc : Int)) := A.cell 6; rw [hpe] at h; exact h
    have cf : w.cell? ⟨g, 2, none⟩ = some (.func (.func 75) #[.pointer (some ⟨p, o, none⟩)] #[]) := cell_of_row w _ _ _ _ _ hg
    go_enter Tryd.func72, Tryd.ntmps72
    go_wp2_with (go_at_call 75; refine (tTake A ok f hc r hpe).mono ?_; rintro e w1 ⟨rfl, L1, A1, g1⟩; have d6 : w1.cell? ⟨p, o + 6, none⟩ = some (.int .i64 3) := (by have h : w1.cell? ⟨p, o + 6, none⟩ = some (.int .i64 (x.pc : Int)) := A1.cell 6; rw [hpe] at h; exact h); have df6 := A1.free 6; rw [hpe] at A1; obtain ⟨y, hy⟩ : ∃ y, x.next s = y := ⟨_, rfl⟩; rw [hy] at A1 ⊢; have A2 : AtI 89 (w1.setCell ⟨p, o + 6, none⟩ (.int .i64 y.pc)) L1 (x.mem s) p T la lb o y.cells := A1.set 6 (.int .i64 y.pc))
    go_ret
    rw [hy]
    refine ⟨?_, L1, A2, g1.trans (Went.set _ _ _ _ _)⟩
    first | rfl | (show Ending.returned (.bool ((y.pc : Int) == 0)) = _; rw [fin])
  · have c6 : w.cell? ⟨p, o + 6, none⟩ = some (.int .i64 4) := by have h : w.cell? ⟨p, o + 6, none⟩ = some (.int .i64 (x.pc : Int)) := A.cell 6; rw [hpe] at h; exact h
    have cf : w.cell? ⟨g, 3, none⟩ = some (.func (.func 76) #[.pointer (some ⟨p, o, none⟩)] #[]) := cell_of_row w _ _ _ _ _ hg
    go_enter Tryd.func72, Tryd.ntmps72
    go_wp2_with (go_at_call 76; refine (tMark A ok f hc r hpe).mono ?_; rintro e w1 ⟨rfl, L1, A1, g1⟩; have d6 : w1.cell? ⟨p, o + 6, none⟩ = some (.int .i64 4) := (by have h : w1.cell? ⟨p, o + 6, none⟩ = some (.int .i64 (x.pc : Int)) := A1.cell 6; rw [hpe] at h; exact h); have df6 := A1.free 6; rw [hpe] at A1; obtain ⟨y, hy⟩ : ∃ y, x.next s = y := ⟨_, rfl⟩; rw [hy] at A1 ⊢; have A2 : AtI 89 (w1.setCell ⟨p, o + 6, none⟩ (.int .i64 y.pc)) L1 (x.mem s) p T la lb o y.cells := A1.set 6 (.int .i64 y.pc))
    go_ret
    rw [hy]
    refine ⟨?_, L1, A2, g1.trans (Went.set _ _ _ _ _)⟩
    first | rfl | (show Ending.returned (.bool ((y.pc : Int) == 0)) = _; rw [fin])
  · have c6 : w.cell? ⟨p, o + 6, none⟩ = some (.int .i64 5) := by have h : w.cell? ⟨p, o + 6, none⟩ = some (.int .i64 (x.pc : Int)) := A.cell 6; rw [hpe] at h; exact h
    have cf : w.cell? ⟨g, 4, none⟩ = some (.func (.func 77) #[.pointer (some ⟨p, o, none⟩)] #[]) := cell_of_row w _ _ _ _ _ hg
    by_cases hk : x.k + 2 < P.Plain.cs x.cls
    · go_enter Tryd.func72, Tryd.ntmps72
      go_wp2_with (go_at_call 77; refine (tLinkM A ok f hc r hpe hk).mono ?_; rintro e w1 ⟨rfl, L1, A1, g1⟩; have d6 : w1.cell? ⟨p, o + 6, none⟩ = some (.int .i64 5) := (by have h : w1.cell? ⟨p, o + 6, none⟩ = some (.int .i64 (x.pc : Int)) := A1.cell 6; rw [hpe] at h; exact h); have df6 := A1.free 6; rw [hpe] at A1; obtain ⟨y, hy⟩ : ∃ y, x.next s = y := ⟨_, rfl⟩; rw [hy] at A1 ⊢; have A2 : AtI 89 (w1.setCell ⟨p, o + 6, none⟩ (.int .i64 y.pc)) L1 (x.mem s) p T la lb o y.cells := A1.set 6 (.int .i64 y.pc))
      go_ret
      rw [hy]
      refine ⟨?_, L1, A2, g1.trans (Went.set _ _ _ _ _)⟩
      first | rfl | (show Ending.returned (.bool ((y.pc : Int) == 0)) = _; rw [fin])
    · go_enter Tryd.func72, Tryd.ntmps72
      go_wp2_with (go_at_call 77; refine (tLinkL A ok f hc r hpe hk).mono ?_; rintro e w1 ⟨rfl, L1, A1, g1⟩; have d6 : w1.cell? ⟨p, o + 6, none⟩ = some (.int .i64 5) := (by have h : w1.cell? ⟨p, o + 6, none⟩ = some (.int .i64 (x.pc : Int)) := A1.cell 6; rw [hpe] at h; exact h); have df6 := A1.free 6; rw [hpe] at A1; obtain ⟨y, hy⟩ : ∃ y, x.next s = y := ⟨_, rfl⟩; rw [hy] at A1 ⊢; have A2 : AtI 89 (w1.setCell ⟨p, o + 6, none⟩ (.int .i64 y.pc)) L1 (x.mem s) p T la lb o y.cells := A1.set 6 (.int .i64 y.pc))
      go_ret
      rw [hy]
      refine ⟨?_, L1, A2, g1.trans (Went.set _ _ _ _ _)⟩
      first | rfl | (show Ending.returned (.bool ((y.pc : Int) == 0)) = _; rw [fin])
  · have c6 : w.cell? ⟨p, o + 6, none⟩ = some (.int .i64 6) := by have h : w.cell? ⟨p, o + 6, none⟩ = some (.int .i64 (x.pc : Int)) := A.cell 6; rw [hpe] at h; exact h
    have cf : w.cell? ⟨g, 5, none⟩ = some (.func (.func 78) #[.pointer (some ⟨p, o, none⟩)] #[]) := cell_of_row w _ _ _ _ _ hg
    go_enter Tryd.func72, Tryd.ntmps72
    go_wp2_with (go_at_call 78; refine (tPushC A ok f hc r hpe).mono ?_; rintro e w1 ⟨rfl, L1, A1, g1⟩; have d6 : w1.cell? ⟨p, o + 6, none⟩ = some (.int .i64 6) := (by have h : w1.cell? ⟨p, o + 6, none⟩ = some (.int .i64 (x.pc : Int)) := A1.cell 6; rw [hpe] at h; exact h); have df6 := A1.free 6; rw [hpe] at A1; obtain ⟨y, hy⟩ : ∃ y, x.next s = y := ⟨_, rfl⟩; rw [hy] at A1 ⊢; have A2 : AtI 89 (w1.setCell ⟨p, o + 6, none⟩ (.int .i64 y.pc)) L1 (x.mem s) p T la lb o y.cells := A1.set 6 (.int .i64 y.pc))
    go_ret
    rw [hy]
    refine ⟨?_, L1, A2, g1.trans (Went.set _ _ _ _ _)⟩
    first | rfl | (show Ending.returned (.bool ((y.pc : Int) == 0)) = _; rw [fin])
theorem cTakeI {x : TakeS} (A : AtI 89 w L s p T la lb o x.cells) (ok : x.Ok) (f : s.Fit) (hc : s.c < 1000000) (r : s.Rng) :
    Calls Tryd.prog 63 #[.pointer (some ⟨p, o, none⟩), .pointer (some ⟨L.b, 0, none⟩)] w fun e w' => e = .returned (.bool ((x.next s).pc == 0)) ∧
      ∃ L', AtI 89 w' L' (x.mem s) p T la lb o (x.next s).cells ∧ Went w L p w' L' := by
  have ga : Below w.heap.size w (w.alloc (.cells #[.func (.func 73) #[.pointer (some ⟨p, o, none⟩)] #[], .func (.func 74) #[.pointer (some ⟨p, o, none⟩)] #[], .func (.func 75) #[.pointer (some ⟨p, o, none⟩)] #[], .func (.func 76) #[.pointer (some ⟨p, o, none⟩)] #[], .func (.func 77) #[.pointer (some ⟨p, o, none⟩)] #[], .func (.func 78) #[.pointer (some ⟨p, o, none⟩)] #[]] 119)) := S.bal (Below.refl _ _) _
  go_enter Tryd.func63, Tryd.ntmps63
  go_wp2_with (go_at_call 72; refine (takeDo (A.below ga) ok f hc r (heap_alloc_new _ _)).mono ?_; rintro e w1 ⟨rfl, L1, A1, g1⟩)
  go_ret
  exact ⟨rfl, L1, A1, (Went.of_below ga L p).trans g1⟩
theorem cCellI {x : TakeS} (hb : BlI w p T la lb o x.cells) (ok : x.Ok) (W : Laid w) :
    Calls Tryd.prog 64 #[.pointer (some ⟨p, o, none⟩)] w fun e w' => e = .returned (.int .i64 x.cell) ∧ Below w.heap.size w w' := by
  have c6 : w.cell? ⟨p, o + 6, none⟩ = some (.int .i64 x.pc) := hb.cell 6
  by_cases h0 : x.pc = 0
  · rw [h0] at c6
    by_cases hz : t0 x.seen = 0
    · have e : x.cell = 0 := if_neg fun h => h.2 hz
      rw [e]
      go_enter Tryd.func64, Tryd.ntmps64
      go_wp2_with (go_at_call 79; refine (mFirst hb x.mach ok.seen).mono ?_; rintro e w1 ⟨rfl, hb1⟩; rw [hz])
      go_ret
      exact ⟨rfl, hb1⟩
    · have e : x.cell = x.ad 0 := if_pos ⟨h0, hz⟩
      have hz' : (t0 x.seen == 0) = false := by simpa using hz
      rw [e]
      go_enter Tryd.func64, Tryd.ntmps64
      go_wp2_with (first
        | (go_at_call 79; refine (mFirst hb x.mach ok.seen).mono ?_; rintro e w1 ⟨rfl, hb1⟩; have hb' := hb.below hb1)
        | (go_at_call 80; refine (tCell hb' ok.pl ok.seen (W.on hb1) (by decide) (by decide)).mono ?_; rintro e w2 ⟨rfl, hb2⟩))
      go_ret
      exact ⟨rfl, bel_trans hb1 hb2⟩
  · have e : x.cell = 0 := if_neg fun h => h0 h.1
    have h0' : ((x.pc : Int) != 0) = true := by simp; omega
    rw [e]
    go_enter Tryd.func64, Tryd.ntmps64
    go_wp2
    go_ret
    exact ⟨rfl, Below.refl _ _⟩
end
end Go.Proofs.YtbojljkdpebheaaDoor
