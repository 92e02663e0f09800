/-
  Contracts: what a thread's roots become, by one function value each; Dup, Drop, Put; New.
-/
import Derived.Test.YtbihdkdefopijaaGc2
namespace Go.Proofs.Ytbihdkdefopijaa
set_option linter.unusedVariables false
set_option linter.unusedSimpArgs false
open Go.ChangeShapes Go.WideShapes Go.ChangeAt Go.RowKit

/-- what a thread's roots have become -/
theorem chg_end {w w1 : World} {L : Loc} {g : Gr} (hg : GAt w L g) (hb : Below w.heap.size w w1) (n : Nat) (h : n < g.ts.length) (q : List Int) (o : Obj) :
    GAt ((((((((((w1.alloc o).setCell ⟨L.tg, n * 9, none⟩ (.int .i64 q.length)).setCell ⟨L.tg, n * 9 + 1, none⟩ (.int .i64 (rl q 0))).setCell ⟨L.tg, n * 9 + 2, none⟩ (.int .i64 (rl q 1))).setCell ⟨L.tg, n * 9 + 3, none⟩ (.int .i64 (rl q 2))).setCell ⟨L.tg, n * 9 + 4, none⟩ (.int .i64 (rl q 3))).setCell ⟨L.tg, n * 9 + 5, none⟩ (.int .i64 (rl q 4))).setCell ⟨L.tg, n * 9 + 6, none⟩ (.int .i64 (rl q 5))).setCell ⟨L.tg, n * 9 + 7, none⟩ (.int .i64 (rl q 6))).setCell ⟨L.tg, n * 9 + 8, none⟩ (.int .i64 (rl q 7))).drew L (g.chg n q 0) ∧ Step w L ((((((((((w1.alloc o).setCell ⟨L.tg, n * 9, none⟩ (.int .i64 q.length)).setCell ⟨L.tg, n * 9 + 1, none⟩ (.int .i64 (rl q 0))).setCell ⟨L.tg, n * 9 + 2, none⟩ (.int .i64 (rl q 1))).setCell ⟨L.tg, n * 9 + 3, none⟩ (.int .i64 (rl q 2))).setCell ⟨L.tg, n * 9 + 4, none⟩ (.int .i64 (rl q 3))).setCell ⟨L.tg, n * 9 + 5, none⟩ (.int .i64 (rl q 4))).setCell ⟨L.tg, n * 9 + 6, none⟩ (.int .i64 (rl q 5))).setCell ⟨L.tg, n * 9 + 7, none⟩ (.int .i64 (rl q 6))).setCell ⟨L.tg, n * 9 + 8, none⟩ (.int .i64 (rl q 7))).drew L := by
  have R := ((hg.below hb).alloc o).setT n h q
  refine ⟨R.1.drew, ⟨?_, fun _ h => .inl h, rfl⟩⟩
  have K0 : Kept L.fp w (w1.alloc o) := (Kept.of_below hb).trans (Kept.alloc L.fp w1 o) fun _ hk => .inl hk
  exact (K0.trans R.2 fun k hk => .inl (by simp at hk; subst hk; simp [Loc.fp])).trans (Kept.drew L.fp _) fun _ hk => .inl hk

set_option maxHeartbeats 400000 in
theorem cChgPut {w : World} {L : Loc} {g : Gr} (hg : GAt w L g) (f : g.Fit) (n : Nat) (h : n < g.ts.length) (q : Nat) (r R : List Int) (E : Int) (hr : g.ts.getD n [] = r)
    (hd : Calls Try.prog 42 #[rvl r, .pointer (some ⟨q, 0, none⟩)] w fun e w' => e = .returned (.tuple #[rvl R, .int .i64 E]) ∧ Below w.heap.size w w') :
    Calls Try.prog 35 #[.pointer (some ⟨L.b, 0, none⟩), .int .i64 n, .func (.func 42) #[] #[.pointer (some ⟨q, 0, none⟩)]] w fun e w' => e = .returned (.int .i64 E) ∧ GAt w' L (g.chg n R E) ∧ Step w L w' L := by
  have c0 := hg.cell0
  have t64 := f.t64
  obtain ⟨d0, d1, d2, d3, d4, d5, d6, d7, d8⟩ := hg.t9 n h
  rw [hr] at d0 d1 d2 d3 d4 d5 d6 d7 d8
  by_cases h0 : E = 0
  case neg =>
    have h0' : (E == 0) = false := by simpa using h0
    have hE : g.chg n R E = g := by simp [Gr.chg, h0]
    rw [hE]
    clear hE h0
    go_enter Try.func35, Try.ntmps35
    go_wp2_with (go_at_call 42; refine hd.mono ?_; rintro e w1 ⟨rfl, hb⟩)
    go_ret
    have R1 := bt hb (bal (Below.refl _ _) (.cells #[.int .i64 R.length, .int .i64 (rl R 0), .int .i64 (rl R 1), .int .i64 (rl R 2), .int .i64 (rl R 3), .int .i64 (rl R 4), .int .i64 (rl R 5), .int .i64 (rl R 6), .int .i64 (rl R 7)] 72))
    exact ⟨rfl, hg.below R1, Step.of_below R1⟩
  case pos =>
    subst h0
    go_enter Try.func35, Try.ntmps35
    go_wp2_with (go_at_call 42; refine hd.mono ?_; rintro e w1 ⟨rfl, hb⟩; have hgA := (hg.below hb).alloc (.cells #[.int .i64 R.length, .int .i64 (rl R 0), .int .i64 (rl R 1), .int .i64 (rl R 2), .int .i64 (rl R 3), .int .i64 (rl R 4), .int .i64 (rl R 5), .int .i64 (rl R 6), .int .i64 (rl R 7)] 72); have q0 := hgA.cell0; have hff := hgA.tfree; obtain ⟨p0, p1, p2, p3, p4, p5, p6, p7, p8⟩ := hgA.t9 n h; have RR := chg_end hg hb n h R (.cells #[.int .i64 R.length, .int .i64 (rl R 0), .int .i64 (rl R 1), .int .i64 (rl R 2), .int .i64 (rl R 3), .int .i64 (rl R 4), .int .i64 (rl R 5), .int .i64 (rl R 6), .int .i64 (rl R 7)] 72); rw [hr] at p0 p1 p2 p3 p4 p5 p6 p7 p8; clear hgA)
    go_region
    go_wp2
    go_ret
    exact ⟨rfl, RR⟩

set_option maxHeartbeats 400000 in
theorem cChgDup {w : World} {L : Loc} {g : Gr} (hg : GAt w L g) (f : g.Fit) (n : Nat) (h : n < g.ts.length) (q : Nat) (r R : List Int) (E : Int) (hr : g.ts.getD n [] = r)
    (hd : Calls Try.prog 45 #[rvl r, .pointer (some ⟨q, 0, none⟩)] w fun e w' => e = .returned (.tuple #[rvl R, .int .i64 E]) ∧ Below w.heap.size w w') :
    Calls Try.prog 35 #[.pointer (some ⟨L.b, 0, none⟩), .int .i64 n, .func (.func 45) #[] #[.pointer (some ⟨q, 0, none⟩)]] w fun e w' => e = .returned (.int .i64 E) ∧ GAt w' L (g.chg n R E) ∧ Step w L w' L := by
  have c0 := hg.cell0
  have t64 := f.t64
  obtain ⟨d0, d1, d2, d3, d4, d5, d6, d7, d8⟩ := hg.t9 n h
  rw [hr] at d0 d1 d2 d3 d4 d5 d6 d7 d8
  by_cases h0 : E = 0
  case neg =>
    have h0' : (E == 0) = false := by simpa using h0
    have hE : g.chg n R E = g := by simp [Gr.chg, h0]
    rw [hE]
    clear hE h0
    go_enter Try.func35, Try.ntmps35
    go_wp2_with (go_at_call 45; refine hd.mono ?_; rintro e w1 ⟨rfl, hb⟩)
    go_ret
    have R1 := bt hb (bal (Below.refl _ _) (.cells #[.int .i64 R.length, .int .i64 (rl R 0), .int .i64 (rl R 1), .int .i64 (rl R 2), .int .i64 (rl R 3), .int .i64 (rl R 4), .int .i64 (rl R 5), .int .i64 (rl R 6), .int .i64 (rl R 7)] 72))
    exact ⟨rfl, hg.below R1, Step.of_below R1⟩
  case pos =>
    subst h0
    go_enter Try.func35, Try.ntmps35
    go_wp2_with (go_at_call 45; refine hd.mono ?_; rintro e w1 ⟨rfl, hb⟩; have hgA := (hg.below hb).alloc (.cells #[.int .i64 R.length, .int .i64 (rl R 0), .int .i64 (rl R 1), .int .i64 (rl R 2), .int .i64 (rl R 3), .int .i64 (rl R 4), .int .i64 (rl R 5), .int .i64 (rl R 6), .int .i64 (rl R 7)] 72); have q0 := hgA.cell0; have hff := hgA.tfree; obtain ⟨p0, p1, p2, p3, p4, p5, p6, p7, p8⟩ := hgA.t9 n h; have RR := chg_end hg hb n h R (.cells #[.int .i64 R.length, .int .i64 (rl R 0), .int .i64 (rl R 1), .int .i64 (rl R 2), .int .i64 (rl R 3), .int .i64 (rl R 4), .int .i64 (rl R 5), .int .i64 (rl R 6), .int .i64 (rl R 7)] 72); rw [hr] at p0 p1 p2 p3 p4 p5 p6 p7 p8; clear hgA)
    go_region
    go_wp2
    go_ret
    exact ⟨rfl, RR⟩

set_option maxHeartbeats 400000 in
theorem cChgAlloc {w : World} {L : Loc} {g : Gr} (hg : GAt w L g) (f : g.Fit) (n : Nat) (h : n < g.ts.length) (q : Nat) (r R : List Int) (E : Int) (hr : g.ts.getD n [] = r)
    (hd : Calls Try.prog 36 #[rvl r, .pointer (some ⟨q, 0, none⟩)] w fun e w' => e = .returned (.tuple #[rvl R, .int .i64 E]) ∧ Below w.heap.size w w') :
    Calls Try.prog 35 #[.pointer (some ⟨L.b, 0, none⟩), .int .i64 n, .func (.func 36) #[] #[.pointer (some ⟨q, 0, none⟩)]] w fun e w' => e = .returned (.int .i64 E) ∧ GAt w' L (g.chg n R E) ∧ Step w L w' L := by
  have c0 := hg.cell0
  have t64 := f.t64
  obtain ⟨d0, d1, d2, d3, d4, d5, d6, d7, d8⟩ := hg.t9 n h
  rw [hr] at d0 d1 d2 d3 d4 d5 d6 d7 d8
  by_cases h0 : E = 0
  case neg =>
    have h0' : (E == 0) = false := by simpa using h0
    have hE : g.chg n R E = g := by simp [Gr.chg, h0]
    rw [hE]
    clear hE h0
    go_enter Try.func35, Try.ntmps35
    go_wp2_with (go_at_call 36; refine hd.mono ?_; rintro e w1 ⟨rfl, hb⟩)
    go_ret
    have R1 := bt hb (bal (Below.refl _ _) (.cells #[.int .i64 R.length, .int .i64 (rl R 0), .int .i64 (rl R 1), .int .i64 (rl R 2), .int .i64 (rl R 3), .int .i64 (rl R 4), .int .i64 (rl R 5), .int .i64 (rl R 6), .int .i64 (rl R 7)] 72))
    exact ⟨rfl, hg.below R1, Step.of_below R1⟩
  case pos =>
    subst h0
    go_enter Try.func35, Try.ntmps35
    go_wp2_with (go_at_call 36; refine hd.mono ?_; rintro e w1 ⟨rfl, hb⟩; have hgA := (hg.below hb).alloc (.cells #[.int .i64 R.length, .int .i64 (rl R 0), .int .i64 (rl R 1), .int .i64 (rl R 2), .int .i64 (rl R 3), .int .i64 (rl R 4), .int .i64 (rl R 5), .int .i64 (rl R 6), .int .i64 (rl R 7)] 72); have q0 := hgA.cell0; have hff := hgA.tfree; obtain ⟨p0, p1, p2, p3, p4, p5, p6, p7, p8⟩ := hgA.t9 n h; have RR := chg_end hg hb n h R (.cells #[.int .i64 R.length, .int .i64 (rl R 0), .int .i64 (rl R 1), .int .i64 (rl R 2), .int .i64 (rl R 3), .int .i64 (rl R 4), .int .i64 (rl R 5), .int .i64 (rl R 6), .int .i64 (rl R 7)] 72); rw [hr] at p0 p1 p2 p3 p4 p5 p6 p7 p8; clear hgA)
    go_region
    go_wp2
    go_ret
    exact ⟨rfl, RR⟩

set_option maxHeartbeats 400000 in
theorem cChgDrop {w : World} {L : Loc} {g : Gr} (hg : GAt w L g) (f : g.Fit) (n : Nat) (h : n < g.ts.length) (r R : List Int) (E : Int) (hr : g.ts.getD n [] = r)
    (hd : Calls Try.prog 48 #[rvl r] w fun e w' => e = .returned (.tuple #[rvl R, .int .i64 E]) ∧ Below w.heap.size w w') :
    Calls Try.prog 35 #[.pointer (some ⟨L.b, 0, none⟩), .int .i64 n, .func (.func 48) #[] #[]] w fun e w' => e = .returned (.int .i64 E) ∧ GAt w' L (g.chg n R E) ∧ Step w L w' L := by
  have c0 := hg.cell0
  have t64 := f.t64
  obtain ⟨d0, d1, d2, d3, d4, d5, d6, d7, d8⟩ := hg.t9 n h
  rw [hr] at d0 d1 d2 d3 d4 d5 d6 d7 d8
  by_cases h0 : E = 0
  case neg =>
    have h0' : (E == 0) = false := by simpa using h0
    have hE : g.chg n R E = g := by simp [Gr.chg, h0]
    rw [hE]
    clear hE h0
    go_enter Try.func35, Try.ntmps35
    go_wp2_with (go_at_call 48; refine hd.mono ?_; rintro e w1 ⟨rfl, hb⟩)
    go_ret
    have R1 := bt hb (bal (Below.refl _ _) (.cells #[.int .i64 R.length, .int .i64 (rl R 0), .int .i64 (rl R 1), .int .i64 (rl R 2), .int .i64 (rl R 3), .int .i64 (rl R 4), .int .i64 (rl R 5), .int .i64 (rl R 6), .int .i64 (rl R 7)] 72))
    exact ⟨rfl, hg.below R1, Step.of_below R1⟩
  case pos =>
    subst h0
    go_enter Try.func35, Try.ntmps35
    go_wp2_with (go_at_call 48; refine hd.mono ?_; rintro e w1 ⟨rfl, hb⟩; have hgA := (hg.below hb).alloc (.cells #[.int .i64 R.length, .int .i64 (rl R 0), .int .i64 (rl R 1), .int .i64 (rl R 2), .int .i64 (rl R 3), .int .i64 (rl R 4), .int .i64 (rl R 5), .int .i64 (rl R 6), .int .i64 (rl R 7)] 72); have q0 := hgA.cell0; have hff := hgA.tfree; obtain ⟨p0, p1, p2, p3, p4, p5, p6, p7, p8⟩ := hgA.t9 n h; have RR := chg_end hg hb n h R (.cells #[.int .i64 R.length, .int .i64 (rl R 0), .int .i64 (rl R 1), .int .i64 (rl R 2), .int .i64 (rl R 3), .int .i64 (rl R 4), .int .i64 (rl R 5), .int .i64 (rl R 6), .int .i64 (rl R 7)] 72); rw [hr] at p0 p1 p2 p3 p4 p5 p6 p7 p8; clear hgA)
    go_region
    go_wp2
    go_ret
    exact ⟨rfl, RR⟩

set_option maxHeartbeats 400000 in
theorem cDupGBad {w : World} {L : Loc} {g : Gr} (hg : GAt w L g) (f : g.Fit) (t : Int) (i : Int) (h : g.isT t = false) :
    Calls Try.prog 25 #[.pointer (some ⟨L.b, 0, none⟩), .int .i64 t, .int .i64 i] w fun e w' => e = .returned (.int .i64 1) ∧ GAt w' L g ∧ Step w L w' L := by
  have hg1 := hg.alloc (.cells #[.int .i64 i] 3)
  go_enter Try.func25, Try.ntmps25
  go_wp2_with (go_at_call 34; refine (cHas hg1 f t).mono ?_; rintro e w1 ⟨rfl, hw⟩; rw [hw, h]; clear hw w1)
  go_ret
  exact ⟨rfl, hg1, Step.of_below (bal (Below.refl _ _) _)⟩
set_option maxHeartbeats 400000 in
theorem cDupGOne {w : World} {L : Loc} {g : Gr} (hg : GAt w L g) (f : g.Fit) (n : Nat) (i : Int) (h : n < g.ts.length) (r : List Int) (hr : g.ts.getD n [] = r) :
    Calls Try.prog 25 #[.pointer (some ⟨L.b, 0, none⟩), .int .i64 n, .int .i64 i] w fun e w' => e = .returned (.int .i64 (Rw.dupE r i)) ∧ GAt w' L (g.chg n (Rw.dup r i) (Rw.dupE r i)) ∧ Step w L w' L := by
  have hT : g.isT n = true := by simp [Gr.isT, h]
  have h8 : r.length ≤ 8 := hr ▸ f.rs8 n
  have hq : (w.alloc (.cells #[.int .i64 i] 3)).cell? ⟨w.heap.size, 0, none⟩ = some (.int .i64 i) := cell_of_one (heap_alloc_new w _)
  have hl : w.heap.size < (w.alloc (.cells #[.int .i64 i] 3)).heap.size := by simp
  have hg1 := hg.alloc (.cells #[.int .i64 i] 3)
  go_enter Try.func25, Try.ntmps25
  go_wp2_with (first
    | (go_at_call 34; refine (cHas hg1 f n).mono ?_; rintro e w1 ⟨rfl, hw⟩; rw [hw, hT]; clear hw w1)
    | (go_at_call 35; refine (cChgDup (hg.alloc _) f n h w.heap.size r _ _ hr (cDup1 r i h8 _ _ hq hl)).mono ?_; rintro e w1 ⟨rfl, hR, hS⟩))
  go_ret
  exact ⟨rfl, hR, Step.after (Kept.alloc _ _ _) hS⟩
theorem cDupG {w : World} {L : Loc} {g : Gr} (hg : GAt w L g) (f : g.Fit) (t : Int) (i : Int) :
    Calls Try.prog 25 #[.pointer (some ⟨L.b, 0, none⟩), .int .i64 t, .int .i64 i] w fun e w' => e = .returned (.int .i64 (g.dupE t i)) ∧ ∃ L', GAt w' L' (g.dup t i) ∧ Step w L w' L' := by
  rcases h : g.isT t with _ | _
  · refine (cDupGBad hg f t i h).mono ?_
    rintro e w' ⟨rfl, hR, hS⟩
    exact ⟨by simp [Gr.dupE, h], L, by simpa [Gr.dup, Gr.dupE, h] using hR, hS⟩
  · obtain ⟨n, rfl, hn⟩ := isT_nat h
    refine (cDupGOne hg f n i hn _ rfl).mono ?_
    rintro e w' ⟨rfl, hR, hS⟩
    have eE : g.dupE n i = Rw.dupE (g.ts.getD n []) i := by simp only [Gr.dupE, h, if_true]; rfl
    exact ⟨by rw [eE], L, by unfold Gr.dup; rw [eE]; exact hR, hS⟩

set_option maxHeartbeats 400000 in
theorem cDropGBad {w : World} {L : Loc} {g : Gr} (hg : GAt w L g) (f : g.Fit) (t : Int) (h : g.isT t = false) :
    Calls Try.prog 27 #[.pointer (some ⟨L.b, 0, none⟩), .int .i64 t] w fun e w' => e = .returned (.int .i64 1) ∧ GAt w' L g ∧ Step w L w' L := by
  go_enter Try.func27, Try.ntmps27
  go_wp2_with (go_at_call 34; refine (cHas hg f t).mono ?_; rintro e w1 ⟨rfl, hw⟩; rw [hw, h]; clear hw w1)
  go_ret
  exact ⟨rfl, hg, Step.refl _ _⟩
set_option maxHeartbeats 400000 in
theorem cDropGOne {w : World} {L : Loc} {g : Gr} (hg : GAt w L g) (f : g.Fit) (n : Nat) (h : n < g.ts.length) (r : List Int) (hr : g.ts.getD n [] = r) :
    Calls Try.prog 27 #[.pointer (some ⟨L.b, 0, none⟩), .int .i64 n] w fun e w' => e = .returned (.int .i64 (Rw.dropE r)) ∧ GAt w' L (g.chg n (Rw.drop r) (Rw.dropE r)) ∧ Step w L w' L := by
  have hT : g.isT n = true := by simp [Gr.isT, h]
  have h8 : r.length ≤ 8 := hr ▸ f.rs8 n
  go_enter Try.func27, Try.ntmps27
  go_wp2_with (first
    | (go_at_call 34; refine (cHas hg f n).mono ?_; rintro e w1 ⟨rfl, hw⟩; rw [hw, hT]; clear hw w1)
    | (go_at_call 35; refine (cChgDrop hg f n h r _ _ hr (cDropR r h8 _)).mono ?_; rintro e w1 ⟨rfl, hR, hS⟩))
  go_ret
  exact ⟨rfl, hR, hS⟩
theorem cDropG {w : World} {L : Loc} {g : Gr} (hg : GAt w L g) (f : g.Fit) (t : Int) :
    Calls Try.prog 27 #[.pointer (some ⟨L.b, 0, none⟩), .int .i64 t] w fun e w' => e = .returned (.int .i64 (g.dropE t)) ∧ ∃ L', GAt w' L' (g.drop t) ∧ Step w L w' L' := by
  rcases h : g.isT t with _ | _
  · refine (cDropGBad hg f t h).mono ?_
    rintro e w' ⟨rfl, hR, hS⟩
    exact ⟨by simp [Gr.dropE, h], L, by simpa [Gr.drop, Gr.dropE, h] using hR, hS⟩
  · obtain ⟨n, rfl, hn⟩ := isT_nat h
    refine (cDropGOne hg f n hn _ rfl).mono ?_
    rintro e w' ⟨rfl, hR, hS⟩
    have eE : g.dropE n = Rw.dropE (g.ts.getD n []) := by simp only [Gr.dropE, h, if_true]; rfl
    exact ⟨by rw [eE], L, by unfold Gr.drop; rw [eE]; exact hR, hS⟩

theorem c_err {r : List Int} (h : Rw.pushE r = 0) (a : Int) : Rw.push r a = r ++ [a] := by
  unfold Rw.pushE at h
  split at h
  · rename_i h'; simp [Rw.push, h']
  · simp at h
end Go.Proofs.Ytbihdkdefopijaa
