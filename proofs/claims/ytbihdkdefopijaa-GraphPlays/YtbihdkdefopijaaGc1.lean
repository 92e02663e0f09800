/-
  Contracts: Eq; what a thread's roots become; Dup, Drop, Put; New.
-/
import Derived.Test.YtbihdkdefopijaaGc0
namespace Go.Proofs.Ytbihdkdefopijaa
set_option linter.unusedVariables false
set_option linter.unusedSimpArgs false
open Go.ChangeShapes Go.WideShapes Go.ChangeAt Go.RowKit

theorem GAt.t9 {w : World} {L : Loc} {g : Gr} (h : GAt w L g) (k : Nat) (hk : k < g.ts.length) : w.cell? ⟨L.tg, k * 9, none⟩ = some (.int .i64 (g.ts.getD k []).length) ∧ w.cell? ⟨L.tg, k * 9 + 1, none⟩ = some (.int .i64 (rl (g.ts.getD k []) 0)) ∧ w.cell? ⟨L.tg, k * 9 + 2, none⟩ = some (.int .i64 (rl (g.ts.getD k []) 1)) ∧ w.cell? ⟨L.tg, k * 9 + 3, none⟩ = some (.int .i64 (rl (g.ts.getD k []) 2)) ∧ w.cell? ⟨L.tg, k * 9 + 4, none⟩ = some (.int .i64 (rl (g.ts.getD k []) 3)) ∧ w.cell? ⟨L.tg, k * 9 + 5, none⟩ = some (.int .i64 (rl (g.ts.getD k []) 4)) ∧ w.cell? ⟨L.tg, k * 9 + 6, none⟩ = some (.int .i64 (rl (g.ts.getD k []) 5)) ∧ w.cell? ⟨L.tg, k * 9 + 7, none⟩ = some (.int .i64 (rl (g.ts.getD k []) 6)) ∧ w.cell? ⟨L.tg, k * 9 + 8, none⟩ = some (.int .i64 (rl (g.ts.getD k []) 7)) := by
  refine ⟨h.tcell k hk 0 (by decide), ?_, ?_, ?_, ?_, ?_, ?_, ?_, ?_⟩
  · exact h.tcell k hk 1 (by decide)
  · exact h.tcell k hk 2 (by decide)
  · exact h.tcell k hk 3 (by decide)
  · exact h.tcell k hk 4 (by decide)
  · exact h.tcell k hk 5 (by decide)
  · exact h.tcell k hk 6 (by decide)
  · exact h.tcell k hk 7 (by decide)
  · exact h.tcell k hk 8 (by decide)

theorem isT_nat {g : Gr} {t : Int} (h : g.isT t = true) : ∃ k : Nat, t = k ∧ k < g.ts.length := by
  simp [Gr.isT] at h
  exact ⟨t.toNat, by omega, by omega⟩
set_option maxHeartbeats 400000 in
theorem cEqBad {w : World} {L : Loc} {g : Gr} (hg : GAt w L g) (f : g.Fit) (t i k : Int) (h : g.isT t = false) :
    Calls Try.prog 23 #[.pointer (some ⟨L.b, 0, none⟩), .int .i64 t, .int .i64 i, .int .i64 k] w fun e w' => e = .returned (.tuple #[.bool false, .int .i64 1]) ∧ w' = w := by
  go_enter Try.func23, Try.ntmps23
  go_wp2_with (go_at_call 34; refine (cHas hg f t).mono ?_; rintro e w1 ⟨rfl, hw⟩; rw [hw, h]; clear hw w1)
  go_ret2
  exact ⟨rfl, rfl⟩
set_option maxHeartbeats 400000 in
theorem cEqOne {w : World} {L : Loc} {g : Gr} (hg : GAt w L g) (f : g.Fit) (n : Nat) (i k : Int) (h : n < g.ts.length) :
    Calls Try.prog 23 #[.pointer (some ⟨L.b, 0, none⟩), .int .i64 n, .int .i64 i, .int .i64 k] w fun e w' => e = .returned (.tuple #[.bool (g.eqY n i k), .int .i64 (g.eqE n i k)]) ∧ Below w.heap.size w w' := by
  have hT : g.isT n = true := by simp [Gr.isT, h]
  have c0 := hg.cell0
  have t64 := f.t64
  obtain ⟨d0, d1, d2, d3, d4, d5, d6, d7, d8⟩ := hg.t9 n h
  have h8 := f.rs8 n
  have er : g.rs n = g.ts.getD n [] := rfl
  rw [er] at h8
  unfold Gr.eqY Gr.eqE
  rw [er, hT]
  generalize hr : g.ts.getD n [] = r at d0 d1 d2 d3 d4 d5 d6 d7 d8 h8 ⊢
  by_cases h1 : Rw.isAt r i = true
  case neg =>
    have h1' : Rw.isAt r i = false := by simpa using h1
    have e1 : Rw.getE r i = 12 := by simp [Rw.getE, h1']
    go_enter Try.func23, Try.ntmps23
    go_wp2_with (first
      | (go_at_call 34; refine (cHas hg f n).mono ?_; rintro e w1 ⟨rfl, hw⟩; rw [hw, hT]; clear hw w1)
      | (go_at_call 44; refine (cGetR r i h8 _).mono ?_; rintro e w1 ⟨rfl, hb⟩; rw [e1]))
    go_ret2
    exact ⟨by simp [h1'], hb⟩
  case pos =>
    have e1 : Rw.getE r i = 0 := by simp [Rw.getE, h1]
    obtain ⟨x, hx⟩ : ∃ x, Rw.get r i = x := ⟨_, rfl⟩
    obtain ⟨y, hy⟩ : ∃ y, Rw.get r k = y := ⟨_, rfl⟩
    rw [hx, hy]
    by_cases h2 : Rw.isAt r k = true
    case neg =>
      have h2' : Rw.isAt r k = false := by simpa using h2
      have e2 : Rw.getE r k = 12 := by simp [Rw.getE, h2']
      go_enter Try.func23, Try.ntmps23
      go_wp2_with (first
        | (go_at_call 34; refine (cHas hg f n).mono ?_; rintro e w1 ⟨rfl, hw⟩; rw [hw, hT]; clear hw w1)
        | (go_at_call_of 44 (Value.int .i64 k); have hz := hb; refine (cGetR r k h8 _).mono ?_; rintro e w2 ⟨rfl, hb2⟩; rw [e2, hy])
        | (go_at_call_of 44 (Value.int .i64 i); refine (cGetR r i h8 _).mono ?_; rintro e w1 ⟨rfl, hb⟩; rw [e1, hx]; have q0 := (hg.below hb).cell0; obtain ⟨p0, p1, p2, p3, p4, p5, p6, p7, p8⟩ := (hg.below hb).t9 n h; rw [hr] at p0 p1 p2 p3 p4 p5 p6 p7 p8))
      go_ret2
      exact ⟨by simp [h2'], bt hb hb2⟩
    case pos =>
      have e2 : Rw.getE r k = 0 := by simp [Rw.getE, h2]
      have ed : (decide ((if (Rw.isAt r i = true ∧ Rw.isAt r k = true) then (0 : Int) else 12) = 0) && decide (x = y)) = decide (x = y) := by simp [h1, h2]
      have ee : (if (Rw.isAt r i = true ∧ Rw.isAt r k = true) then (0 : Int) else 12) = 0 := by simp [h1, h2]
      simp only [if_true, ed, ee]
      clear ed ee h1 h2
      by_cases exy : x = y
      all_goals
        have exy' : (x == y) = decide (x = y) := by by_cases h : x = y <;> simp [h]
        go_enter Try.func23, Try.ntmps23
        go_wp2_with (first
          | (go_at_call 34; refine (cHas hg f n).mono ?_; rintro e w1 ⟨rfl, hw⟩; rw [hw, hT]; clear hw w1)
          | (go_at_call_of 44 (Value.int .i64 k); have hz := hb; refine (cGetR r k h8 _).mono ?_; rintro e w2 ⟨rfl, hb2⟩; rw [e2, hy])
          | (go_at_call_of 44 (Value.int .i64 i); refine (cGetR r i h8 _).mono ?_; rintro e w1 ⟨rfl, hb⟩; rw [e1, hx]; have q0 := (hg.below hb).cell0; obtain ⟨p0, p1, p2, p3, p4, p5, p6, p7, p8⟩ := (hg.below hb).t9 n h; rw [hr] at p0 p1 p2 p3 p4 p5 p6 p7 p8))
        go_ret2
        exact ⟨by simp [exy], bt hb hb2⟩
theorem cEq {w : World} {L : Loc} {g : Gr} (hg : GAt w L g) (f : g.Fit) (t i k : Int) :
    Calls Try.prog 23 #[.pointer (some ⟨L.b, 0, none⟩), .int .i64 t, .int .i64 i, .int .i64 k] w fun e w' => e = .returned (.tuple #[.bool (g.eqY t i k), .int .i64 (g.eqE t i k)]) ∧ Below w.heap.size w w' := by
  rcases h : g.isT t with _ | _
  · refine (cEqBad hg f t i k h).mono ?_
    rintro e w' ⟨rfl, rfl⟩
    exact ⟨by simp [Gr.eqY, Gr.eqE, h], Below.refl _ _⟩
  · obtain ⟨n, rfl, hn⟩ := isT_nat h
    exact cEqOne hg f n i k hn

/-- the graph, behind a store of a thread's roots -/
theorem GAt.setT {w : World} {L : Loc} {g : Gr} (h : GAt w L g) (k : Nat) (hk : k < g.ts.length) (q : List Int) :
    GAt (((((((((w.setCell ⟨L.tg, k * 9, none⟩ (.int .i64 q.length)).setCell ⟨L.tg, k * 9 + 1, none⟩ (.int .i64 (rl q 0))).setCell ⟨L.tg, k * 9 + 2, none⟩ (.int .i64 (rl q 1))).setCell ⟨L.tg, k * 9 + 3, none⟩ (.int .i64 (rl q 2))).setCell ⟨L.tg, k * 9 + 4, none⟩ (.int .i64 (rl q 3))).setCell ⟨L.tg, k * 9 + 5, none⟩ (.int .i64 (rl q 4))).setCell ⟨L.tg, k * 9 + 6, none⟩ (.int .i64 (rl q 5))).setCell ⟨L.tg, k * 9 + 7, none⟩ (.int .i64 (rl q 6))).setCell ⟨L.tg, k * 9 + 8, none⟩ (.int .i64 (rl q 7))) L (g.setR k q) ∧
    Kept [L.tg] w (((((((((w.setCell ⟨L.tg, k * 9, none⟩ (.int .i64 q.length)).setCell ⟨L.tg, k * 9 + 1, none⟩ (.int .i64 (rl q 0))).setCell ⟨L.tg, k * 9 + 2, none⟩ (.int .i64 (rl q 1))).setCell ⟨L.tg, k * 9 + 3, none⟩ (.int .i64 (rl q 2))).setCell ⟨L.tg, k * 9 + 4, none⟩ (.int .i64 (rl q 3))).setCell ⟨L.tg, k * 9 + 5, none⟩ (.int .i64 (rl q 4))).setCell ⟨L.tg, k * 9 + 6, none⟩ (.int .i64 (rl q 5))).setCell ⟨L.tg, k * 9 + 7, none⟩ (.int .i64 (rl q 6))).setCell ⟨L.tg, k * 9 + 8, none⟩ (.int .i64 (rl q 7))) := by
  have ks : ∀ (u : World) (j : Nat) (v : Value), Kept [L.tg] w u → Kept [L.tg] w (u.setCell ⟨L.tg, j, none⟩ v) := fun u j v h => h.trans (Kept.setCell [L.tg] u _ v (by simp)) fun _ hk => .inl hk
  have K := ks _ (k * 9 + 8) (.int .i64 (rl q 7)) (ks _ (k * 9 + 7) (.int .i64 (rl q 6)) (ks _ (k * 9 + 6) (.int .i64 (rl q 5)) (ks _ (k * 9 + 5) (.int .i64 (rl q 4)) (ks _ (k * 9 + 4) (.int .i64 (rl q 3)) (ks _ (k * 9 + 3) (.int .i64 (rl q 2)) (ks _ (k * 9 + 2) (.int .i64 (rl q 1)) (ks _ (k * 9 + 1) (.int .i64 (rl q 0)) (ks _ (k * 9) (.int .i64 q.length) (Kept.refl _ _)))))))))
  refine ⟨⟨?_, ?_, ?_, h.non⟩, K⟩
  · rw [K.block _ (lt_of_block h.blk) (by simp; exact h.bt), h.blk]
    simp [Gr.setR]
  · have R := ((((((((h.thr.stored (k * 9) (.int .i64 q.length)).1.stored (k * 9 + 1) (.int .i64 (rl q 0))).1.stored (k * 9 + 2) (.int .i64 (rl q 1))).1.stored (k * 9 + 3) (.int .i64 (rl q 2))).1.stored (k * 9 + 4) (.int .i64 (rl q 3))).1.stored (k * 9 + 5) (.int .i64 (rl q 4))).1.stored (k * 9 + 6) (.int .i64 (rl q 5))).1.stored (k * 9 + 7) (.int .i64 (rl q 6))).1.stored (k * 9 + 8) (.int .i64 (rl q 7))
    have R1 := R.1
    rw [tcells_set g.ts q k hk] at R1
    simpa [Gr.setR] using R1
  · exact own_kept h.obj K fun j hj e => by simp at e; subst e; exact h.to hj

set_option maxHeartbeats 400000 in
theorem cPut1 (r : List Int) (a : Int) (h8 : r.length ≤ 8) (q : Nat) (w : World) (hq : w.cell? ⟨q, 0, none⟩ = some (.int .i64 a)) (hl : q < w.heap.size) :
    Calls Try.prog 42 #[rvl r, .pointer (some ⟨q, 0, none⟩)] w fun e w' => e = .returned (.tuple #[rvl (Rw.push r a), .int .i64 (Rw.pushE r)]) ∧ Below w.heap.size w w' := by
  have hP := cPushR r a h8
  generalize Rw.push r a = pr at hP ⊢
  generalize Rw.pushE r = pe at hP ⊢
  go_enter Try.func42, Try.ntmps42
  go_wp2_with (go_at_call 37; refine (hP _).mono ?_; rintro e w1 ⟨rfl, hb⟩; have hB := bt (bal (bal (Below.refl w.heap.size w) _) _) hb; have hR := RAt.on (RAt.new (w.alloc (.cells #[.int .i64 r.length, .int .i64 (rl r 0), .int .i64 (rl r 1), .int .i64 (rl r 2), .int .i64 (rl r 3), .int .i64 (rl r 4), .int .i64 (rl r 5), .int .i64 (rl r 6), .int .i64 (rl r 7)] 72)) 0 Plain.nil) hb; simp only [World.size_alloc] at hR; obtain ⟨d0, d1, d2, d3, d4, d5, d6, d7, d8⟩ := hR.cells; have hf := hR.free; clear hb)
  exact bodyPost_ret (v := .tuple #[rvl pr, .int .i64 pe]) (by simp [results, Try.results42, go_sem, d0, d1, d2, d3, d4, d5, d6, d7, d8]) rfl ⟨rfl, b9 (by omega) hB⟩

set_option maxHeartbeats 400000 in
theorem cDup1 (r : List Int) (a : Int) (h8 : r.length ≤ 8) (q : Nat) (w : World) (hq : w.cell? ⟨q, 0, none⟩ = some (.int .i64 a)) (hl : q < w.heap.size) :
    Calls Try.prog 45 #[rvl r, .pointer (some ⟨q, 0, none⟩)] w fun e w' => e = .returned (.tuple #[rvl (Rw.dup r a), .int .i64 (Rw.dupE r a)]) ∧ Below w.heap.size w w' := by
  have hP := cDupR r a h8
  generalize Rw.dup r a = pr at hP ⊢
  generalize Rw.dupE r a = pe at hP ⊢
  go_enter Try.func45, Try.ntmps45
  go_wp2_with (go_at_call 46; refine (hP _).mono ?_; rintro e w1 ⟨rfl, hb⟩; have hB := bt (bal (bal (Below.refl w.heap.size w) _) _) hb; have hR := RAt.on (RAt.new (w.alloc (.cells #[.int .i64 r.length, .int .i64 (rl r 0), .int .i64 (rl r 1), .int .i64 (rl r 2), .int .i64 (rl r 3), .int .i64 (rl r 4), .int .i64 (rl r 5), .int .i64 (rl r 6), .int .i64 (rl r 7)] 72)) 0 Plain.nil) hb; simp only [World.size_alloc] at hR; obtain ⟨d0, d1, d2, d3, d4, d5, d6, d7, d8⟩ := hR.cells; have hf := hR.free; clear hb)
  exact bodyPost_ret (v := .tuple #[rvl pr, .int .i64 pe]) (by simp [results, Try.results45, go_sem, d0, d1, d2, d3, d4, d5, d6, d7, d8]) rfl ⟨rfl, b9 (by omega) hB⟩
end Go.Proofs.Ytbihdkdefopijaa
