/-
  Contracts of the reference: Eq, Dup, Drop, Put.
-/
import Derived.Test.YtbihdkdefopijaaYm
import Derived.Test.YtbihdkdefopijaaGc3
namespace Go.Proofs.Ytbihdkdefopijaa
set_option linter.unusedVariables false
set_option linter.unusedSimpArgs false
open Go.ChangeShapes Go.WideShapes Go.ChangeAt Go.RowKit

structure YStep (w : World) (L : YLoc) (w' : World) (L' : YLoc) : Prop where
  kept : Kept L.fp w w'
  new : ∀ k ∈ L'.fp, k ∈ L.fp ∨ w.heap.size ≤ k
  b : L'.b = L.b
theorem YStep.refl (w : World) (L : YLoc) : YStep w L w L := ⟨Kept.refl _ _, fun _ h => .inl h, rfl⟩
theorem YStep.trans {w w1 w2 : World} {L L1 L2 : YLoc} (h : YStep w L w1 L1) (h1 : YStep w1 L1 w2 L2) : YStep w L w2 L2 :=
  ⟨h.kept.trans h1.kept h.new, fun k hk => (h1.new k hk).elim (h.new k) fun hk' => .inr (Nat.le_trans h.kept.size hk'), h1.b.trans h.b⟩
theorem YStep.from {w w1 : World} {L L1 : YLoc} {B : Nat} (h : YStep w L w1 L1) (hL : ∀ k ∈ L.fp, B ≤ k) (hB : B ≤ w.heap.size) : Below B w w1 ∧ ∀ k ∈ L1.fp, B ≤ k :=
  ⟨h.kept.below hL hB, fun k hk => (h.new k hk).elim (hL k) fun h' => by omega⟩
theorem YStep.of_below {w w' : World} {L : YLoc} (h : Below w.heap.size w w') : YStep w L w' L := ⟨Kept.of_below h, fun _ h => .inl h, rfl⟩

theorem YAt.lt_ne {w : World} {L : YLoc} {g : Gr} (h : YAt w L g) : L.vl.ownBlock ≠ some L.tg := fun e => by
  obtain ⟨cur, hc⟩ := h.lblk _ e
  obtain ⟨cur', hc'⟩ := h.tblk
  rw [hc] at hc'
  simp at hc'
theorem YAt.vt_ne {w : World} {L : YLoc} {g : Gr} (h : YAt w L g) (i : Nat) (u : Value) (hi : L.vs[i]? = some u) : u.ownBlock ≠ some L.tg := fun e => by
  obtain ⟨cur, hc⟩ := h.vblk i u hi _ e
  obtain ⟨cur', hc'⟩ := h.tblk
  rw [hc] at hc'
  simp at hc'
theorem YAt.setT {w : World} {L : YLoc} {g : Gr} (h : YAt w L g) (n : Nat) (hk : n < g.ts.length) (q : List Int) :
    YAt (((((((((w.setCell ⟨L.tg, n * 9, none⟩ (.int .i64 q.length)).setCell ⟨L.tg, n * 9 + 1, none⟩ (.int .i64 (rl q 0))).setCell ⟨L.tg, n * 9 + 2, none⟩ (.int .i64 (rl q 1))).setCell ⟨L.tg, n * 9 + 3, none⟩ (.int .i64 (rl q 2))).setCell ⟨L.tg, n * 9 + 4, none⟩ (.int .i64 (rl q 3))).setCell ⟨L.tg, n * 9 + 5, none⟩ (.int .i64 (rl q 4))).setCell ⟨L.tg, n * 9 + 6, none⟩ (.int .i64 (rl q 5))).setCell ⟨L.tg, n * 9 + 7, none⟩ (.int .i64 (rl q 6))).setCell ⟨L.tg, n * 9 + 8, none⟩ (.int .i64 (rl q 7))) L (g.setR n q) ∧ Kept [L.tg] w (((((((((w.setCell ⟨L.tg, n * 9, none⟩ (.int .i64 q.length)).setCell ⟨L.tg, n * 9 + 1, none⟩ (.int .i64 (rl q 0))).setCell ⟨L.tg, n * 9 + 2, none⟩ (.int .i64 (rl q 1))).setCell ⟨L.tg, n * 9 + 3, none⟩ (.int .i64 (rl q 2))).setCell ⟨L.tg, n * 9 + 4, none⟩ (.int .i64 (rl q 3))).setCell ⟨L.tg, n * 9 + 5, none⟩ (.int .i64 (rl q 4))).setCell ⟨L.tg, n * 9 + 6, none⟩ (.int .i64 (rl q 5))).setCell ⟨L.tg, n * 9 + 7, none⟩ (.int .i64 (rl q 6))).setCell ⟨L.tg, n * 9 + 8, none⟩ (.int .i64 (rl q 7))) := by
  have ks : ∀ (u : World) (j : Nat) (v : Value), Kept [L.tg] w u → Kept [L.tg] w (u.setCell ⟨L.tg, j, none⟩ v) := fun u j v h => h.trans (Kept.setCell [L.tg] u _ v (by simp)) fun _ hk => .inl hk
  have K := (ks _ (n * 9 + 8) (.int .i64 (rl q 7)) (ks _ (n * 9 + 7) (.int .i64 (rl q 6)) (ks _ (n * 9 + 6) (.int .i64 (rl q 5)) (ks _ (n * 9 + 5) (.int .i64 (rl q 4)) (ks _ (n * 9 + 4) (.int .i64 (rl q 3)) (ks _ (n * 9 + 3) (.int .i64 (rl q 2)) (ks _ (n * 9 + 2) (.int .i64 (rl q 1)) (ks _ (n * 9 + 1) (.int .i64 (rl q 0)) (ks _ (n * 9) (.int .i64 q.length) (Kept.refl _ _))))))))))
  refine ⟨⟨?_, ?_, h.len, ?_, ?_, h.apart, h.non⟩, K⟩
  · rw [K.block _ (lt_of_block h.blk) (by simp; exact h.bt), h.blk]
    simp [Gr.setR]
  · have R1 := (((((((((h.thr.stored (n * 9) (.int .i64 q.length)).1.stored (n * 9 + 1) (.int .i64 (rl q 0))).1.stored (n * 9 + 2) (.int .i64 (rl q 1))).1.stored (n * 9 + 3) (.int .i64 (rl q 2))).1.stored (n * 9 + 4) (.int .i64 (rl q 3))).1.stored (n * 9 + 5) (.int .i64 (rl q 4))).1.stored (n * 9 + 6) (.int .i64 (rl q 5))).1.stored (n * 9 + 7) (.int .i64 (rl q 6))).1.stored (n * 9 + 8) (.int .i64 (rl q 7))).1
    rw [tcells_set g.ts q n hk] at R1
    simpa [Gr.setR] using R1
  · exact own_kept h.row K fun j hj e => by simp at e; subst e; exact h.lt_ne hj
  · intro i o hi
    obtain ⟨u, e1, e2⟩ := h.obj i o hi
    exact ⟨u, e1, own_kept e2 K fun j hj e => by simp at e; subst e; exact h.vt_ne i u e1 hj⟩

set_option maxHeartbeats 400000 in
theorem yEqBad {w : World} {L : YLoc} {g : Gr} (hg : YAt w L g) (f : g.Fit) (t i k : Int) (h : g.isT t = false) :
    Calls Try.prog 24 #[.pointer (some ⟨L.b, 0, none⟩), .int .i64 t, .int .i64 i, .int .i64 k] w fun e w' => e = .returned (.tuple #[.bool false, .int .i64 1]) ∧ w' = w := by
  go_enter Try.func24, Try.ntmps24
  go_wp2_with (go_at_call 38; refine (yIs hg f t).mono ?_; rintro e w1 ⟨rfl, hw⟩; rw [hw, h]; clear hw w1)
  go_ret2
  exact ⟨rfl, rfl⟩
set_option maxHeartbeats 400000 in
theorem yEqOne {w : World} {L : YLoc} {g : Gr} (hg : YAt w L g) (f : g.Fit) (n : Nat) (i k : Int) (h : n < g.ts.length) :
    Calls Try.prog 24 #[.pointer (some ⟨L.b, 0, none⟩), .int .i64 n, .int .i64 i, .int .i64 k] w fun e w' => e = .returned (.tuple #[.bool (g.eqY n i k), .int .i64 (g.eqE n i k)]) ∧ Below w.heap.size w w' := by
  have hT : g.isT n = true := by simp [Gr.isT, h]
  have c0 := hg.cell0
  have t64 := f.t64
  obtain ⟨d0, d1, d2, d3, d4, d5, d6, d7, d8⟩ := hg.t9 n h
  have h8 := f.rs8 n
  have er : g.rs n = g.ts.getD n [] := rfl
  rw [er] at h8
  unfold Gr.eqY Gr.eqE
  rw [er, hT]
  generalize hr : g.ts.getD n [] = r at d0 d1 d2 d3 d4 d5 d6 d7 d8 h8 ⊢
  by_cases h1 : Rw.isAt r i = true
  case neg =>
    have h1' : Rw.isAt r i = false := by simpa using h1
    have e1 : Rw.getE r i = 12 := by simp [Rw.getE, h1']
    go_enter Try.func24, Try.ntmps24
    go_wp2_with (first
      | (go_at_call 38; refine (yIs hg f n).mono ?_; rintro e w1 ⟨rfl, hw⟩; rw [hw, hT]; clear hw w1)
      | (go_at_call_of 41 (Value.int .i64 k); have hz := hb; refine (rGetR r k h8 _).mono ?_; rintro e w2 ⟨rfl, hb2⟩)
      | (go_at_call_of 41 (Value.int .i64 i); refine (rGetR r i h8 _).mono ?_; rintro e w1 ⟨rfl, hb⟩; rw [e1]; have q0 := (hg.below hb).cell0; obtain ⟨p0, p1, p2, p3, p4, p5, p6, p7, p8⟩ := (hg.below hb).t9 n h; rw [hr] at p0 p1 p2 p3 p4 p5 p6 p7 p8))
    go_ret2
    exact ⟨by simp [h1'], bt hb hb2⟩
  case pos =>
    have e1 : Rw.getE r i = 0 := by simp [Rw.getE, h1]
    obtain ⟨x, hx⟩ : ∃ x, Rw.get r i = x := ⟨_, rfl⟩
    obtain ⟨y, hy⟩ : ∃ y, Rw.get r k = y := ⟨_, rfl⟩
    rw [hx, hy]
    by_cases h2 : Rw.isAt r k = true
    case neg =>
      have h2' : Rw.isAt r k = false := by simpa using h2
      have e2 : Rw.getE r k = 12 := by simp [Rw.getE, h2']
      go_enter Try.func24, Try.ntmps24
      go_wp2_with (first
        | (go_at_call 38; refine (yIs hg f n).mono ?_; rintro e w1 ⟨rfl, hw⟩; rw [hw, hT]; clear hw w1)
        | (go_at_call_of 41 (Value.int .i64 k); have hz := hb; refine (rGetR r k h8 _).mono ?_; rintro e w2 ⟨rfl, hb2⟩; rw [e2, hy])
        | (go_at_call_of 41 (Value.int .i64 i); refine (rGetR r i h8 _).mono ?_; rintro e w1 ⟨rfl, hb⟩; rw [e1, hx]; have q0 := (hg.below hb).cell0; obtain ⟨p0, p1, p2, p3, p4, p5, p6, p7, p8⟩ := (hg.below hb).t9 n h; rw [hr] at p0 p1 p2 p3 p4 p5 p6 p7 p8))
      go_ret2
      exact ⟨by simp [h2'], bt hb hb2⟩
    case pos =>
      have e2 : Rw.getE r k = 0 := by simp [Rw.getE, h2]
      have ed : (decide ((if (Rw.isAt r i = true ∧ Rw.isAt r k = true) then (0 : Int) else 12) = 0) && decide (x = y)) = decide (x = y) := by simp [h1, h2]
      have ee : (if (Rw.isAt r i = true ∧ Rw.isAt r k = true) then (0 : Int) else 12) = 0 := by simp [h1, h2]
      simp only [if_true, ed, ee]
      clear ed ee h1 h2
      by_cases exy : x = y
      all_goals
        have exy' : (x == y) = decide (x = y) := by by_cases h : x = y <;> simp [h]
        go_enter Try.func24, Try.ntmps24
        go_wp2_with (first
          | (go_at_call 38; refine (yIs hg f n).mono ?_; rintro e w1 ⟨rfl, hw⟩; rw [hw, hT]; clear hw w1)
          | (go_at_call_of 41 (Value.int .i64 k); have hz := hb; refine (rGetR r k h8 _).mono ?_; rintro e w2 ⟨rfl, hb2⟩; rw [e2, hy])
          | (go_at_call_of 41 (Value.int .i64 i); refine (rGetR r i h8 _).mono ?_; rintro e w1 ⟨rfl, hb⟩; rw [e1, hx]; have q0 := (hg.below hb).cell0; obtain ⟨p0, p1, p2, p3, p4, p5, p6, p7, p8⟩ := (hg.below hb).t9 n h; rw [hr] at p0 p1 p2 p3 p4 p5 p6 p7 p8))
        go_ret2
        exact ⟨by simp [exy], bt hb hb2⟩
theorem yEq {w : World} {L : YLoc} {g : Gr} (hg : YAt w L g) (f : g.Fit) (t i k : Int) :
    Calls Try.prog 24 #[.pointer (some ⟨L.b, 0, none⟩), .int .i64 t, .int .i64 i, .int .i64 k] w fun e w' => e = .returned (.tuple #[.bool (g.eqY t i k), .int .i64 (g.eqE t i k)]) ∧ Below w.heap.size w w' := by
  rcases h : g.isT t with _ | _
  · refine (yEqBad hg f t i k h).mono ?_
    rintro e w' ⟨rfl, rfl⟩
    exact ⟨by simp [Gr.eqY, Gr.eqE, h], Below.refl _ _⟩
  · obtain ⟨n, rfl, hn⟩ := isT_nat h
    exact yEqOne hg f n i k hn


/-- what a thread's roots have become -/
theorem ychg_end {w w1 : World} {L : YLoc} {g : Gr} (hg : YAt w L g) (hb : Below w.heap.size w w1) (n : Nat) (h : n < g.ts.length) (q : List Int) (o : Obj) :
    YAt ((((((((((w1.alloc o).setCell ⟨L.tg, n * 9, none⟩ (.int .i64 q.length)).setCell ⟨L.tg, n * 9 + 1, none⟩ (.int .i64 (rl q 0))).setCell ⟨L.tg, n * 9 + 2, none⟩ (.int .i64 (rl q 1))).setCell ⟨L.tg, n * 9 + 3, none⟩ (.int .i64 (rl q 2))).setCell ⟨L.tg, n * 9 + 4, none⟩ (.int .i64 (rl q 3))).setCell ⟨L.tg, n * 9 + 5, none⟩ (.int .i64 (rl q 4))).setCell ⟨L.tg, n * 9 + 6, none⟩ (.int .i64 (rl q 5))).setCell ⟨L.tg, n * 9 + 7, none⟩ (.int .i64 (rl q 6))).setCell ⟨L.tg, n * 9 + 8, none⟩ (.int .i64 (rl q 7))).drew L (g.chg n q 0) ∧ YStep w L ((((((((((w1.alloc o).setCell ⟨L.tg, n * 9, none⟩ (.int .i64 q.length)).setCell ⟨L.tg, n * 9 + 1, none⟩ (.int .i64 (rl q 0))).setCell ⟨L.tg, n * 9 + 2, none⟩ (.int .i64 (rl q 1))).setCell ⟨L.tg, n * 9 + 3, none⟩ (.int .i64 (rl q 2))).setCell ⟨L.tg, n * 9 + 4, none⟩ (.int .i64 (rl q 3))).setCell ⟨L.tg, n * 9 + 5, none⟩ (.int .i64 (rl q 4))).setCell ⟨L.tg, n * 9 + 6, none⟩ (.int .i64 (rl q 5))).setCell ⟨L.tg, n * 9 + 7, none⟩ (.int .i64 (rl q 6))).setCell ⟨L.tg, n * 9 + 8, none⟩ (.int .i64 (rl q 7))).drew L := by
  have R := ((hg.below hb).alloc o).setT n h q
  refine ⟨R.1.drew, ⟨?_, fun _ h => .inl h, rfl⟩⟩
  have K0 : Kept L.fp w (w1.alloc o) := (Kept.of_below hb).trans (Kept.alloc L.fp w1 o) fun _ hk => .inl hk
  exact (K0.trans R.2 fun k hk => .inl (by simp at hk; subst hk; simp [YLoc.fp])).trans (Kept.drew L.fp _) fun _ hk => .inl hk

set_option maxHeartbeats 400000 in
theorem yDup {w : World} {L : YLoc} {g : Gr} (hg : YAt w L g) (f : g.Fit) (t : Int) (i : Int) :
    Calls Try.prog 26 #[.pointer (some ⟨L.b, 0, none⟩), .int .i64 t, .int .i64 i] w fun e w' => e = .returned (.int .i64 (g.dupE t i)) ∧ YAt w' L (g.dup t i) ∧ YStep w L w' L := by
  rcases hT : g.isT t with _ | _
  case false =>
    have e1 : g.dupE t i = 1 := by simp [Gr.dupE, hT]
    have e2 : g.dup t i = g := by simp [Gr.dup, e1]
    rw [e1, e2]
    clear e1 e2
    go_enter Try.func26, Try.ntmps26
    go_wp2_with (go_at_call 38; refine (yIs hg f t).mono ?_; rintro e w1 ⟨rfl, hw⟩; rw [hw, hT]; clear hw w1)
    go_ret
    exact ⟨rfl, hg, YStep.refl _ _⟩
  case true =>
    obtain ⟨n, rfl, h⟩ := isT_nat hT
    have c0 := hg.cell0
    have t64 := f.t64
    have h8 := f.rs8 n
    have er : g.rs n = g.ts.getD n [] := rfl
    obtain ⟨d0, d1, d2, d3, d4, d5, d6, d7, d8⟩ := hg.t9 n h
    have e1 : g.dupE n i = Rw.dupE (g.ts.getD n []) i := by simp [Gr.dupE, hT, er]
    have e2 : g.dup n i = g.chg n (Rw.dup (g.ts.getD n []) i) (Rw.dupE (g.ts.getD n []) i) := by unfold Gr.dup Gr.chg; rw [e1]; rfl
    rw [e1, e2]
    rw [er] at h8
    clear e1 e2 er
    generalize hr : g.ts.getD n [] = r at d0 d1 d2 d3 d4 d5 d6 d7 d8 h8 ⊢
    generalize hR : Rw.dup r i = R
    generalize hE : Rw.dupE r i = E
    by_cases h0 : E = 0
    case neg =>
      have h0' : (E == 0) = false := by simpa using h0
      have e3 : g.chg n R E = g := by simp [Gr.chg, h0]
      rw [e3]
      clear e3 h0
      go_enter Try.func26, Try.ntmps26
      go_wp2_with (first
        | (go_at_call 38; refine (yIs hg f n).mono ?_; rintro e w1 ⟨rfl, hw⟩; rw [hw, hT]; clear hw w1)
        | (go_at_call 47; refine (rDupR r i h8 _).mono ?_; rintro e w1 ⟨rfl, hb⟩; rw [hR, hE]))
      go_ret
      have R1 := bt hb (bal (Below.refl _ _) (.cells #[.int .i64 R.length, .int .i64 (rl R 0), .int .i64 (rl R 1), .int .i64 (rl R 2), .int .i64 (rl R 3), .int .i64 (rl R 4), .int .i64 (rl R 5), .int .i64 (rl R 6), .int .i64 (rl R 7)] 72))
      exact ⟨rfl, hg.below R1, YStep.of_below R1⟩
    case pos =>
      subst h0
      go_enter Try.func26, Try.ntmps26
      go_wp2_with (first
        | (go_at_call 38; refine (yIs hg f n).mono ?_; rintro e w1 ⟨rfl, hw⟩; rw [hw, hT]; clear hw w1)
        | (go_at_call 47; refine (rDupR r i h8 _).mono ?_; rintro e w1 ⟨rfl, hb⟩; rw [hR, hE]; have hgA := (hg.below hb).alloc (.cells #[.int .i64 R.length, .int .i64 (rl R 0), .int .i64 (rl R 1), .int .i64 (rl R 2), .int .i64 (rl R 3), .int .i64 (rl R 4), .int .i64 (rl R 5), .int .i64 (rl R 6), .int .i64 (rl R 7)] 72); have q0 := hgA.cell0; have hff := hgA.tfree; obtain ⟨p0, p1, p2, p3, p4, p5, p6, p7, p8⟩ := hgA.t9 n h; have RR := ychg_end hg hb n h R (.cells #[.int .i64 R.length, .int .i64 (rl R 0), .int .i64 (rl R 1), .int .i64 (rl R 2), .int .i64 (rl R 3), .int .i64 (rl R 4), .int .i64 (rl R 5), .int .i64 (rl R 6), .int .i64 (rl R 7)] 72); rw [hr] at p0 p1 p2 p3 p4 p5 p6 p7 p8; clear hgA))
      go_region
      go_wp2
      go_ret
      exact ⟨rfl, RR⟩

set_option maxHeartbeats 400000 in
theorem yDrop {w : World} {L : YLoc} {g : Gr} (hg : YAt w L g) (f : g.Fit) (t : Int)  :
    Calls Try.prog 28 #[.pointer (some ⟨L.b, 0, none⟩), .int .i64 t] w fun e w' => e = .returned (.int .i64 (g.dropE t)) ∧ YAt w' L (g.drop t) ∧ YStep w L w' L := by
  rcases hT : g.isT t with _ | _
  case false =>
    have e1 : g.dropE t = 1 := by simp [Gr.dropE, hT]
    have e2 : g.drop t = g := by simp [Gr.drop, e1]
    rw [e1, e2]
    clear e1 e2
    go_enter Try.func28, Try.ntmps28
    go_wp2_with (go_at_call 38; refine (yIs hg f t).mono ?_; rintro e w1 ⟨rfl, hw⟩; rw [hw, hT]; clear hw w1)
    go_ret
    exact ⟨rfl, hg, YStep.refl _ _⟩
  case true =>
    obtain ⟨n, rfl, h⟩ := isT_nat hT
    have c0 := hg.cell0
    have t64 := f.t64
    have h8 := f.rs8 n
    have er : g.rs n = g.ts.getD n [] := rfl
    obtain ⟨d0, d1, d2, d3, d4, d5, d6, d7, d8⟩ := hg.t9 n h
    have e1 : g.dropE n = Rw.dropE (g.ts.getD n []) := by simp [Gr.dropE, hT, er]
    have e2 : g.drop n = g.chg n (Rw.drop (g.ts.getD n [])) (Rw.dropE (g.ts.getD n [])) := by unfold Gr.drop Gr.chg; rw [e1]; rfl
    rw [e1, e2]
    rw [er] at h8
    clear e1 e2 er
    generalize hr : g.ts.getD n [] = r at d0 d1 d2 d3 d4 d5 d6 d7 d8 h8 ⊢
    generalize hR : Rw.drop r = R
    generalize hE : Rw.dropE r = E
    by_cases h0 : E = 0
    case neg =>
      have h0' : (E == 0) = false := by simpa using h0
      have e3 : g.chg n R E = g := by simp [Gr.chg, h0]
      rw [e3]
      clear e3 h0
      go_enter Try.func28, Try.ntmps28
      go_wp2_with (first
        | (go_at_call 38; refine (yIs hg f n).mono ?_; rintro e w1 ⟨rfl, hw⟩; rw [hw, hT]; clear hw w1)
        | (go_at_call 49; refine (rDropR r h8 _).mono ?_; rintro e w1 ⟨rfl, hb⟩; rw [hR, hE]))
      go_ret
      have R1 := bt hb (bal (Below.refl _ _) (.cells #[.int .i64 R.length, .int .i64 (rl R 0), .int .i64 (rl R 1), .int .i64 (rl R 2), .int .i64 (rl R 3), .int .i64 (rl R 4), .int .i64 (rl R 5), .int .i64 (rl R 6), .int .i64 (rl R 7)] 72))
      exact ⟨rfl, hg.below R1, YStep.of_below R1⟩
    case pos =>
      subst h0
      go_enter Try.func28, Try.ntmps28
      go_wp2_with (first
        | (go_at_call 38; refine (yIs hg f n).mono ?_; rintro e w1 ⟨rfl, hw⟩; rw [hw, hT]; clear hw w1)
        | (go_at_call 49; refine (rDropR r h8 _).mono ?_; rintro e w1 ⟨rfl, hb⟩; rw [hR, hE]; have hgA := (hg.below hb).alloc (.cells #[.int .i64 R.length, .int .i64 (rl R 0), .int .i64 (rl R 1), .int .i64 (rl R 2), .int .i64 (rl R 3), .int .i64 (rl R 4), .int .i64 (rl R 5), .int .i64 (rl R 6), .int .i64 (rl R 7)] 72); have q0 := hgA.cell0; have hff := hgA.tfree; obtain ⟨p0, p1, p2, p3, p4, p5, p6, p7, p8⟩ := hgA.t9 n h; have RR := ychg_end hg hb n h R (.cells #[.int .i64 R.length, .int .i64 (rl R 0), .int .i64 (rl R 1), .int .i64 (rl R 2), .int .i64 (rl R 3), .int .i64 (rl R 4), .int .i64 (rl R 5), .int .i64 (rl R 6), .int .i64 (rl R 7)] 72); rw [hr] at p0 p1 p2 p3 p4 p5 p6 p7 p8; clear hgA))
      go_region
      go_wp2
      go_ret
      exact ⟨rfl, RR⟩
end Go.Proofs.Ytbihdkdefopijaa
