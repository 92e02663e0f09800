/-
  Contracts of the reference: Alloc, where it is refused; make as one step of a region that draws.
-/
import Derived.Test.YtbihdkdefopijaaYc6
namespace Go.Proofs.Ytbihdkdefopijaa
set_option linter.unusedVariables false
set_option linter.unusedSimpArgs false
open Go.ChangeShapes Go.WideShapes Go.ChangeAt Go.RowKit

section
variable {P : Program}
/-- make, as one step of a region that draws -/
theorem step_make {ops : Array Oper} {o : Oper} {a : Act} {w : World} {K : Act → World → Prop} {Q : Exit → Act → World → Prop} {E : Prop} (d : Nat) (hd : o.dst = some d) (hgd : o.guard = none) (l c : Operand) (t : TypeId) (hop : o.op = Op.makeSlice t l c)
    (e : TypeId) (i : TypeInfo) (z : Value) (size : Nat) (h1 : P.underlying t = some (.slice e)) (h2 : P.info? e = some i) (h3 : i.zero = some z) (h4 : i.size = size)
    (kl kc : IntKind) (n : Nat) (hl : a.eval l = .int kl n) (hc : a.eval c = .int kc n) (b2 : i.bytes * n ≤ 281474976710656) (b3 : n ≤ maxLen)
    (h : ∀ w', w'.ownsRow 0 e size (.slice (some ⟨w.heap.size, 0, none⟩) n n) n (madeCells z.cells (n * size)).toList → w.grownBy w' none → K { a with tmps := a.tmps.setIfInBounds d (.slice (some ⟨w.heap.size, 0, none⟩) n n) } w') :
    if Region.wanted o (yielded ops a.tmps) = true then Oper.wp P o a w K Q else E := by
  have hw : Region.wanted o (yielded ops a.tmps) = true := by simp [Region.wanted, hgd]
  rw [if_pos hw]
  obtain ⟨w', hrun, r1, r2⟩ := run_make_full (P := P) w 0 t e i z size h1 h2 h3 h4 kl kc n b2 b3 (Nat.zero_le _)
  have hk := h w' r1 r2
  unfold Oper.wp
  simp [execOp, hop, hl, hc, hrun, Result.andThen]
  show K (a.put o.dst _) w'
  unfold Act.put
  rw [hd]
  exact hk
end

set_option maxRecDepth 100000 in
set_option maxHeartbeats 400000 in
theorem yAllocBad0 {w : World} {L : YLoc} {g : Gr} (hg : YAt w L g) (f : g.Fit) (t n : Int) (hT : g.isT t = false) :
    Calls Try.prog 14 #[.pointer (some ⟨L.b, 0, none⟩), .int .i64 t, .int .i64 n] w fun e w' => e = .returned (.int .i64 1) ∧ w' = w := by
  go_enter Try.func14, Try.ntmps14
  go_wp2_with (go_at_call 38; refine (yIs hg f t).mono ?_; rintro e w1 ⟨rfl, hw⟩; rw [hw, hT]; clear hw w1)
  go_ret
  exact ⟨rfl, rfl⟩
set_option maxRecDepth 100000 in
set_option maxHeartbeats 400000 in
theorem yAllocBad1 {w : World} {L : YLoc} {g : Gr} (hg : YAt w L g) (f : g.Fit) (t n : Int) (hT : g.isT t = true) (hn : n < 0 ∨ 7 < n) :
    Calls Try.prog 14 #[.pointer (some ⟨L.b, 0, none⟩), .int .i64 t, .int .i64 n] w fun e w' => e = .returned (.int .i64 10) ∧ w' = w := by
  rcases hn with hn | hn
  · have hd : decide (n < 0) = true := decide_eq_true hn
    go_enter Try.func14, Try.ntmps14
    go_wp2_with (go_at_call 38; refine (yIs hg f t).mono ?_; rintro e w1 ⟨rfl, hw⟩; rw [hw, hT]; clear hw w1)
    go_ret
    exact ⟨rfl, rfl⟩
  · have hd : decide (n < 0) = false := decide_eq_false (by omega)
    go_enter Try.func14, Try.ntmps14
    go_wp2_with (go_at_call 38; refine (yIs hg f t).mono ?_; rintro e w1 ⟨rfl, hw⟩; rw [hw, hT]; clear hw w1)
    go_ret
    exact ⟨rfl, rfl⟩
set_option maxRecDepth 100000 in
set_option maxHeartbeats 400000 in
theorem yAllocFull {w : World} {L : YLoc} {g : Gr} (hg : YAt w L g) (f : g.Fit) (t n : Nat) (h : t < g.ts.length) (hn : n ≤ 7) (r R : List Int) (hr : g.ts.getD t [] = r) (hR : Rw.push r ((g.os.length : Int) + 1) = R) (E : Int) (hE : Rw.pushE r = E) (hE0 : (E != 0) = true) :
    Calls Try.prog 14 #[.pointer (some ⟨L.b, 0, none⟩), .int .i64 t, .int .i64 n] w fun e w' => e = .returned (.int .i64 E) ∧ Below w.heap.size w w' := by
  have hT : g.isT t = true := by simp [Gr.isT, h]
  have h8 : r.length ≤ 8 := hr ▸ f.rs8 t
  have t64 := f.t64
  have ob := f.ob
  have n0 : (0 : Int) ≤ (n : Int) := by omega
  have n7 : (n : Int) ≤ 7 := by omega
  have hd : decide ((n : Int) < 0) = false := decide_eq_false (by omega)
  have hti : (t : Int) < (g.ts.length : Int) := by omega
  have e1 : IntKind.i64.wrap ((g.os.length : Int) + 1) = (g.os.length : Int) + 1 := wrap_small _ (by omega) (by omega)
  obtain ⟨ao, cp, hv, _⟩ := own_slice hg.row
  have held : ∀ {u : World}, Below w.heap.size w u → Below w.heap.size w u ∧ u.cell? ⟨L.b, 0, none⟩ = some (.slice (some ⟨L.tg, 0, none⟩) g.ts.length L.tc) ∧ u.cell? ⟨L.b, 1, none⟩ = some (.slice ao g.os.length cp) ∧ u.cell? ⟨L.tg, t * 9, none⟩ = some (.int .i64 r.length) ∧ u.cell? ⟨L.tg, t * 9 + 1, none⟩ = some (.int .i64 (rl r 0)) ∧ u.cell? ⟨L.tg, t * 9 + 2, none⟩ = some (.int .i64 (rl r 1)) ∧ u.cell? ⟨L.tg, t * 9 + 3, none⟩ = some (.int .i64 (rl r 2)) ∧ u.cell? ⟨L.tg, t * 9 + 4, none⟩ = some (.int .i64 (rl r 3)) ∧ u.cell? ⟨L.tg, t * 9 + 5, none⟩ = some (.int .i64 (rl r 4)) ∧ u.cell? ⟨L.tg, t * 9 + 6, none⟩ = some (.int .i64 (rl r 5)) ∧ u.cell? ⟨L.tg, t * 9 + 7, none⟩ = some (.int .i64 (rl r 6)) ∧ u.cell? ⟨L.tg, t * 9 + 8, none⟩ = some (.int .i64 (rl r 7)) := fun {u} hu => by
    have h1 := hg.below hu
    obtain ⟨p0, p1, p2, p3, p4, p5, p6, p7, p8⟩ := h1.t9 t h
    rw [hr] at p0 p1 p2 p3 p4 p5 p6 p7 p8
    have c1 := h1.cell1
    rw [hv] at c1
    exact ⟨hu, h1.cell0, c1, p0, p1, p2, p3, p4, p5, p6, p7, p8⟩
  go_enter Try.func14, Try.ntmps14
  go_wp2_with (go_at_call 38; refine (yIs hg f t).mono ?_; rintro e w1 ⟨rfl, hw⟩; rw [hw, hT]; clear hw w1)
  refine wp_region_held_drew (S := fun w' => Below w.heap.size w w' ∧ w'.cell? ⟨L.b, 0, none⟩ = some (.slice (some ⟨L.tg, 0, none⟩) g.ts.length L.tc) ∧ w'.cell? ⟨L.b, 1, none⟩ = some (.slice ao g.os.length cp) ∧ w'.cell? ⟨L.tg, t * 9, none⟩ = some (.int .i64 r.length) ∧ w'.cell? ⟨L.tg, t * 9 + 1, none⟩ = some (.int .i64 (rl r 0)) ∧ w'.cell? ⟨L.tg, t * 9 + 2, none⟩ = some (.int .i64 (rl r 1)) ∧ w'.cell? ⟨L.tg, t * 9 + 3, none⟩ = some (.int .i64 (rl r 2)) ∧ w'.cell? ⟨L.tg, t * 9 + 4, none⟩ = some (.int .i64 (rl r 3)) ∧ w'.cell? ⟨L.tg, t * 9 + 5, none⟩ = some (.int .i64 (rl r 4)) ∧ w'.cell? ⟨L.tg, t * 9 + 6, none⟩ = some (.int .i64 (rl r 5)) ∧ w'.cell? ⟨L.tg, t * 9 + 7, none⟩ = some (.int .i64 (rl r 6)) ∧ w'.cell? ⟨L.tg, t * 9 + 8, none⟩ = some (.int .i64 (rl r 7))) (by kernel_rfl) (held (Below.refl w.heap.size w).drew) (fun hHeld => ?_)
  refine takeH (i := 0) 22 (.pointer (some ⟨L.b, 0, none⟩)) rfl rfl (by kernel_rfl) (by kernel_rfl) (by kernel_rfl) (fun _ _ _ h => h) (by rfl) ?_ (by assumption) ?_
  · intro w hSw; (try dsimp only at hSw); go_simp
  simp only [List.setIfInBounds_toArray, List.set_cons_zero, List.set_cons_succ]
  refine takeH (i := 1) 23 (.pointer (some ⟨L.b, 0, none⟩)) rfl rfl (by kernel_rfl) (by kernel_rfl) (by kernel_rfl) (fun _ _ _ h => h) (by rfl) ?_ (by assumption) ?_
  · intro w hSw; (try dsimp only at hSw); go_simp
  simp only [List.setIfInBounds_toArray, List.set_cons_zero, List.set_cons_succ]
  refine takeH (i := 2) 24 (.pointer (some ⟨L.b, 0, none⟩)) rfl rfl (by kernel_rfl) (by kernel_rfl) (by kernel_rfl) (fun _ _ _ h => h) (by rfl) ?_ (by assumption) ?_
  · intro w hSw; (try dsimp only at hSw); go_simp
  simp only [List.setIfInBounds_toArray, List.set_cons_zero, List.set_cons_succ]
  refine takeH (i := 3) 25 (.slice (some ⟨L.tg, 0, none⟩) g.ts.length L.tc) rfl rfl (by kernel_rfl) (by kernel_rfl) (by kernel_rfl) (fun _ _ _ h => h) (by rfl) ?_ (by assumption) ?_
  · intro w hSw; (try dsimp only at hSw); go_simp
  simp only [List.setIfInBounds_toArray, List.set_cons_zero, List.set_cons_succ]
  refine takeH (i := 4) 26 (.int .i64 t) rfl rfl (by kernel_rfl) (by kernel_rfl) (by kernel_rfl) (fun _ _ _ h => h) (by rfl) ?_ (by assumption) ?_
  · intro w hSw; (try dsimp only at hSw); go_simp
  simp only [List.setIfInBounds_toArray, List.set_cons_zero, List.set_cons_succ]
  refine takeH (i := 5) 27 (.pointer (some ⟨L.tg, t * 9, none⟩)) rfl rfl (by kernel_rfl) (by kernel_rfl) (by kernel_rfl) (fun _ _ _ h => h) (by rfl) ?_ (by assumption) ?_
  · intro w hSw; (try dsimp only at hSw); go_simp
  simp only [List.setIfInBounds_toArray, List.set_cons_zero, List.set_cons_succ]
  refine takeH (i := 6) 28 (.agg #[.int .i64 r.length, .int .i64 (rl r 0), .int .i64 (rl r 1), .int .i64 (rl r 2), .int .i64 (rl r 3), .int .i64 (rl r 4), .int .i64 (rl r 5), .int .i64 (rl r 6), .int .i64 (rl r 7)]) rfl rfl (by kernel_rfl) (by kernel_rfl) (by kernel_rfl) (fun _ _ _ h => h) (by rfl) ?_ (by assumption) ?_
  · intro w hSw; (try dsimp only at hSw); go_simp
  simp only [List.setIfInBounds_toArray, List.set_cons_zero, List.set_cons_succ]
  refine takeH (i := 7) 29 (.pointer (some ⟨L.b, 0, none⟩)) rfl rfl (by kernel_rfl) (by kernel_rfl) (by kernel_rfl) (fun _ _ _ h => h) (by rfl) ?_ (by assumption) ?_
  · intro w hSw; (try dsimp only at hSw); go_simp
  simp only [List.setIfInBounds_toArray, List.set_cons_zero, List.set_cons_succ]
  refine takeH (i := 8) 30 (.pointer (some ⟨L.b, 0, none⟩)) rfl rfl (by kernel_rfl) (by kernel_rfl) (by kernel_rfl) (fun _ _ _ h => h) (by rfl) ?_ (by assumption) ?_
  · intro w hSw; (try dsimp only at hSw); go_simp
  simp only [List.setIfInBounds_toArray, List.set_cons_zero, List.set_cons_succ]
  refine takeH (i := 9) 31 (.pointer (some ⟨L.b, 1, none⟩)) rfl rfl (by kernel_rfl) (by kernel_rfl) (by kernel_rfl) (fun _ _ _ h => h) (by rfl) ?_ (by assumption) ?_
  · intro w hSw; (try dsimp only at hSw); go_simp
  simp only [List.setIfInBounds_toArray, List.set_cons_zero, List.set_cons_succ]
  refine takeH (i := 10) 32 (.slice ao g.os.length cp) rfl rfl (by kernel_rfl) (by kernel_rfl) (by kernel_rfl) (fun _ _ _ h => h) (by rfl) ?_ (by assumption) ?_
  · intro w hSw; (try dsimp only at hSw); go_simp
  simp only [List.setIfInBounds_toArray, List.set_cons_zero, List.set_cons_succ]
  refine takeH (i := 11) 33 (.int .i64 g.os.length) rfl rfl (by kernel_rfl) (by kernel_rfl) (by kernel_rfl) (fun _ _ _ h => h) (by rfl) ?_ (by assumption) ?_
  · intro w hSw; (try dsimp only at hSw); go_simp
  simp only [List.setIfInBounds_toArray, List.set_cons_zero, List.set_cons_succ]
  refine takeH (i := 12) 34 (.int .i64 ((g.os.length : Int) + 1)) rfl rfl (by kernel_rfl) (by kernel_rfl) (by kernel_rfl) (fun _ _ _ h => h) (by rfl) ?_ (by assumption) ?_
  · intro w hSw; (try dsimp only at hSw); go_simp
  simp only [List.setIfInBounds_toArray, List.set_cons_zero, List.set_cons_succ]
  refine wpAnyH_ready (rs := [13, 17]) (by kernel_rfl) (by simp) ?_
  refine AllReadyH.cons rfl (fun K hK => ?_) (AllReadyH.cons rfl (fun K hK => ?_) AllReadyH.nil)
  · go_simp
    refine (rPushR r ((g.os.length : Int) + 1) h8 _).mono ?_; rintro e w1 ⟨rfl, hb⟩; rw [hR, hE]
    refine hK.out _ _ (held (bt (Below.refl w.heap.size w).drew hb)) (fun hHeld => ?_)
    clear hK K
    try simp only [Act.put, List.setIfInBounds_toArray, List.set_cons_zero, List.set_cons_succ]
    refine takeH (i := 14) 21 (.tuple #[.agg #[.int .i64 R.length, .int .i64 (rl R 0), .int .i64 (rl R 1), .int .i64 (rl R 2), .int .i64 (rl R 3), .int .i64 (rl R 4), .int .i64 (rl R 5), .int .i64 (rl R 6), .int .i64 (rl R 7)], .int .i64 E]) rfl rfl (by kernel_rfl) (by kernel_rfl) (by kernel_rfl) (fun _ _ _ h => h) (by rfl) ?_ (by assumption) ?_
    · intro w hSw; (try dsimp only at hSw); go_simp
    simp only [List.setIfInBounds_toArray, List.set_cons_zero, List.set_cons_succ]
    refine takeH (i := 15) 36 (.agg #[.int .i64 R.length, .int .i64 (rl R 0), .int .i64 (rl R 1), .int .i64 (rl R 2), .int .i64 (rl R 3), .int .i64 (rl R 4), .int .i64 (rl R 5), .int .i64 (rl R 6), .int .i64 (rl R 7)]) rfl rfl (by kernel_rfl) (by kernel_rfl) (by kernel_rfl) (fun _ _ _ h => h) (by rfl) ?_ (by assumption) ?_
    · intro w hSw; (try dsimp only at hSw); go_simp
    simp only [List.setIfInBounds_toArray, List.set_cons_zero, List.set_cons_succ]
    refine takeH (i := 16) 37 (.int .i64 E) rfl rfl (by kernel_rfl) (by kernel_rfl) (by kernel_rfl) (fun _ _ _ h => h) (by rfl) ?_ (by assumption) ?_
    · intro w hSw; (try dsimp only at hSw); go_simp
    simp only [List.setIfInBounds_toArray, List.set_cons_zero, List.set_cons_succ]
    refine wpAnyH_ready (rs := [17]) (by kernel_rfl) (by simp) ?_
    refine AllReadyH.cons rfl (fun K hK => ?_) AllReadyH.nil
    go_simp
    refine hK.out _ _ (held (bal (bt (Below.refl w.heap.size w).drew hb) _)) (fun hHeld => ?_)
    clear hK K
    try simp only [Act.put, List.setIfInBounds_toArray, List.set_cons_zero, List.set_cons_succ]
    refine wpAnyH_ready (rs := [18]) (by kernel_rfl) (by simp) ?_
    refine AllReadyH.cons rfl (fun K hK => ?_) AllReadyH.nil
    go_simp
    refine hK.out _ _ (held (bal (bt (Below.refl w.heap.size w).drew hb) _)) (fun hHeld => ?_)
    clear hK K
    try simp only [Act.put, List.setIfInBounds_toArray, List.set_cons_zero, List.set_cons_succ]
    refine takeH (i := 19) 9 (.int .i64 E) rfl rfl (by kernel_rfl) (by kernel_rfl) (by kernel_rfl) (fun _ _ _ h => h) (by rfl) ?_ (by assumption) ?_
    · intro w hSw; (try dsimp only at hSw); go_simp
    simp only [List.setIfInBounds_toArray, List.set_cons_zero, List.set_cons_succ]
    refine wpAnyH_done (by kernel_rfl) ?_ _
    go_wp2
    go_ret
    exact ⟨rfl, hHeld.1⟩
  · go_simp
    refine hK.out _ _ (held (bal (Below.refl w.heap.size w).drew _)) (fun hHeld => ?_)
    clear hK K
    try simp only [Act.put, List.setIfInBounds_toArray, List.set_cons_zero, List.set_cons_succ]
    refine wpAnyH_ready (rs := [13]) (by kernel_rfl) (by simp) ?_
    refine AllReadyH.cons rfl (fun K hK => ?_) AllReadyH.nil
    go_simp
    refine (rPushR r ((g.os.length : Int) + 1) h8 _).mono ?_; rintro e w1 ⟨rfl, hb⟩; rw [hR, hE]; have hA1 : RAt w1 w.heap.size 0 Plain.nil := (hb.block w.heap.size (by simp [World.drew])).trans (RAt.new w.drew 0 Plain.nil); obtain ⟨x0, x1, x2, x3, x4, x5, x6, x7, x8⟩ := hA1.cells; have hfx := hA1.free
    refine hK.out _ _ (held (bt (bal (Below.refl w.heap.size w).drew _) hb)) (fun hHeld => ?_)
    clear hK K
    try simp only [Act.put, List.setIfInBounds_toArray, List.set_cons_zero, List.set_cons_succ]
    refine takeH (i := 14) 21 (.tuple #[.agg #[.int .i64 R.length, .int .i64 (rl R 0), .int .i64 (rl R 1), .int .i64 (rl R 2), .int .i64 (rl R 3), .int .i64 (rl R 4), .int .i64 (rl R 5), .int .i64 (rl R 6), .int .i64 (rl R 7)], .int .i64 E]) rfl rfl (by kernel_rfl) (by kernel_rfl) (by kernel_rfl) (fun _ _ _ h => h) (by rfl) ?_ (by assumption) ?_
    · intro w hSw; (try dsimp only at hSw); go_simp
    simp only [List.setIfInBounds_toArray, List.set_cons_zero, List.set_cons_succ]
    refine takeH (i := 15) 36 (.agg #[.int .i64 R.length, .int .i64 (rl R 0), .int .i64 (rl R 1), .int .i64 (rl R 2), .int .i64 (rl R 3), .int .i64 (rl R 4), .int .i64 (rl R 5), .int .i64 (rl R 6), .int .i64 (rl R 7)]) rfl rfl (by kernel_rfl) (by kernel_rfl) (by kernel_rfl) (fun _ _ _ h => h) (by rfl) ?_ (by assumption) ?_
    · intro w hSw; (try dsimp only at hSw); go_simp
    simp only [List.setIfInBounds_toArray, List.set_cons_zero, List.set_cons_succ]
    refine takeH (i := 16) 37 (.int .i64 E) rfl rfl (by kernel_rfl) (by kernel_rfl) (by kernel_rfl) (fun _ _ _ h => h) (by rfl) ?_ (by assumption) ?_
    · intro w hSw; (try dsimp only at hSw); go_simp
    simp only [List.setIfInBounds_toArray, List.set_cons_zero, List.set_cons_succ]
    refine wpAnyH_ready (rs := [18]) (by kernel_rfl) (by simp) ?_
    refine AllReadyH.cons rfl (fun K hK => ?_) AllReadyH.nil
    go_simp
    refine hK.out _ _ (held (b9 (Nat.le_refl _) (bt (bal (Below.refl w.heap.size w).drew _) hb))) (fun hHeld => ?_)
    clear hK K
    try simp only [Act.put, List.setIfInBounds_toArray, List.set_cons_zero, List.set_cons_succ]
    refine takeH (i := 19) 9 (.int .i64 E) rfl rfl (by kernel_rfl) (by kernel_rfl) (by kernel_rfl) (fun _ _ _ h => h) (by rfl) ?_ (by assumption) ?_
    · intro w hSw; (try dsimp only at hSw); go_simp
    simp only [List.setIfInBounds_toArray, List.set_cons_zero, List.set_cons_succ]
    refine wpAnyH_done (by kernel_rfl) ?_ _
    go_wp2
    go_ret
    exact ⟨rfl, hHeld.1⟩

end Go.Proofs.Ytbihdkdefopijaa
