/-
  Contracts of the reference: Alloc.
-/
import Derived.Test.YtbihdkdefopijaaYc7
namespace Go.Proofs.Ytbihdkdefopijaa
set_option linter.unusedVariables false
set_option linter.unusedSimpArgs false
open Go.ChangeShapes Go.WideShapes Go.ChangeAt Go.RowKit

theorem RAt.over {u : World} {g : Nat} {n : Int} {l : Nat → Int} (h : RAt u g n l) (R : List Int) : RAt (((((((((u.setCell ⟨g, 0, none⟩ (.int .i64 R.length)).setCell ⟨g, 1, none⟩ (.int .i64 (rl R 0))).setCell ⟨g, 2, none⟩ (.int .i64 (rl R 1))).setCell ⟨g, 3, none⟩ (.int .i64 (rl R 2))).setCell ⟨g, 4, none⟩ (.int .i64 (rl R 3))).setCell ⟨g, 5, none⟩ (.int .i64 (rl R 4))).setCell ⟨g, 6, none⟩ (.int .i64 (rl R 5))).setCell ⟨g, 7, none⟩ (.int .i64 (rl R 6))).setCell ⟨g, 8, none⟩ (.int .i64 (rl R 7))) g R.length (rl R) := by
  have s := (((((((((h.setN R.length).set 0 (by decide) (rl R 0)).set 1 (by decide) (rl R 1)).set 2 (by decide) (rl R 2)).set 3 (by decide) (rl R 3)).set 4 (by decide) (rl R 4)).set 5 (by decide) (rl R 5)).set 6 (by decide) (rl R 6)).set 7 (by decide) (rl R 7))
  refine RAt.same s fun j hj => ?_
  match j, hj with
  | 0, _ => rfl
  | 1, _ => rfl
  | 2, _ => rfl
  | 3, _ => rfl
  | 4, _ => rfl
  | 5, _ => rfl
  | 6, _ => rfl
  | 7, _ => rfl
theorem yalloc_end {w2 w3 w4 : World} {L : YLoc} {g2 : Gr} {n lg lc : Nat} {o : Obj} (hg : YAt w2 L g2)
    (hm : w3.ownsRow 0 37 2 (.slice (some ⟨w2.heap.size, 0, none⟩) n n) n (vcells (List.replicate n (0, 0)))) (hgm : w2.grownBy w3 none)
    (ho : w4.ownsRow 0 60 1 (.slice (some ⟨lg, 0, none⟩) (g2.os.length + 1) lc) (g2.os.length + 1) (L.vs ++ [(.slice (some ⟨w2.heap.size, 0, none⟩) n n)]))
    (hgr : (w3.alloc o).grownBy w4 L.vl.ownBlock) (hn : L.vl.ownBlock = some lg ∨ (w3.alloc o).heap.size ≤ lg) :
    YAt (w4.setCell ⟨L.b, 1, none⟩ (.slice (some ⟨lg, 0, none⟩) (g2.os.length + 1) lc)) ⟨L.b, L.tg, L.tc, (.slice (some ⟨lg, 0, none⟩) (g2.os.length + 1) lc), L.vs ++ [(.slice (some ⟨w2.heap.size, 0, none⟩) n n)]⟩ ⟨g2.ts, g2.os ++ [List.replicate n (0, 0)]⟩ ∧
    YStep w2 L (w4.setCell ⟨L.b, 1, none⟩ (.slice (some ⟨lg, 0, none⟩) (g2.os.length + 1) lc)) ⟨L.b, L.tg, L.tc, (.slice (some ⟨lg, 0, none⟩) (g2.os.length + 1) lc), L.vs ++ [(.slice (some ⟨w2.heap.size, 0, none⟩) n n)]⟩ ∧
    w4.heap[L.b]? = some (.cells #[.slice (some ⟨L.tg, 0, none⟩) g2.ts.length L.tc, L.vl] 67 (0, 0)) := by
  obtain ⟨cur, hmb⟩ := own_blk hm w2.heap.size rfl
  have hm2 := lt_of_block hmb
  have hs3 : (w3.alloc o).heap.size = w3.heap.size + 1 := by simp
  have K0 : Kept [] w2 (w3.alloc o) := (Kept.grown [] hgm fun k hk => by cases hk).trans (Kept.alloc [] w3 o) fun _ hk => .inl hk
  have K1 : Kept L.vl.ownBlock.toList w2 w4 := (K0.mono fun _ hk => by simp at hk).trans (Kept.grown L.vl.ownBlock.toList hgr fun k hk => by simp [hk]) fun _ hk => .inl hk
  have lb : L.vl.ownBlock ≠ some L.b := fun e => by
    obtain ⟨cur, hc⟩ := hg.lblk _ e
    have hb := hg.blk
    rw [hc] at hb
    simp at hb
  have hb : w4.heap[L.b]? = some (.cells #[.slice (some ⟨L.tg, 0, none⟩) g2.ts.length L.tc, L.vl] 67 (0, 0)) := (K1.block _ (lt_of_block hg.blk) (by simp; exact lb)).trans hg.blk
  have K2 : Kept (L.b :: L.vl.ownBlock.toList) w2 (w4.setCell ⟨L.b, 1, none⟩ (.slice (some ⟨lg, 0, none⟩) (g2.os.length + 1) lc)) := (K1.mono fun _ hk => by simp at hk ⊢; exact .inr hk).trans (Kept.setCell _ w4 ⟨L.b, 1, none⟩ _ (by simp)) fun _ hk => .inl hk
  have hlb := lt_of_block hg.blk
  have hgb : lg ≠ L.b := by
    rintro rfl
    rcases hn with hn | hn
    · exact lb hn
    · omega
  refine ⟨⟨?_, ?_, ?_, ?_, ?_, ?_, fun h => by simp at h⟩, ⟨K2.mono fun k hk => ?_, ?_, rfl⟩, hb⟩
  · rw [heap_setCell_same w4 _ 1 _ _ _ hb]; rfl
  · refine own_kept hg.thr K2 fun j hj e => ?_
    simp [Value.ownBlock] at hj e
    subst hj
    rcases e with e | e
    · exact hg.bt e.symm
    · exact hg.lt_ne e
  · simp [hg.len]
  · simpa using ownsRow_setCell_other ho (a := ⟨L.b, 1, none⟩) (by simp [Value.ownBlock]; exact hgb) (.slice (some ⟨lg, 0, none⟩) (g2.os.length + 1) lc)
  · intro i x hi
    by_cases hlt : i < g2.os.length
    · rw [List.getElem?_append_left hlt] at hi
      obtain ⟨u, e1, e2⟩ := hg.obj i x hi
      refine ⟨u, by rw [List.getElem?_append_left (by rw [hg.len]; exact hlt)]; exact e1, own_kept e2 K2 fun j hj e => ?_⟩
      obtain ⟨c1, hc1⟩ := own_blk e2 j hj
      simp at e
      rcases e with rfl | e
      · have := hg.blk
        rw [hc1] at this
        simp at this
      · obtain ⟨c2, hc2⟩ := hg.lblk _ e
        rw [hc1] at hc2
        simp at hc2
    · rw [List.getElem?_append_right (by omega)] at hi
      have h0 : i - g2.os.length = 0 := by
        have := (List.getElem?_eq_some_iff.1 hi).1
        simp at this
        omega
      rw [h0] at hi
      simp at hi
      subst hi
      refine ⟨(.slice (some ⟨w2.heap.size, 0, none⟩) n n), by rw [List.getElem?_append_right (by rw [hg.len]; omega), hg.len, h0]; rfl, ?_⟩
      have r1 := (hm.alloc o).kept hgr (by
        by_cases hv : L.vl.ownBlock = some w2.heap.size
        · obtain ⟨_, hc⟩ := hg.lblk _ hv
          have := lt_of_block hc
          omega
        · exact .inr (by simp only [Value.ownBlock]; exact fun e => hv e.symm))
      have r2 := ownsRow_setCell_other r1 (a := ⟨L.b, 1, none⟩) (by simp [Value.ownBlock]; omega) (.slice (some ⟨lg, 0, none⟩) (g2.os.length + 1) lc)
      simpa using r2
  · intro i j u v k hi hj hu hv
    have hl := hg.len
    have old : ∀ (i : Nat) (u : Value), i < L.vs.length → (L.vs ++ [(.slice (some ⟨w2.heap.size, 0, none⟩) n n)])[i]? = some u → L.vs[i]? = some u ∧ (u.ownBlock = some k → k < w2.heap.size) := fun i u hlt hi => by
      rw [List.getElem?_append_left hlt] at hi
      exact ⟨hi, fun hk => by obtain ⟨_, hc⟩ := hg.vblk i u hi k hk; exact lt_of_block hc⟩
    have new : ∀ (i : Nat) (u : Value), ¬ i < L.vs.length → (L.vs ++ [(.slice (some ⟨w2.heap.size, 0, none⟩) n n)])[i]? = some u → i = L.vs.length ∧ (u.ownBlock = some k → k = w2.heap.size) := fun i u hlt hi => by
      rw [List.getElem?_append_right (by omega)] at hi
      have h0 : i - L.vs.length = 0 := by
        have := (List.getElem?_eq_some_iff.1 hi).1
        simp at this
        omega
      rw [h0] at hi
      simp at hi
      subst hi
      exact ⟨by omega, fun hk => by simp [Value.ownBlock] at hk; exact hk.symm⟩
    by_cases h1 : i < L.vs.length
    · have o1 := old i u h1 hi
      by_cases h2 : j < L.vs.length
      · have o2 := old j v h2 hj
        exact hg.apart i j u v k o1.1 o2.1 hu hv
      · have := (new j v h2 hj).2 hv
        have := o1.2 hu
        omega
    · have n1 := new i u h1 hi
      by_cases h2 : j < L.vs.length
      · have := (old j v h2 hj).2 hv
        have := n1.2 hu
        omega
      · have := (new j v h2 hj).1
        have := n1.1
        omega
  · simp at hk
    simp only [YLoc.fp, List.mem_cons, List.mem_append, Option.mem_toList]
    rcases hk with rfl | hk
    · exact .inl rfl
    · exact .inr (.inr (.inl hk))
  · intro k hk
    simp only [YLoc.fp, Value.ownBlock, Option.toList_some, List.mem_cons, List.mem_append, List.not_mem_nil, or_false, List.mem_filterMap, Option.mem_toList] at hk ⊢
    rcases hk with rfl | rfl | rfl | ⟨u, hu | rfl, hk⟩
    · exact .inl (.inl rfl)
    · exact .inl (.inr (.inl rfl))
    · rcases hn with hn | hn
      · exact .inl (.inr (.inr (.inl hn)))
      · exact .inr (by omega)
    · exact .inl (.inr (.inr (.inr ⟨u, hu, hk⟩)))
    · simp at hk
      exact .inr (by omega)

set_option maxRecDepth 100000 in
set_option maxHeartbeats 400000 in
theorem yAllocGood {w : World} {L : YLoc} {g : Gr} (hg : YAt w L g) (f : g.Fit) (t n : Nat) (h : t < g.ts.length) (hn : n ≤ 7) (r R : List Int) (hr : g.ts.getD t [] = r) (hR : Rw.push r ((g.os.length : Int) + 1) = R) (hE : Rw.pushE r = 0) :
    Calls Try.prog 14 #[.pointer (some ⟨L.b, 0, none⟩), .int .i64 t, .int .i64 n] w fun e w' => e = .returned (.int .i64 0) ∧ ∃ L', YAt w' L' ⟨g.ts.set t R, g.os ++ [List.replicate n (0, 0)]⟩ ∧ YStep w L w' L' := by
  have hT : g.isT t = true := by simp [Gr.isT, h]
  have h8 : r.length ≤ 8 := hr ▸ f.rs8 t
  have t64 := f.t64
  have ob := f.ob
  have n0 : (0 : Int) ≤ (n : Int) := by omega
  have n7 : (n : Int) ≤ 7 := by omega
  have hd : decide ((n : Int) < 0) = false := decide_eq_false (by omega)
  have hti : (t : Int) < (g.ts.length : Int) := by omega
  have e1 : IntKind.i64.wrap ((g.os.length : Int) + 1) = (g.os.length : Int) + 1 := wrap_small _ (by omega) (by omega)
  obtain ⟨ao, cp, hv, _⟩ := own_slice hg.row
  have held : ∀ {u : World}, Below w.heap.size w u → Below w.heap.size w u ∧ u.cell? ⟨L.b, 0, none⟩ = some (.slice (some ⟨L.tg, 0, none⟩) g.ts.length L.tc) ∧ u.cell? ⟨L.b, 1, none⟩ = some (.slice ao g.os.length cp) ∧ u.cell? ⟨L.tg, t * 9, none⟩ = some (.int .i64 r.length) ∧ u.cell? ⟨L.tg, t * 9 + 1, none⟩ = some (.int .i64 (rl r 0)) ∧ u.cell? ⟨L.tg, t * 9 + 2, none⟩ = some (.int .i64 (rl r 1)) ∧ u.cell? ⟨L.tg, t * 9 + 3, none⟩ = some (.int .i64 (rl r 2)) ∧ u.cell? ⟨L.tg, t * 9 + 4, none⟩ = some (.int .i64 (rl r 3)) ∧ u.cell? ⟨L.tg, t * 9 + 5, none⟩ = some (.int .i64 (rl r 4)) ∧ u.cell? ⟨L.tg, t * 9 + 6, none⟩ = some (.int .i64 (rl r 5)) ∧ u.cell? ⟨L.tg, t * 9 + 7, none⟩ = some (.int .i64 (rl r 6)) ∧ u.cell? ⟨L.tg, t * 9 + 8, none⟩ = some (.int .i64 (rl r 7)) := fun {u} hu => by
    have h1 := hg.below hu
    obtain ⟨p0, p1, p2, p3, p4, p5, p6, p7, p8⟩ := h1.t9 t h
    rw [hr] at p0 p1 p2 p3 p4 p5 p6 p7 p8
    have c1 := h1.cell1
    rw [hv] at c1
    exact ⟨hu, h1.cell0, c1, p0, p1, p2, p3, p4, p5, p6, p7, p8⟩
  obtain ⟨i0, hi, hz0, hz1, hz2⟩ := info_parts infoVal
  obtain ⟨iv, hi', hz0', hz1', hz2'⟩ := info_parts infoVs
  go_enter Try.func14, Try.ntmps14
  go_wp2_with (go_at_call 38; refine (yIs hg f t).mono ?_; rintro e w1 ⟨rfl, hw⟩; rw [hw, hT]; clear hw w1)
  refine wp_region_held_drew (S := fun w' => Below w.heap.size w w' ∧ w'.cell? ⟨L.b, 0, none⟩ = some (.slice (some ⟨L.tg, 0, none⟩) g.ts.length L.tc) ∧ w'.cell? ⟨L.b, 1, none⟩ = some (.slice ao g.os.length cp) ∧ w'.cell? ⟨L.tg, t * 9, none⟩ = some (.int .i64 r.length) ∧ w'.cell? ⟨L.tg, t * 9 + 1, none⟩ = some (.int .i64 (rl r 0)) ∧ w'.cell? ⟨L.tg, t * 9 + 2, none⟩ = some (.int .i64 (rl r 1)) ∧ w'.cell? ⟨L.tg, t * 9 + 3, none⟩ = some (.int .i64 (rl r 2)) ∧ w'.cell? ⟨L.tg, t * 9 + 4, none⟩ = some (.int .i64 (rl r 3)) ∧ w'.cell? ⟨L.tg, t * 9 + 5, none⟩ = some (.int .i64 (rl r 4)) ∧ w'.cell? ⟨L.tg, t * 9 + 6, none⟩ = some (.int .i64 (rl r 5)) ∧ w'.cell? ⟨L.tg, t * 9 + 7, none⟩ = some (.int .i64 (rl r 6)) ∧ w'.cell? ⟨L.tg, t * 9 + 8, none⟩ = some (.int .i64 (rl r 7))) (by kernel_rfl) (held (Below.refl w.heap.size w).drew) (fun hHeld => ?_)
  refine takeH (i := 0) 22 (.pointer (some ⟨L.b, 0, none⟩)) rfl rfl (by kernel_rfl) (by kernel_rfl) (by kernel_rfl) (fun _ _ _ h => h) (by rfl) ?_ (by assumption) ?_
  · intro w hSw; (try dsimp only at hSw); go_simp
  simp only [List.setIfInBounds_toArray, List.set_cons_zero, List.set_cons_succ]
  refine takeH (i := 1) 23 (.pointer (some ⟨L.b, 0, none⟩)) rfl rfl (by kernel_rfl) (by kernel_rfl) (by kernel_rfl) (fun _ _ _ h => h) (by rfl) ?_ (by assumption) ?_
  · intro w hSw; (try dsimp only at hSw); go_simp
  simp only [List.setIfInBounds_toArray, List.set_cons_zero, List.set_cons_succ]
  refine takeH (i := 2) 24 (.pointer (some ⟨L.b, 0, none⟩)) rfl rfl (by kernel_rfl) (by kernel_rfl) (by kernel_rfl) (fun _ _ _ h => h) (by rfl) ?_ (by assumption) ?_
  · intro w hSw; (try dsimp only at hSw); go_simp
  simp only [List.setIfInBounds_toArray, List.set_cons_zero, List.set_cons_succ]
  refine takeH (i := 3) 25 (.slice (some ⟨L.tg, 0, none⟩) g.ts.length L.tc) rfl rfl (by kernel_rfl) (by kernel_rfl) (by kernel_rfl) (fun _ _ _ h => h) (by rfl) ?_ (by assumption) ?_
  · intro w hSw; (try dsimp only at hSw); go_simp
  simp only [List.setIfInBounds_toArray, List.set_cons_zero, List.set_cons_succ]
  refine takeH (i := 4) 26 (.int .i64 t) rfl rfl (by kernel_rfl) (by kernel_rfl) (by kernel_rfl) (fun _ _ _ h => h) (by rfl) ?_ (by assumption) ?_
  · intro w hSw; (try dsimp only at hSw); go_simp
  simp only [List.setIfInBounds_toArray, List.set_cons_zero, List.set_cons_succ]
  refine takeH (i := 5) 27 (.pointer (some ⟨L.tg, t * 9, none⟩)) rfl rfl (by kernel_rfl) (by kernel_rfl) (by kernel_rfl) (fun _ _ _ h => h) (by rfl) ?_ (by assumption) ?_
  · intro w hSw; (try dsimp only at hSw); go_simp
  simp only [List.setIfInBounds_toArray, List.set_cons_zero, List.set_cons_succ]
  refine takeH (i := 6) 28 (.agg #[.int .i64 r.length, .int .i64 (rl r 0), .int .i64 (rl r 1), .int .i64 (rl r 2), .int .i64 (rl r 3), .int .i64 (rl r 4), .int .i64 (rl r 5), .int .i64 (rl r 6), .int .i64 (rl r 7)]) rfl rfl (by kernel_rfl) (by kernel_rfl) (by kernel_rfl) (fun _ _ _ h => h) (by rfl) ?_ (by assumption) ?_
  · intro w hSw; (try dsimp only at hSw); go_simp
  simp only [List.setIfInBounds_toArray, List.set_cons_zero, List.set_cons_succ]
  refine takeH (i := 7) 29 (.pointer (some ⟨L.b, 0, none⟩)) rfl rfl (by kernel_rfl) (by kernel_rfl) (by kernel_rfl) (fun _ _ _ h => h) (by rfl) ?_ (by assumption) ?_
  · intro w hSw; (try dsimp only at hSw); go_simp
  simp only [List.setIfInBounds_toArray, List.set_cons_zero, List.set_cons_succ]
  refine takeH (i := 8) 30 (.pointer (some ⟨L.b, 0, none⟩)) rfl rfl (by kernel_rfl) (by kernel_rfl) (by kernel_rfl) (fun _ _ _ h => h) (by rfl) ?_ (by assumption) ?_
  · intro w hSw; (try dsimp only at hSw); go_simp
  simp only [List.setIfInBounds_toArray, List.set_cons_zero, List.set_cons_succ]
  refine takeH (i := 9) 31 (.pointer (some ⟨L.b, 1, none⟩)) rfl rfl (by kernel_rfl) (by kernel_rfl) (by kernel_rfl) (fun _ _ _ h => h) (by rfl) ?_ (by assumption) ?_
  · intro w hSw; (try dsimp only at hSw); go_simp
  simp only [List.setIfInBounds_toArray, List.set_cons_zero, List.set_cons_succ]
  refine takeH (i := 10) 32 (.slice ao g.os.length cp) rfl rfl (by kernel_rfl) (by kernel_rfl) (by kernel_rfl) (fun _ _ _ h => h) (by rfl) ?_ (by assumption) ?_
  · intro w hSw; (try dsimp only at hSw); go_simp
  simp only [List.setIfInBounds_toArray, List.set_cons_zero, List.set_cons_succ]
  refine takeH (i := 11) 33 (.int .i64 g.os.length) rfl rfl (by kernel_rfl) (by kernel_rfl) (by kernel_rfl) (fun _ _ _ h => h) (by rfl) ?_ (by assumption) ?_
  · intro w hSw; (try dsimp only at hSw); go_simp
  simp only [List.setIfInBounds_toArray, List.set_cons_zero, List.set_cons_succ]
  refine takeH (i := 12) 34 (.int .i64 ((g.os.length : Int) + 1)) rfl rfl (by kernel_rfl) (by kernel_rfl) (by kernel_rfl) (fun _ _ _ h => h) (by rfl) ?_ (by assumption) ?_
  · intro w hSw; (try dsimp only at hSw); go_simp
  simp only [List.setIfInBounds_toArray, List.set_cons_zero, List.set_cons_succ]
  refine wpAnyH_ready (rs := [13, 17]) (by kernel_rfl) (by simp) ?_
  refine AllReadyH.cons rfl (fun K hK => ?_) (AllReadyH.cons rfl (fun K hK => ?_) AllReadyH.nil)
  · go_simp
    refine (rPushR r ((g.os.length : Int) + 1) h8 _).mono ?_; rintro e w1 ⟨rfl, hb⟩; rw [hR, hE]
    refine hK.out _ _ (held (bt (Below.refl w.heap.size w).drew hb)) (fun hHeld => ?_)
    clear hK K
    try simp only [Act.put, List.setIfInBounds_toArray, List.set_cons_zero, List.set_cons_succ]
    refine takeH (i := 14) 21 (.tuple #[.agg #[.int .i64 R.length, .int .i64 (rl R 0), .int .i64 (rl R 1), .int .i64 (rl R 2), .int .i64 (rl R 3), .int .i64 (rl R 4), .int .i64 (rl R 5), .int .i64 (rl R 6), .int .i64 (rl R 7)], .int .i64 0]) rfl rfl (by kernel_rfl) (by kernel_rfl) (by kernel_rfl) (fun _ _ _ h => h) (by rfl) ?_ (by assumption) ?_
    · intro w hSw; (try dsimp only at hSw); go_simp
    simp only [List.setIfInBounds_toArray, List.set_cons_zero, List.set_cons_succ]
    refine takeH (i := 15) 36 (.agg #[.int .i64 R.length, .int .i64 (rl R 0), .int .i64 (rl R 1), .int .i64 (rl R 2), .int .i64 (rl R 3), .int .i64 (rl R 4), .int .i64 (rl R 5), .int .i64 (rl R 6), .int .i64 (rl R 7)]) rfl rfl (by kernel_rfl) (by kernel_rfl) (by kernel_rfl) (fun _ _ _ h => h) (by rfl) ?_ (by assumption) ?_
    · intro w hSw; (try dsimp only at hSw); go_simp
    simp only [List.setIfInBounds_toArray, List.set_cons_zero, List.set_cons_succ]
    refine takeH (i := 16) 37 (.int .i64 0) rfl rfl (by kernel_rfl) (by kernel_rfl) (by kernel_rfl) (fun _ _ _ h => h) (by rfl) ?_ (by assumption) ?_
    · intro w hSw; (try dsimp only at hSw); go_simp
    simp only [List.setIfInBounds_toArray, List.set_cons_zero, List.set_cons_succ]
    refine wpAnyH_ready (rs := [17]) (by kernel_rfl) (by simp) ?_
    refine AllReadyH.cons rfl (fun K hK => ?_) AllReadyH.nil
    go_simp
    refine hK.out _ _ (held (bal (bt (Below.refl w.heap.size w).drew hb) _)) (fun hHeld => ?_)
    clear hK K
    try simp only [Act.put, List.setIfInBounds_toArray, List.set_cons_zero, List.set_cons_succ]
    refine wpAnyH_ready (rs := [18]) (by kernel_rfl) (by simp) ?_
    refine AllReadyH.cons rfl (fun K hK => ?_) AllReadyH.nil
    go_simp
    refine hK.out _ _ (held (bal (bt (Below.refl w.heap.size w).drew hb) _)) (fun hHeld => ?_)
    clear hK K
    try simp only [Act.put, List.setIfInBounds_toArray, List.set_cons_zero, List.set_cons_succ]
    refine takeH (i := 19) 9 (.int .i64 0) rfl rfl (by kernel_rfl) (by kernel_rfl) (by kernel_rfl) (fun _ _ _ h => h) (by rfl) ?_ (by assumption) ?_
    · intro w hSw; (try dsimp only at hSw); go_simp
    simp only [List.setIfInBounds_toArray, List.set_cons_zero, List.set_cons_succ]
    refine wpAnyH_done (by kernel_rfl) ?_ _
    obtain ⟨W, hW⟩ : ∃ W : World, W = (w1.alloc (.cells #[.int .i64 R.length, .int .i64 (rl R 0), .int .i64 (rl R 1), .int .i64 (rl R 2), .int .i64 (rl R 3), .int .i64 (rl R 4), .int .i64 (rl R 5), .int .i64 (rl R 6), .int .i64 (rl R 7)] 72)) := ⟨_, rfl⟩
    have hA : RAt W w1.heap.size R.length (rl R) := by rw [hW]; exact RAt.new _ _ _
    have hbW : Below w.heap.size w W := by rw [hW]; exact bal (bt (Below.refl w.heap.size w).drew hb) _
    rw [← hW]
    clear hW hHeld
    obtain ⟨x0, x1, x2, x3, x4, x5, x6, x7, x8⟩ := hA.cells
    have hgW := hg.below hbW
    have q0 := hgW.cell0
    have hff := hgW.tfree
    obtain ⟨p0, p1, p2, p3, p4, p5, p6, p7, p8⟩ := hgW.t9 t h
    rw [hr] at p0 p1 p2 p3 p4 p5 p6 p7 p8
    have RT := hgW.setT t h R
    have KT : Kept L.fp w (((((((((W.setCell ⟨L.tg, t * 9, none⟩ (.int .i64 R.length)).setCell ⟨L.tg, t * 9 + 1, none⟩ (.int .i64 (rl R 0))).setCell ⟨L.tg, t * 9 + 2, none⟩ (.int .i64 (rl R 1))).setCell ⟨L.tg, t * 9 + 3, none⟩ (.int .i64 (rl R 2))).setCell ⟨L.tg, t * 9 + 4, none⟩ (.int .i64 (rl R 3))).setCell ⟨L.tg, t * 9 + 5, none⟩ (.int .i64 (rl R 4))).setCell ⟨L.tg, t * 9 + 6, none⟩ (.int .i64 (rl R 5))).setCell ⟨L.tg, t * 9 + 7, none⟩ (.int .i64 (rl R 6))).setCell ⟨L.tg, t * 9 + 8, none⟩ (.int .i64 (rl R 7))).drew := ((Kept.of_below hbW).trans RT.2 fun k hk => .inl (by simp at hk; subst hk; simp [YLoc.fp])).trans (Kept.drew L.fp _) fun _ hk => .inl hk
    clear hA
    go_wp2
    go_region
    obtain ⟨w2, hW2⟩ : ∃ w2 : World, w2 = (((((((((W.setCell ⟨L.tg, t * 9, none⟩ (.int .i64 R.length)).setCell ⟨L.tg, t * 9 + 1, none⟩ (.int .i64 (rl R 0))).setCell ⟨L.tg, t * 9 + 2, none⟩ (.int .i64 (rl R 1))).setCell ⟨L.tg, t * 9 + 3, none⟩ (.int .i64 (rl R 2))).setCell ⟨L.tg, t * 9 + 4, none⟩ (.int .i64 (rl R 3))).setCell ⟨L.tg, t * 9 + 5, none⟩ (.int .i64 (rl R 4))).setCell ⟨L.tg, t * 9 + 6, none⟩ (.int .i64 (rl R 5))).setCell ⟨L.tg, t * 9 + 7, none⟩ (.int .i64 (rl R 6))).setCell ⟨L.tg, t * 9 + 8, none⟩ (.int .i64 (rl R 7))).drew.drew := ⟨_, rfl⟩
    have hg2 : YAt w2 L (g.setR t R) := by rw [hW2]; exact RT.1.drew.drew
    have S2 : YStep w L w2 L := ⟨by rw [hW2]; exact KT.trans (Kept.drew L.fp _) fun _ hk => .inl hk, fun _ h => .inl h, rfl⟩
    go_wp2
    refine wp_region_held_drew (S := fun w' => True) (by kernel_rfl) trivial (fun hHeld => ?_)
    rw [← hW2]
    clear hW2 RT KT q0 hff hgW hbW p0 p1 p2 p3 p4 p5 p6 p7 p8 x0 x1 x2 x3 x4 x5 x6 x7 x8
    have c1 := hg2.cell1
    rw [hv] at c1
    refine takeH (i := 0) 48 (.pointer (some ⟨L.b, 0, none⟩)) rfl rfl (by kernel_rfl) (by kernel_rfl) (by kernel_rfl) (fun _ _ _ h => h) (by rfl) ?_ (by assumption) ?_
    · intro w hSw; (try dsimp only at hSw); go_simp
    simp only [List.setIfInBounds_toArray, List.set_cons_zero, List.set_cons_succ]
    refine takeH (i := 1) 49 (.pointer (some ⟨L.b, 0, none⟩)) rfl rfl (by kernel_rfl) (by kernel_rfl) (by kernel_rfl) (fun _ _ _ h => h) (by rfl) ?_ (by assumption) ?_
    · intro w hSw; (try dsimp only at hSw); go_simp
    simp only [List.setIfInBounds_toArray, List.set_cons_zero, List.set_cons_succ]
    refine takeH (i := 2) 50 (.pointer (some ⟨L.b, 0, none⟩)) rfl rfl (by kernel_rfl) (by kernel_rfl) (by kernel_rfl) (fun _ _ _ h => h) (by rfl) ?_ (by assumption) ?_
    · intro w hSw; (try dsimp only at hSw); go_simp
    simp only [List.setIfInBounds_toArray, List.set_cons_zero, List.set_cons_succ]
    refine takeH (i := 3) 51 (.pointer (some ⟨L.b, 1, none⟩)) rfl rfl (by kernel_rfl) (by kernel_rfl) (by kernel_rfl) (fun _ _ _ h => h) (by rfl) ?_ (by assumption) ?_
    · intro w hSw; (try dsimp only at hSw); go_simp
    simp only [List.setIfInBounds_toArray, List.set_cons_zero, List.set_cons_succ]
    refine takeH (i := 5) 53 (.int .i64 n) rfl rfl (by kernel_rfl) (by kernel_rfl) (by kernel_rfl) (fun _ _ _ h => h) (by rfl) ?_ (by assumption) ?_
    · intro w hSw; (try dsimp only at hSw); go_simp
    simp only [List.setIfInBounds_toArray, List.set_cons_zero, List.set_cons_succ]
    refine wpAnyH_ready (rs := [4, 6]) (by kernel_rfl) (by simp) ?_
    refine AllReadyH.cons rfl (fun K hK => ?_) (AllReadyH.cons rfl (fun K hK => ?_) AllReadyH.nil)
    · go_simp
      refine hK.out _ _ trivial (fun hHeld => ?_)
      clear hK K
      try simp only [Act.put, List.setIfInBounds_toArray, List.set_cons_zero, List.set_cons_succ]
      refine wpAnyH_ready (rs := [6]) (by kernel_rfl) (by simp) ?_
      refine AllReadyH.cons rfl (fun K hK => ?_) AllReadyH.nil
      refine step_make 54 rfl rfl _ _ 60 rfl 37 i0 _ 2 Try.underlying60 hi hz0 hz1 .i64 .i64 n rfl rfl (by rw [hz2]; omega) (by unfold maxLen; omega) ?_
      intro w3 hm hgm
      have hrow3 := ((own_kept hg2.row (Kept.grown [] hgm fun k hk => by cases hk) fun _ _ => by simp).alloc (.cells #[.slice (some ⟨w2.heap.size, 0, none⟩) n n] 60))
      rw [vcells_new] at hm
      have hc3 : w3.cell? ⟨L.b, 1, none⟩ = some (.slice ao g.os.length cp) := (World.cell?_of_block (hgm.block _ (lt_of_block hg2.blk) (by simp))).trans c1
      have hc4 : (w3.alloc (.cells #[.slice (some ⟨w2.heap.size, 0, none⟩) n n] 60)).cell? ⟨L.b, 1, none⟩ = some (.slice ao g.os.length cp) := (World.cell?_of_block (Below.heap_alloc _ _ _ (Nat.lt_of_lt_of_le (lt_of_block hg2.blk) hgm.size))).trans hc3
      refine hK.out _ _ trivial (fun hHeld => ?_)
      clear hK K
      try simp only [Act.put, List.setIfInBounds_toArray, List.set_cons_zero, List.set_cons_succ]
      refine wpAnyH_ready (rs := [7]) (by kernel_rfl) (by simp) ?_
      refine AllReadyH.cons rfl (fun K hK => ?_) AllReadyH.nil
      go_simp
      refine hK.out _ _ trivial (fun hHeld => ?_)
      clear hK K
      try simp only [Act.put, List.setIfInBounds_toArray, List.set_cons_zero, List.set_cons_succ]
      refine wpAnyH_ready (rs := [8]) (by kernel_rfl) (by simp) ?_
      refine AllReadyH.cons rfl (fun K hK => ?_) AllReadyH.nil
      refine step_append_mine 56 rfl rfl _ _ 48 rfl 60 iv _ 1 24 Try.underlying48 hi' hz0' hz1' hz2' rfl (by decide) (.slice ao g.os.length cp) g.os.length L.vs rfl (by rw [← hv]; exact hrow3) ⟨w3.heap.size, 0, none⟩ 1 1 [.slice (some ⟨w2.heap.size, 0, none⟩) n n] rfl rfl (new1 _ _ rfl _ _) (by intro u hu; simp at hu; rw [hu]; rfl) (by unfold maxLen; omega) (by omega) (by decide) ?_
      intro lg lc w4 ho hgr hnew
      have RE := yalloc_end hg2 hm hgm ho (by rw [hv]; exact hgr) (by rw [hv]; exact hnew)
      have c4 : w4.cell? ⟨L.b, 1, none⟩ = some L.vl := by rw [cell_of_row w4 _ _ _ _ _ RE.2.2]; rfl
      have f4 : w4.frozen? ⟨L.b, 1, none⟩ = false := frozen_of_row w4 _ _ _ _ RE.2.2
      refine hK.out _ _ trivial (fun hHeld => ?_)
      clear hK K
      try simp only [Act.put, List.setIfInBounds_toArray, List.set_cons_zero, List.set_cons_succ]
      refine takeH (i := 9) 57 (.pointer (some ⟨L.b, 0, none⟩)) rfl rfl (by kernel_rfl) (by kernel_rfl) (by kernel_rfl) (fun _ _ _ h => h) (by rfl) ?_ (by assumption) ?_
      · intro w hSw; (try dsimp only at hSw); go_simp
      simp only [List.setIfInBounds_toArray, List.set_cons_zero, List.set_cons_succ]
      refine takeH (i := 10) 58 (.pointer (some ⟨L.b, 1, none⟩)) rfl rfl (by kernel_rfl) (by kernel_rfl) (by kernel_rfl) (fun _ _ _ h => h) (by rfl) ?_ (by assumption) ?_
      · intro w hSw; (try dsimp only at hSw); go_simp
      simp only [List.setIfInBounds_toArray, List.set_cons_zero, List.set_cons_succ]
      refine wpAnyH_ready (rs := [11]) (by kernel_rfl) (by simp) ?_
      refine AllReadyH.cons rfl (fun K hK => ?_) AllReadyH.nil
      go_simp
      refine hK.out _ _ trivial (fun hHeld => ?_)
      clear hK K
      try simp only [Act.put, List.setIfInBounds_toArray, List.set_cons_zero, List.set_cons_succ]
      refine wpAnyH_done (by kernel_rfl) ?_ _
      go_wp2
      go_ret
      exact ⟨rfl, _, RE.1, S2.trans RE.2.1⟩
    · refine step_make 54 rfl rfl _ _ 60 rfl 37 i0 _ 2 Try.underlying60 hi hz0 hz1 .i64 .i64 n rfl rfl (by rw [hz2]; omega) (by unfold maxLen; omega) ?_
      intro w3 hm hgm
      have hrow3 := ((own_kept hg2.row (Kept.grown [] hgm fun k hk => by cases hk) fun _ _ => by simp).alloc (.cells #[.slice (some ⟨w2.heap.size, 0, none⟩) n n] 60))
      rw [vcells_new] at hm
      have hc3 : w3.cell? ⟨L.b, 1, none⟩ = some (.slice ao g.os.length cp) := (World.cell?_of_block (hgm.block _ (lt_of_block hg2.blk) (by simp))).trans c1
      have hc4 : (w3.alloc (.cells #[.slice (some ⟨w2.heap.size, 0, none⟩) n n] 60)).cell? ⟨L.b, 1, none⟩ = some (.slice ao g.os.length cp) := (World.cell?_of_block (Below.heap_alloc _ _ _ (Nat.lt_of_lt_of_le (lt_of_block hg2.blk) hgm.size))).trans hc3
      refine hK.out _ _ trivial (fun hHeld => ?_)
      clear hK K
      try simp only [Act.put, List.setIfInBounds_toArray, List.set_cons_zero, List.set_cons_succ]
      refine wpAnyH_ready (rs := [4, 7]) (by kernel_rfl) (by simp) ?_
      refine AllReadyH.cons rfl (fun K hK => ?_) (AllReadyH.cons rfl (fun K hK => ?_) AllReadyH.nil)
      · go_simp
        refine hK.out _ _ trivial (fun hHeld => ?_)
        clear hK K
        try simp only [Act.put, List.setIfInBounds_toArray, List.set_cons_zero, List.set_cons_succ]
        refine wpAnyH_ready (rs := [7]) (by kernel_rfl) (by simp) ?_
        refine AllReadyH.cons rfl (fun K hK => ?_) AllReadyH.nil
        go_simp
        refine hK.out _ _ trivial (fun hHeld => ?_)
        clear hK K
        try simp only [Act.put, List.setIfInBounds_toArray, List.set_cons_zero, List.set_cons_succ]
        refine wpAnyH_ready (rs := [8]) (by kernel_rfl) (by simp) ?_
        refine AllReadyH.cons rfl (fun K hK => ?_) AllReadyH.nil
        refine step_append_mine 56 rfl rfl _ _ 48 rfl 60 iv _ 1 24 Try.underlying48 hi' hz0' hz1' hz2' rfl (by decide) (.slice ao g.os.length cp) g.os.length L.vs rfl (by rw [← hv]; exact hrow3) ⟨w3.heap.size, 0, none⟩ 1 1 [.slice (some ⟨w2.heap.size, 0, none⟩) n n] rfl rfl (new1 _ _ rfl _ _) (by intro u hu; simp at hu; rw [hu]; rfl) (by unfold maxLen; omega) (by omega) (by decide) ?_
        intro lg lc w4 ho hgr hnew
        have RE := yalloc_end hg2 hm hgm ho (by rw [hv]; exact hgr) (by rw [hv]; exact hnew)
        have c4 : w4.cell? ⟨L.b, 1, none⟩ = some L.vl := by rw [cell_of_row w4 _ _ _ _ _ RE.2.2]; rfl
        have f4 : w4.frozen? ⟨L.b, 1, none⟩ = false := frozen_of_row w4 _ _ _ _ RE.2.2
        refine hK.out _ _ trivial (fun hHeld => ?_)
        clear hK K
        try simp only [Act.put, List.setIfInBounds_toArray, List.set_cons_zero, List.set_cons_succ]
        refine takeH (i := 9) 57 (.pointer (some ⟨L.b, 0, none⟩)) rfl rfl (by kernel_rfl) (by kernel_rfl) (by kernel_rfl) (fun _ _ _ h => h) (by rfl) ?_ (by assumption) ?_
        · intro w hSw; (try dsimp only at hSw); go_simp
        simp only [List.setIfInBounds_toArray, List.set_cons_zero, List.set_cons_succ]
        refine takeH (i := 10) 58 (.pointer (some ⟨L.b, 1, none⟩)) rfl rfl (by kernel_rfl) (by kernel_rfl) (by kernel_rfl) (fun _ _ _ h => h) (by rfl) ?_ (by assumption) ?_
        · intro w hSw; (try dsimp only at hSw); go_simp
        simp only [List.setIfInBounds_toArray, List.set_cons_zero, List.set_cons_succ]
        refine wpAnyH_ready (rs := [11]) (by kernel_rfl) (by simp) ?_
        refine AllReadyH.cons rfl (fun K hK => ?_) AllReadyH.nil
        go_simp
        refine hK.out _ _ trivial (fun hHeld => ?_)
        clear hK K
        try simp only [Act.put, List.setIfInBounds_toArray, List.set_cons_zero, List.set_cons_succ]
        refine wpAnyH_done (by kernel_rfl) ?_ _
        go_wp2
        go_ret
        exact ⟨rfl, _, RE.1, S2.trans RE.2.1⟩
      · go_simp
        refine hK.out _ _ trivial (fun hHeld => ?_)
        clear hK K
        try simp only [Act.put, List.setIfInBounds_toArray, List.set_cons_zero, List.set_cons_succ]
        refine wpAnyH_ready (rs := [4]) (by kernel_rfl) (by simp) ?_
        refine AllReadyH.cons rfl (fun K hK => ?_) AllReadyH.nil
        go_simp
        refine hK.out _ _ trivial (fun hHeld => ?_)
        clear hK K
        try simp only [Act.put, List.setIfInBounds_toArray, List.set_cons_zero, List.set_cons_succ]
        refine wpAnyH_ready (rs := [8]) (by kernel_rfl) (by simp) ?_
        refine AllReadyH.cons rfl (fun K hK => ?_) AllReadyH.nil
        refine step_append_mine 56 rfl rfl _ _ 48 rfl 60 iv _ 1 24 Try.underlying48 hi' hz0' hz1' hz2' rfl (by decide) (.slice ao g.os.length cp) g.os.length L.vs rfl (by rw [← hv]; exact hrow3) ⟨w3.heap.size, 0, none⟩ 1 1 [.slice (some ⟨w2.heap.size, 0, none⟩) n n] rfl rfl (new1 _ _ rfl _ _) (by intro u hu; simp at hu; rw [hu]; rfl) (by unfold maxLen; omega) (by omega) (by decide) ?_
        intro lg lc w4 ho hgr hnew
        have RE := yalloc_end hg2 hm hgm ho (by rw [hv]; exact hgr) (by rw [hv]; exact hnew)
        have c4 : w4.cell? ⟨L.b, 1, none⟩ = some L.vl := by rw [cell_of_row w4 _ _ _ _ _ RE.2.2]; rfl
        have f4 : w4.frozen? ⟨L.b, 1, none⟩ = false := frozen_of_row w4 _ _ _ _ RE.2.2
        refine hK.out _ _ trivial (fun hHeld => ?_)
        clear hK K
        try simp only [Act.put, List.setIfInBounds_toArray, List.set_cons_zero, List.set_cons_succ]
        refine takeH (i := 9) 57 (.pointer (some ⟨L.b, 0, none⟩)) rfl rfl (by kernel_rfl) (by kernel_rfl) (by kernel_rfl) (fun _ _ _ h => h) (by rfl) ?_ (by assumption) ?_
        · intro w hSw; (try dsimp only at hSw); go_simp
        simp only [List.setIfInBounds_toArray, List.set_cons_zero, List.set_cons_succ]
        refine takeH (i := 10) 58 (.pointer (some ⟨L.b, 1, none⟩)) rfl rfl (by kernel_rfl) (by kernel_rfl) (by kernel_rfl) (fun _ _ _ h => h) (by rfl) ?_ (by assumption) ?_
        · intro w hSw; (try dsimp only at hSw); go_simp
        simp only [List.setIfInBounds_toArray, List.set_cons_zero, List.set_cons_succ]
        refine wpAnyH_ready (rs := [11]) (by kernel_rfl) (by simp) ?_
        refine AllReadyH.cons rfl (fun K hK => ?_) AllReadyH.nil
        go_simp
        refine hK.out _ _ trivial (fun hHeld => ?_)
        clear hK K
        try simp only [Act.put, List.setIfInBounds_toArray, List.set_cons_zero, List.set_cons_succ]
        refine wpAnyH_done (by kernel_rfl) ?_ _
        go_wp2
        go_ret
        exact ⟨rfl, _, RE.1, S2.trans RE.2.1⟩
  · go_simp
    refine hK.out _ _ (held (bal (Below.refl w.heap.size w).drew _)) (fun hHeld => ?_)
    clear hK K
    try simp only [Act.put, List.setIfInBounds_toArray, List.set_cons_zero, List.set_cons_succ]
    refine wpAnyH_ready (rs := [13]) (by kernel_rfl) (by simp) ?_
    refine AllReadyH.cons rfl (fun K hK => ?_) AllReadyH.nil
    go_simp
    refine (rPushR r ((g.os.length : Int) + 1) h8 _).mono ?_; rintro e w1 ⟨rfl, hb⟩; rw [hR, hE]; have hA1 : RAt w1 w.heap.size 0 Plain.nil := (hb.block w.heap.size (by simp [World.drew])).trans (RAt.new w.drew 0 Plain.nil); obtain ⟨x0, x1, x2, x3, x4, x5, x6, x7, x8⟩ := hA1.cells; have hfx := hA1.free
    refine hK.out _ _ (held (bt (bal (Below.refl w.heap.size w).drew _) hb)) (fun hHeld => ?_)
    clear hK K
    try simp only [Act.put, List.setIfInBounds_toArray, List.set_cons_zero, List.set_cons_succ]
    refine takeH (i := 14) 21 (.tuple #[.agg #[.int .i64 R.length, .int .i64 (rl R 0), .int .i64 (rl R 1), .int .i64 (rl R 2), .int .i64 (rl R 3), .int .i64 (rl R 4), .int .i64 (rl R 5), .int .i64 (rl R 6), .int .i64 (rl R 7)], .int .i64 0]) rfl rfl (by kernel_rfl) (by kernel_rfl) (by kernel_rfl) (fun _ _ _ h => h) (by rfl) ?_ (by assumption) ?_
    · intro w hSw; (try dsimp only at hSw); go_simp
    simp only [List.setIfInBounds_toArray, List.set_cons_zero, List.set_cons_succ]
    refine takeH (i := 15) 36 (.agg #[.int .i64 R.length, .int .i64 (rl R 0), .int .i64 (rl R 1), .int .i64 (rl R 2), .int .i64 (rl R 3), .int .i64 (rl R 4), .int .i64 (rl R 5), .int .i64 (rl R 6), .int .i64 (rl R 7)]) rfl rfl (by kernel_rfl) (by kernel_rfl) (by kernel_rfl) (fun _ _ _ h => h) (by rfl) ?_ (by assumption) ?_
    · intro w hSw; (try dsimp only at hSw); go_simp
    simp only [List.setIfInBounds_toArray, List.set_cons_zero, List.set_cons_succ]
    refine takeH (i := 16) 37 (.int .i64 0) rfl rfl (by kernel_rfl) (by kernel_rfl) (by kernel_rfl) (fun _ _ _ h => h) (by rfl) ?_ (by assumption) ?_
    · intro w hSw; (try dsimp only at hSw); go_simp
    simp only [List.setIfInBounds_toArray, List.set_cons_zero, List.set_cons_succ]
    refine wpAnyH_ready (rs := [18]) (by kernel_rfl) (by simp) ?_
    refine AllReadyH.cons rfl (fun K hK => ?_) AllReadyH.nil
    go_simp
    refine hK.out _ _ (held (b9 (Nat.le_refl _) (bt (bal (Below.refl w.heap.size w).drew _) hb))) (fun hHeld => ?_)
    clear hK K
    try simp only [Act.put, List.setIfInBounds_toArray, List.set_cons_zero, List.set_cons_succ]
    refine takeH (i := 19) 9 (.int .i64 0) rfl rfl (by kernel_rfl) (by kernel_rfl) (by kernel_rfl) (fun _ _ _ h => h) (by rfl) ?_ (by assumption) ?_
    · intro w hSw; (try dsimp only at hSw); go_simp
    simp only [List.setIfInBounds_toArray, List.set_cons_zero, List.set_cons_succ]
    refine wpAnyH_done (by kernel_rfl) ?_ _
    obtain ⟨W, hW⟩ : ∃ W : World, W = (((((((((w1.setCell ⟨w.heap.size, 0, none⟩ (.int .i64 R.length)).setCell ⟨w.heap.size, 1, none⟩ (.int .i64 (rl R 0))).setCell ⟨w.heap.size, 2, none⟩ (.int .i64 (rl R 1))).setCell ⟨w.heap.size, 3, none⟩ (.int .i64 (rl R 2))).setCell ⟨w.heap.size, 4, none⟩ (.int .i64 (rl R 3))).setCell ⟨w.heap.size, 5, none⟩ (.int .i64 (rl R 4))).setCell ⟨w.heap.size, 6, none⟩ (.int .i64 (rl R 5))).setCell ⟨w.heap.size, 7, none⟩ (.int .i64 (rl R 6))).setCell ⟨w.heap.size, 8, none⟩ (.int .i64 (rl R 7))) := ⟨_, rfl⟩
    have hA : RAt W w.heap.size R.length (rl R) := by rw [hW]; exact hA1.over R
    have hbW : Below w.heap.size w W := by rw [hW]; exact b9 (Nat.le_refl _) (bt (bal (Below.refl w.heap.size w).drew _) hb)
    rw [← hW]
    clear hW hHeld
    obtain ⟨x0, x1, x2, x3, x4, x5, x6, x7, x8⟩ := hA.cells
    have hgW := hg.below hbW
    have q0 := hgW.cell0
    have hff := hgW.tfree
    obtain ⟨p0, p1, p2, p3, p4, p5, p6, p7, p8⟩ := hgW.t9 t h
    rw [hr] at p0 p1 p2 p3 p4 p5 p6 p7 p8
    have RT := hgW.setT t h R
    have KT : Kept L.fp w (((((((((W.setCell ⟨L.tg, t * 9, none⟩ (.int .i64 R.length)).setCell ⟨L.tg, t * 9 + 1, none⟩ (.int .i64 (rl R 0))).setCell ⟨L.tg, t * 9 + 2, none⟩ (.int .i64 (rl R 1))).setCell ⟨L.tg, t * 9 + 3, none⟩ (.int .i64 (rl R 2))).setCell ⟨L.tg, t * 9 + 4, none⟩ (.int .i64 (rl R 3))).setCell ⟨L.tg, t * 9 + 5, none⟩ (.int .i64 (rl R 4))).setCell ⟨L.tg, t * 9 + 6, none⟩ (.int .i64 (rl R 5))).setCell ⟨L.tg, t * 9 + 7, none⟩ (.int .i64 (rl R 6))).setCell ⟨L.tg, t * 9 + 8, none⟩ (.int .i64 (rl R 7))).drew := ((Kept.of_below hbW).trans RT.2 fun k hk => .inl (by simp at hk; subst hk; simp [YLoc.fp])).trans (Kept.drew L.fp _) fun _ hk => .inl hk
    clear hA
    go_wp2
    go_region
    obtain ⟨w2, hW2⟩ : ∃ w2 : World, w2 = (((((((((W.setCell ⟨L.tg, t * 9, none⟩ (.int .i64 R.length)).setCell ⟨L.tg, t * 9 + 1, none⟩ (.int .i64 (rl R 0))).setCell ⟨L.tg, t * 9 + 2, none⟩ (.int .i64 (rl R 1))).setCell ⟨L.tg, t * 9 + 3, none⟩ (.int .i64 (rl R 2))).setCell ⟨L.tg, t * 9 + 4, none⟩ (.int .i64 (rl R 3))).setCell ⟨L.tg, t * 9 + 5, none⟩ (.int .i64 (rl R 4))).setCell ⟨L.tg, t * 9 + 6, none⟩ (.int .i64 (rl R 5))).setCell ⟨L.tg, t * 9 + 7, none⟩ (.int .i64 (rl R 6))).setCell ⟨L.tg, t * 9 + 8, none⟩ (.int .i64 (rl R 7))).drew.drew := ⟨_, rfl⟩
    have hg2 : YAt w2 L (g.setR t R) := by rw [hW2]; exact RT.1.drew.drew
    have S2 : YStep w L w2 L := ⟨by rw [hW2]; exact KT.trans (Kept.drew L.fp _) fun _ hk => .inl hk, fun _ h => .inl h, rfl⟩
    go_wp2
    refine wp_region_held_drew (S := fun w' => True) (by kernel_rfl) trivial (fun hHeld => ?_)
    rw [← hW2]
    clear hW2 RT KT q0 hff hgW hbW p0 p1 p2 p3 p4 p5 p6 p7 p8 x0 x1 x2 x3 x4 x5 x6 x7 x8
    have c1 := hg2.cell1
    rw [hv] at c1
    refine takeH (i := 0) 48 (.pointer (some ⟨L.b, 0, none⟩)) rfl rfl (by kernel_rfl) (by kernel_rfl) (by kernel_rfl) (fun _ _ _ h => h) (by rfl) ?_ (by assumption) ?_
    · intro w hSw; (try dsimp only at hSw); go_simp
    simp only [List.setIfInBounds_toArray, List.set_cons_zero, List.set_cons_succ]
    refine takeH (i := 1) 49 (.pointer (some ⟨L.b, 0, none⟩)) rfl rfl (by kernel_rfl) (by kernel_rfl) (by kernel_rfl) (fun _ _ _ h => h) (by rfl) ?_ (by assumption) ?_
    · intro w hSw; (try dsimp only at hSw); go_simp
    simp only [List.setIfInBounds_toArray, List.set_cons_zero, List.set_cons_succ]
    refine takeH (i := 2) 50 (.pointer (some ⟨L.b, 0, none⟩)) rfl rfl (by kernel_rfl) (by kernel_rfl) (by kernel_rfl) (fun _ _ _ h => h) (by rfl) ?_ (by assumption) ?_
    · intro w hSw; (try dsimp only at hSw); go_simp
    simp only [List.setIfInBounds_toArray, List.set_cons_zero, List.set_cons_succ]
    refine takeH (i := 3) 51 (.pointer (some ⟨L.b, 1, none⟩)) rfl rfl (by kernel_rfl) (by kernel_rfl) (by kernel_rfl) (fun _ _ _ h => h) (by rfl) ?_ (by assumption) ?_
    · intro w hSw; (try dsimp only at hSw); go_simp
    simp only [List.setIfInBounds_toArray, List.set_cons_zero, List.set_cons_succ]
    refine takeH (i := 5) 53 (.int .i64 n) rfl rfl (by kernel_rfl) (by kernel_rfl) (by kernel_rfl) (fun _ _ _ h => h) (by rfl) ?_ (by assumption) ?_
    · intro w hSw; (try dsimp only at hSw); go_simp
    simp only [List.setIfInBounds_toArray, List.set_cons_zero, List.set_cons_succ]
    refine wpAnyH_ready (rs := [4, 6]) (by kernel_rfl) (by simp) ?_
    refine AllReadyH.cons rfl (fun K hK => ?_) (AllReadyH.cons rfl (fun K hK => ?_) AllReadyH.nil)
    · go_simp
      refine hK.out _ _ trivial (fun hHeld => ?_)
      clear hK K
      try simp only [Act.put, List.setIfInBounds_toArray, List.set_cons_zero, List.set_cons_succ]
      refine wpAnyH_ready (rs := [6]) (by kernel_rfl) (by simp) ?_
      refine AllReadyH.cons rfl (fun K hK => ?_) AllReadyH.nil
      refine step_make 54 rfl rfl _ _ 60 rfl 37 i0 _ 2 Try.underlying60 hi hz0 hz1 .i64 .i64 n rfl rfl (by rw [hz2]; omega) (by unfold maxLen; omega) ?_
      intro w3 hm hgm
      have hrow3 := ((own_kept hg2.row (Kept.grown [] hgm fun k hk => by cases hk) fun _ _ => by simp).alloc (.cells #[.slice (some ⟨w2.heap.size, 0, none⟩) n n] 60))
      rw [vcells_new] at hm
      have hc3 : w3.cell? ⟨L.b, 1, none⟩ = some (.slice ao g.os.length cp) := (World.cell?_of_block (hgm.block _ (lt_of_block hg2.blk) (by simp))).trans c1
      have hc4 : (w3.alloc (.cells #[.slice (some ⟨w2.heap.size, 0, none⟩) n n] 60)).cell? ⟨L.b, 1, none⟩ = some (.slice ao g.os.length cp) := (World.cell?_of_block (Below.heap_alloc _ _ _ (Nat.lt_of_lt_of_le (lt_of_block hg2.blk) hgm.size))).trans hc3
      refine hK.out _ _ trivial (fun hHeld => ?_)
      clear hK K
      try simp only [Act.put, List.setIfInBounds_toArray, List.set_cons_zero, List.set_cons_succ]
      refine wpAnyH_ready (rs := [7]) (by kernel_rfl) (by simp) ?_
      refine AllReadyH.cons rfl (fun K hK => ?_) AllReadyH.nil
      go_simp
      refine hK.out _ _ trivial (fun hHeld => ?_)
      clear hK K
      try simp only [Act.put, List.setIfInBounds_toArray, List.set_cons_zero, List.set_cons_succ]
      refine wpAnyH_ready (rs := [8]) (by kernel_rfl) (by simp) ?_
      refine AllReadyH.cons rfl (fun K hK => ?_) AllReadyH.nil
      refine step_append_mine 56 rfl rfl _ _ 48 rfl 60 iv _ 1 24 Try.underlying48 hi' hz0' hz1' hz2' rfl (by decide) (.slice ao g.os.length cp) g.os.length L.vs rfl (by rw [← hv]; exact hrow3) ⟨w3.heap.size, 0, none⟩ 1 1 [.slice (some ⟨w2.heap.size, 0, none⟩) n n] rfl rfl (new1 _ _ rfl _ _) (by intro u hu; simp at hu; rw [hu]; rfl) (by unfold maxLen; omega) (by omega) (by decide) ?_
      intro lg lc w4 ho hgr hnew
      have RE := yalloc_end hg2 hm hgm ho (by rw [hv]; exact hgr) (by rw [hv]; exact hnew)
      have c4 : w4.cell? ⟨L.b, 1, none⟩ = some L.vl := by rw [cell_of_row w4 _ _ _ _ _ RE.2.2]; rfl
      have f4 : w4.frozen? ⟨L.b, 1, none⟩ = false := frozen_of_row w4 _ _ _ _ RE.2.2
      refine hK.out _ _ trivial (fun hHeld => ?_)
      clear hK K
      try simp only [Act.put, List.setIfInBounds_toArray, List.set_cons_zero, List.set_cons_succ]
      refine takeH (i := 9) 57 (.pointer (some ⟨L.b, 0, none⟩)) rfl rfl (by kernel_rfl) (by kernel_rfl) (by kernel_rfl) (fun _ _ _ h => h) (by rfl) ?_ (by assumption) ?_
      · intro w hSw; (try dsimp only at hSw); go_simp
      simp only [List.setIfInBounds_toArray, List.set_cons_zero, List.set_cons_succ]
      refine takeH (i := 10) 58 (.pointer (some ⟨L.b, 1, none⟩)) rfl rfl (by kernel_rfl) (by kernel_rfl) (by kernel_rfl) (fun _ _ _ h => h) (by rfl) ?_ (by assumption) ?_
      · intro w hSw; (try dsimp only at hSw); go_simp
      simp only [List.setIfInBounds_toArray, List.set_cons_zero, List.set_cons_succ]
      refine wpAnyH_ready (rs := [11]) (by kernel_rfl) (by simp) ?_
      refine AllReadyH.cons rfl (fun K hK => ?_) AllReadyH.nil
      go_simp
      refine hK.out _ _ trivial (fun hHeld => ?_)
      clear hK K
      try simp only [Act.put, List.setIfInBounds_toArray, List.set_cons_zero, List.set_cons_succ]
      refine wpAnyH_done (by kernel_rfl) ?_ _
      go_wp2
      go_ret
      exact ⟨rfl, _, RE.1, S2.trans RE.2.1⟩
    · refine step_make 54 rfl rfl _ _ 60 rfl 37 i0 _ 2 Try.underlying60 hi hz0 hz1 .i64 .i64 n rfl rfl (by rw [hz2]; omega) (by unfold maxLen; omega) ?_
      intro w3 hm hgm
      have hrow3 := ((own_kept hg2.row (Kept.grown [] hgm fun k hk => by cases hk) fun _ _ => by simp).alloc (.cells #[.slice (some ⟨w2.heap.size, 0, none⟩) n n] 60))
      rw [vcells_new] at hm
      have hc3 : w3.cell? ⟨L.b, 1, none⟩ = some (.slice ao g.os.length cp) := (World.cell?_of_block (hgm.block _ (lt_of_block hg2.blk) (by simp))).trans c1
      have hc4 : (w3.alloc (.cells #[.slice (some ⟨w2.heap.size, 0, none⟩) n n] 60)).cell? ⟨L.b, 1, none⟩ = some (.slice ao g.os.length cp) := (World.cell?_of_block (Below.heap_alloc _ _ _ (Nat.lt_of_lt_of_le (lt_of_block hg2.blk) hgm.size))).trans hc3
      refine hK.out _ _ trivial (fun hHeld => ?_)
      clear hK K
      try simp only [Act.put, List.setIfInBounds_toArray, List.set_cons_zero, List.set_cons_succ]
      refine wpAnyH_ready (rs := [4, 7]) (by kernel_rfl) (by simp) ?_
      refine AllReadyH.cons rfl (fun K hK => ?_) (AllReadyH.cons rfl (fun K hK => ?_) AllReadyH.nil)
      · go_simp
        refine hK.out _ _ trivial (fun hHeld => ?_)
        clear hK K
        try simp only [Act.put, List.setIfInBounds_toArray, List.set_cons_zero, List.set_cons_succ]
        refine wpAnyH_ready (rs := [7]) (by kernel_rfl) (by simp) ?_
        refine AllReadyH.cons rfl (fun K hK => ?_) AllReadyH.nil
        go_simp
        refine hK.out _ _ trivial (fun hHeld => ?_)
        clear hK K
        try simp only [Act.put, List.setIfInBounds_toArray, List.set_cons_zero, List.set_cons_succ]
        refine wpAnyH_ready (rs := [8]) (by kernel_rfl) (by simp) ?_
        refine AllReadyH.cons rfl (fun K hK => ?_) AllReadyH.nil
        refine step_append_mine 56 rfl rfl _ _ 48 rfl 60 iv _ 1 24 Try.underlying48 hi' hz0' hz1' hz2' rfl (by decide) (.slice ao g.os.length cp) g.os.length L.vs rfl (by rw [← hv]; exact hrow3) ⟨w3.heap.size, 0, none⟩ 1 1 [.slice (some ⟨w2.heap.size, 0, none⟩) n n] rfl rfl (new1 _ _ rfl _ _) (by intro u hu; simp at hu; rw [hu]; rfl) (by unfold maxLen; omega) (by omega) (by decide) ?_
        intro lg lc w4 ho hgr hnew
        have RE := yalloc_end hg2 hm hgm ho (by rw [hv]; exact hgr) (by rw [hv]; exact hnew)
        have c4 : w4.cell? ⟨L.b, 1, none⟩ = some L.vl := by rw [cell_of_row w4 _ _ _ _ _ RE.2.2]; rfl
        have f4 : w4.frozen? ⟨L.b, 1, none⟩ = false := frozen_of_row w4 _ _ _ _ RE.2.2
        refine hK.out _ _ trivial (fun hHeld => ?_)
        clear hK K
        try simp only [Act.put, List.setIfInBounds_toArray, List.set_cons_zero, List.set_cons_succ]
        refine takeH (i := 9) 57 (.pointer (some ⟨L.b, 0, none⟩)) rfl rfl (by kernel_rfl) (by kernel_rfl) (by kernel_rfl) (fun _ _ _ h => h) (by rfl) ?_ (by assumption) ?_
        · intro w hSw; (try dsimp only at hSw); go_simp
        simp only [List.setIfInBounds_toArray, List.set_cons_zero, List.set_cons_succ]
        refine takeH (i := 10) 58 (.pointer (some ⟨L.b, 1, none⟩)) rfl rfl (by kernel_rfl) (by kernel_rfl) (by kernel_rfl) (fun _ _ _ h => h) (by rfl) ?_ (by assumption) ?_
        · intro w hSw; (try dsimp only at hSw); go_simp
        simp only [List.setIfInBounds_toArray, List.set_cons_zero, List.set_cons_succ]
        refine wpAnyH_ready (rs := [11]) (by kernel_rfl) (by simp) ?_
        refine AllReadyH.cons rfl (fun K hK => ?_) AllReadyH.nil
        go_simp
        refine hK.out _ _ trivial (fun hHeld => ?_)
        clear hK K
        try simp only [Act.put, List.setIfInBounds_toArray, List.set_cons_zero, List.set_cons_succ]
        refine wpAnyH_done (by kernel_rfl) ?_ _
        go_wp2
        go_ret
        exact ⟨rfl, _, RE.1, S2.trans RE.2.1⟩
      · go_simp
        refine hK.out _ _ trivial (fun hHeld => ?_)
        clear hK K
        try simp only [Act.put, List.setIfInBounds_toArray, List.set_cons_zero, List.set_cons_succ]
        refine wpAnyH_ready (rs := [4]) (by kernel_rfl) (by simp) ?_
        refine AllReadyH.cons rfl (fun K hK => ?_) AllReadyH.nil
        go_simp
        refine hK.out _ _ trivial (fun hHeld => ?_)
        clear hK K
        try simp only [Act.put, List.setIfInBounds_toArray, List.set_cons_zero, List.set_cons_succ]
        refine wpAnyH_ready (rs := [8]) (by kernel_rfl) (by simp) ?_
        refine AllReadyH.cons rfl (fun K hK => ?_) AllReadyH.nil
        refine step_append_mine 56 rfl rfl _ _ 48 rfl 60 iv _ 1 24 Try.underlying48 hi' hz0' hz1' hz2' rfl (by decide) (.slice ao g.os.length cp) g.os.length L.vs rfl (by rw [← hv]; exact hrow3) ⟨w3.heap.size, 0, none⟩ 1 1 [.slice (some ⟨w2.heap.size, 0, none⟩) n n] rfl rfl (new1 _ _ rfl _ _) (by intro u hu; simp at hu; rw [hu]; rfl) (by unfold maxLen; omega) (by omega) (by decide) ?_
        intro lg lc w4 ho hgr hnew
        have RE := yalloc_end hg2 hm hgm ho (by rw [hv]; exact hgr) (by rw [hv]; exact hnew)
        have c4 : w4.cell? ⟨L.b, 1, none⟩ = some L.vl := by rw [cell_of_row w4 _ _ _ _ _ RE.2.2]; rfl
        have f4 : w4.frozen? ⟨L.b, 1, none⟩ = false := frozen_of_row w4 _ _ _ _ RE.2.2
        refine hK.out _ _ trivial (fun hHeld => ?_)
        clear hK K
        try simp only [Act.put, List.setIfInBounds_toArray, List.set_cons_zero, List.set_cons_succ]
        refine takeH (i := 9) 57 (.pointer (some ⟨L.b, 0, none⟩)) rfl rfl (by kernel_rfl) (by kernel_rfl) (by kernel_rfl) (fun _ _ _ h => h) (by rfl) ?_ (by assumption) ?_
        · intro w hSw; (try dsimp only at hSw); go_simp
        simp only [List.setIfInBounds_toArray, List.set_cons_zero, List.set_cons_succ]
        refine takeH (i := 10) 58 (.pointer (some ⟨L.b, 1, none⟩)) rfl rfl (by kernel_rfl) (by kernel_rfl) (by kernel_rfl) (fun _ _ _ h => h) (by rfl) ?_ (by assumption) ?_
        · intro w hSw; (try dsimp only at hSw); go_simp
        simp only [List.setIfInBounds_toArray, List.set_cons_zero, List.set_cons_succ]
        refine wpAnyH_ready (rs := [11]) (by kernel_rfl) (by simp) ?_
        refine AllReadyH.cons rfl (fun K hK => ?_) AllReadyH.nil
        go_simp
        refine hK.out _ _ trivial (fun hHeld => ?_)
        clear hK K
        try simp only [Act.put, List.setIfInBounds_toArray, List.set_cons_zero, List.set_cons_succ]
        refine wpAnyH_done (by kernel_rfl) ?_ _
        go_wp2
        go_ret
        exact ⟨rfl, _, RE.1, S2.trans RE.2.1⟩

theorem yAlloc {w : World} {L : YLoc} {g : Gr} (hg : YAt w L g) (f : g.Fit) (t n : Int) :
    Calls Try.prog 14 #[.pointer (some ⟨L.b, 0, none⟩), .int .i64 t, .int .i64 n] w fun e w' => e = .returned (.int .i64 (g.allocE t n)) ∧ ∃ L', YAt w' L' (g.alloc t n) ∧ YStep w L w' L' := by
  rcases h : g.isT t with _ | _
  · refine (yAllocBad0 hg f t n h).mono ?_
    rintro e w' ⟨rfl, hw⟩
    rw [hw]
    exact ⟨by simp [Gr.allocE, h], L, by simpa [Gr.alloc, Gr.allocE, h] using hg, YStep.refl _ _⟩
  · by_cases hn : 0 ≤ n ∧ n ≤ 7
    · obtain ⟨k, rfl, hk⟩ := isT_nat h
      obtain ⟨m, rfl⟩ : ∃ m : Nat, n = m := ⟨n.toNat, by omega⟩
      have eE : g.allocE k m = Rw.pushE (g.ts.getD k []) := by unfold Gr.allocE; rw [if_pos h, if_pos hn]; rfl
      unfold Gr.alloc
      rw [eE]
      by_cases e0 : Rw.pushE (g.ts.getD k []) = 0
      · refine (yAllocGood hg f k m hk (by omega) _ _ rfl rfl e0).mono ?_
        rintro e w' ⟨rfl, L', hR, hS⟩
        rw [c_err e0] at hR
        refine ⟨by rw [e0], L', ?_, hS⟩
        rw [if_pos e0]
        exact hR
      · refine (yAllocFull hg f k m hk (by omega) _ _ rfl rfl _ rfl (by simpa using e0)).mono ?_
        rintro e w' ⟨rfl, hR⟩
        refine ⟨rfl, L, ?_, YStep.of_below hR⟩
        rw [if_neg e0]
        exact hg.below hR
    · refine (yAllocBad1 hg f t n h (by omega)).mono ?_
      rintro e w' ⟨rfl, hw⟩
      have eE : g.allocE t n = 10 := by unfold Gr.allocE; rw [if_pos h, if_neg hn]
      rw [hw]
      exact ⟨by rw [eE], L, by unfold Gr.alloc; rw [eE]; exact hg, YStep.refl _ _⟩
end Go.Proofs.Ytbihdkdefopijaa
