/-
  The walk of GraphNumbers.
-/
import Derived.Test.YtbihdkdefopijaaOg
import Derived.Test.YtbihdkdefopijaaSg
namespace Go.Proofs.Ytbihdkdefopijaa
set_option linter.unusedVariables false
set_option linter.unusedSimpArgs false
open Go.ChangeShapes Go.WideShapes Go.ChangeAt Go.RowKit

theorem Gr.t_alloc (g : Gr) (t n : Int) : (g.alloc t n).ts.length = g.ts.length := by unfold Gr.alloc; split <;> simp
theorem Gr.t_write (g : Gr) (t i f : Int) (s : Src) : (g.write t i f s).ts.length = g.ts.length := by unfold Gr.write; split <;> rfl
theorem Gr.t_drop (g : Gr) (t : Int) : (g.drop t).ts.length = g.ts.length := by unfold Gr.drop; split <;> simp [Gr.setR]
theorem Gr.t_dup (g : Gr) (t i : Int) : (g.dup t i).ts.length = g.ts.length := by unfold Gr.dup; split <;> simp [Gr.setR]

set_option maxRecDepth 100000 in
set_option maxHeartbeats 2000000 in
theorem wGraphNumbers (ao : Option Addr) (len cap : Nat) (z : Nat → Op9) (w : World) (hl : Came w ao len z) :
    Calls Try.prog 7 #[.slice ao len cap] w fun e w' => e = .returned (.bool true) ∧ Below w.heap.size w w' := by
  go_enter Try.func7, Try.ntmps7
  go_wp2_with (first
    | (go_at_call 9; refine (cShown _).mono ?_; rintro e w1 ⟨rfl, hb1⟩)
    | (go_at_call 10; refine (oNew _ 2 (by decide) (by decide) hb1).mono ?_; rintro e w2 ⟨b, rfl, o2, hb2⟩))
  clear hb1 hb2
  go_loopw [6] (fun i wr => ∃ (k : Nat) (g : Gr), k ≤ len ∧ k ≤ 40 ∧ i = .int .i64 k ∧ Own w wr b g k ∧ g.ts.length = 2) (fun i _ => 40 - (intOf i).toNat)
  case atStart => exact ⟨0, _, Nat.zero_le _, by decide, rfl, o2, rfl⟩
  case round =>
    clear o2
    obtain ⟨k, g, hk, hk40, rfl, o4, ht2⟩ := hrel
    obtain ⟨wo, rfl⟩ : ∃ wo : World, wo = wr := ⟨_, rfl⟩
    have k0 : (0 : Int) ≤ (k : Int) := by omega
    by_cases hlt : k < len ∧ k < 40
    case pos =>
      obtain ⟨hlt, hl40⟩ := hlt
      have kl : (k : Int) < (len : Int) := by omega
      have kl40 : (k : Int) < 40 := by omega
      rcases hl with hl | ⟨lb, off, rfl, hl⟩
      case inl => omega
      case inr =>
        have lf := hl.fit k hlt
        have ops := hl.on o4.bel
        obtain ⟨q, hq⟩ : ∃ q, z k = q := ⟨_, rfl⟩
        have x0 := ops.c0 k hlt
        have x1 := ops.c1 k hlt
        have x2 := ops.c2 k hlt
        have x3 := ops.c3 k hlt
        have x4 := ops.c4 k hlt
        have x5 := ops.c5 k hlt
        have x6 := ops.c6 k hlt
        have x7 := ops.c7 k hlt
        have x8 := ops.c8 k hlt
        rw [hq] at x0 x1 x2 x3 x4 x5 x6 x7 x8 lf
        clear ops hq
        have vq : (wo.alloc (.cells #[.int .i64 q.k, .int .i64 q.t, .int .i64 q.i, .int .i64 q.f, .int .i64 q.n, .int .i64 q.a, .int .i64 q.b, .int .i64 q.c, .int .i64 q.d] 34)).heap[wo.heap.size]? = some (.cells (opv q) 34 (0, 0)) := heap_alloc_new wo _
        obtain ⟨y0, y1, y2, y3, y4, y5, y6, y7, y8⟩ := opv_cells vq
        have o5 := o4.alloc (.cells #[.int .i64 q.k, .int .i64 q.t, .int .i64 q.i, .int .i64 q.f, .int .i64 q.n, .int .i64 q.a, .int .i64 q.b, .int .i64 q.c, .int .i64 q.d] 34)
        obtain ⟨tt, htt⟩ : ∃ t, kd q.t 2 = t := ⟨_, rfl⟩
        have bk := kd_bounds q.k 5 (by decide)
        have hways : kd q.k 5 = 0 ∨ kd q.k 5 = 1 ∨ kd q.k 5 = 2 ∨ kd q.k 5 = 3 ∨ kd q.k 5 = 4 := by omega
        clear bk
        rcases hways with hK | hK | hK | hK | hK
        · go_wp2_with (first
            | (go_at_call_of 12 (Value.int .i64 q.t); refine (cKind _ q.t 2 lf.t0 lf.t1 (by decide)).mono ?_; rintro e w9 ⟨rfl, hw9⟩; rw [hw9, htt]; clear hw9 w9)
            | (go_at_call_of 12 (Value.int .i64 q.k); refine (cKind _ q.k 5 lf.k0 lf.k1 (by decide)).mono ?_; rintro e w9 ⟨rfl, hw9⟩; rw [hw9, hK]; clear hw9 w9)
            | (go_at_call_of 12 (Value.int .i64 q.f); refine (cKind _ q.f 8 lf.f0 lf.f1 (by decide)).mono ?_; rintro e w9 ⟨rfl, hw9⟩; rw [hw9]; clear hw9 w9)
            | (go_at_call 13; refine (oAlloc o5 (by omega) tt (kd q.f 8)).mono ?_; rintro e w6 ⟨rfl, o6, hO6⟩))
          go_roundw
          case rel => exact ⟨k + 1, _, by omega, by omega, by go_num, o6, by rw [Gr.t_alloc]; exact ht2⟩
          case measure => simp [intOf]; omega
        · go_wp2_with (first
            | (go_at_call_of 12 (Value.int .i64 q.t); refine (cKind _ q.t 2 lf.t0 lf.t1 (by decide)).mono ?_; rintro e w9 ⟨rfl, hw9⟩; rw [hw9, htt]; clear hw9 w9)
            | (go_at_call_of 12 (Value.int .i64 q.k); refine (cKind _ q.k 5 lf.k0 lf.k1 (by decide)).mono ?_; rintro e w9 ⟨rfl, hw9⟩; rw [hw9, hK]; clear hw9 w9)
            | (go_at_call_of 12 (Value.int .i64 q.f); refine (cKind _ q.f 8 lf.f0 lf.f1 (by decide)).mono ?_; rintro e w9 ⟨rfl, hw9⟩; rw [hw9]; clear hw9 w9)
            | (go_at_call 13; refine (oAlloc o5 (by omega) tt (kd q.f 8)).mono ?_; rintro e w6 ⟨rfl, o6, hO6⟩))
          go_roundw
          case rel => exact ⟨k + 1, _, by omega, by omega, by go_num, o6, by rw [Gr.t_alloc]; exact ht2⟩
          case measure => simp [intOf]; omega
        · go_wp2_with (first
            | (go_at_call_of 12 (Value.int .i64 q.t); refine (cKind _ q.t 2 lf.t0 lf.t1 (by decide)).mono ?_; rintro e w9 ⟨rfl, hw9⟩; rw [hw9, htt]; clear hw9 w9)
            | (go_at_call_of 12 (Value.int .i64 q.k); refine (cKind _ q.k 5 lf.k0 lf.k1 (by decide)).mono ?_; rintro e w9 ⟨rfl, hw9⟩; rw [hw9, hK]; clear hw9 w9))
          obtain ⟨ob, hob⟩ : ∃ n, n = wo.heap.size := ⟨_, rfl⟩
          rw [← hob] at vq y2 y3 y5 y6 ⊢
          obtain ⟨w5, hw5⟩ : ∃ u, u = wo.alloc (.cells #[.int .i64 q.k, .int .i64 q.t, .int .i64 q.i, .int .i64 q.f, .int .i64 q.n, .int .i64 q.a, .int .i64 q.b, .int .i64 q.c, .int .i64 q.d] 34) := ⟨_, rfl⟩
          rw [← hw5] at vq y2 y3 y5 y6 o5 ⊢
          clear hw5 hob x0 x1 x2 x3 x4 x5 x6 x7 x8 y0 y1 y4 y7 y8
          refine wp_region_held_drew (S := fun w' => w'.cell? ⟨ob, 2, none⟩ = some (.int .i64 q.i) ∧ w'.cell? ⟨ob, 3, none⟩ = some (.int .i64 q.f) ∧ w'.cell? ⟨ob, 5, none⟩ = some (.int .i64 q.a) ∧ w'.cell? ⟨ob, 6, none⟩ = some (.int .i64 q.b)) (by kernel_rfl) ⟨y2, y3, y5, y6⟩ (fun hHeld => ?_)
          refine takeH (i := 0) 60 (.pointer (some ⟨b, 0, none⟩)) rfl rfl (by kernel_rfl) (by kernel_rfl) (by kernel_rfl) (fun _ _ _ h => h) (by rfl) ?_ (by assumption) ?_
          · intro w hSw; (try dsimp only at hSw); go_simp
          simp only [List.setIfInBounds_toArray, List.set_cons_zero, List.set_cons_succ]
          refine takeH (i := 1) 61 (.int .i64 tt) rfl rfl (by kernel_rfl) (by kernel_rfl) (by kernel_rfl) (fun _ _ _ h => h) (by rfl) ?_ (by assumption) ?_
          · intro w hSw; (try dsimp only at hSw); go_simp
          simp only [List.setIfInBounds_toArray, List.set_cons_zero, List.set_cons_succ]
          refine takeH (i := 2) 62 (.pointer (some ⟨ob, 2, none⟩)) rfl rfl (by kernel_rfl) (by kernel_rfl) (by kernel_rfl) (fun _ _ _ h => h) (by rfl) ?_ (by assumption) ?_
          · intro w hSw; (try dsimp only at hSw); go_simp
          simp only [List.setIfInBounds_toArray, List.set_cons_zero, List.set_cons_succ]
          refine takeH (i := 3) 63 (.int .i64 q.i) rfl rfl (by kernel_rfl) (by kernel_rfl) (by kernel_rfl) (fun _ _ _ h => h) (by rfl) ?_ (by assumption) ?_
          · intro w hSw; (try dsimp only at hSw); go_simp
          simp only [List.setIfInBounds_toArray, List.set_cons_zero, List.set_cons_succ]
          refine takeH (i := 5) 65 (.pointer (some ⟨ob, 3, none⟩)) rfl rfl (by kernel_rfl) (by kernel_rfl) (by kernel_rfl) (fun _ _ _ h => h) (by rfl) ?_ (by assumption) ?_
          · intro w hSw; (try dsimp only at hSw); go_simp
          simp only [List.setIfInBounds_toArray, List.set_cons_zero, List.set_cons_succ]
          refine takeH (i := 6) 66 (.int .i64 q.f) rfl rfl (by kernel_rfl) (by kernel_rfl) (by kernel_rfl) (fun _ _ _ h => h) (by rfl) ?_ (by assumption) ?_
          · intro w hSw; (try dsimp only at hSw); go_simp
          simp only [List.setIfInBounds_toArray, List.set_cons_zero, List.set_cons_succ]
          refine takeH (i := 8) 68 (.pointer (some ⟨ob, 5, none⟩)) rfl rfl (by kernel_rfl) (by kernel_rfl) (by kernel_rfl) (fun _ _ _ h => h) (by rfl) ?_ (by assumption) ?_
          · intro w hSw; (try dsimp only at hSw); go_simp
          simp only [List.setIfInBounds_toArray, List.set_cons_zero, List.set_cons_succ]
          refine takeH (i := 9) 69 (.agg #[.int .i64 q.a, .int .i64 q.b]) rfl rfl (by kernel_rfl) (by kernel_rfl) (by kernel_rfl) (fun _ _ _ h => h) (by rfl) ?_ (by assumption) ?_
          · intro w hSw; (try dsimp only at hSw); go_simp
          simp only [List.setIfInBounds_toArray, List.set_cons_zero, List.set_cons_succ]
          refine wpAnyH_ready (rs := [4]) (by kernel_rfl) (by simp) ?_
          refine AllReadyH.cons rfl (fun K hK => ?_) AllReadyH.nil
          go_simp
          refine (cKind _ q.i 3 lf.i0 lf.i1 (by decide)).mono ?_; rintro e w9 ⟨rfl, hw9⟩; rw [hw9]; clear hw9 w9
          refine hK.out _ _ hHeld (fun hHeld => ?_)
          clear hK K
          try simp only [Act.put, List.setIfInBounds_toArray, List.set_cons_zero, List.set_cons_succ]
          refine wpAnyH_ready (rs := [7]) (by kernel_rfl) (by simp) ?_
          refine AllReadyH.cons rfl (fun K hK => ?_) AllReadyH.nil
          go_simp
          refine (cKind _ q.f 4 lf.f0 lf.f1 (by decide)).mono ?_; rintro e w9 ⟨rfl, hw9⟩; rw [hw9]; clear hw9 w9
          refine hK.out _ _ hHeld (fun hHeld => ?_)
          clear hK K
          try simp only [Act.put, List.setIfInBounds_toArray, List.set_cons_zero, List.set_cons_succ]
          refine wpAnyH_ready (rs := [10]) (by kernel_rfl) (by simp) ?_
          refine AllReadyH.cons rfl (fun K hK => ?_) AllReadyH.nil
          go_simp
          refine (oWrite o5.drew tt (kd q.i 3) (kd q.f 4) q.a q.b).mono ?_; rintro e w6 ⟨rfl, o6, hO6⟩; have v6 := hO6 _ _ _ _ (by decide) vq; obtain ⟨z0, z1, z2, z3, z4, z5, z6, z7, z8⟩ := opv_cells v6
          refine hK.out _ _ ⟨z2, z3, z5, z6⟩ (fun hHeld => ?_)
          clear hK K
          try simp only [Act.put, List.setIfInBounds_toArray, List.set_cons_zero, List.set_cons_succ]
          refine wpAnyH_done (by kernel_rfl) ?_ _
          go_wp2
          go_roundw
          case rel => exact ⟨k + 1, _, by omega, by omega, by go_num, o6.mono (by omega), by rw [Gr.t_write]; exact ht2⟩
          case measure => simp [intOf]; omega
        · go_wp2_with (first
            | (go_at_call_of 12 (Value.int .i64 q.t); refine (cKind _ q.t 2 lf.t0 lf.t1 (by decide)).mono ?_; rintro e w9 ⟨rfl, hw9⟩; rw [hw9, htt]; clear hw9 w9)
            | (go_at_call_of 12 (Value.int .i64 q.k); refine (cKind _ q.k 5 lf.k0 lf.k1 (by decide)).mono ?_; rintro e w9 ⟨rfl, hw9⟩; rw [hw9, hK]; clear hw9 w9))
          obtain ⟨ob, hob⟩ : ∃ n, n = wo.heap.size := ⟨_, rfl⟩
          rw [← hob] at vq y2 y3 y5 y6 ⊢
          obtain ⟨w5, hw5⟩ : ∃ u, u = wo.alloc (.cells #[.int .i64 q.k, .int .i64 q.t, .int .i64 q.i, .int .i64 q.f, .int .i64 q.n, .int .i64 q.a, .int .i64 q.b, .int .i64 q.c, .int .i64 q.d] 34) := ⟨_, rfl⟩
          rw [← hw5] at vq y2 y3 y5 y6 o5 ⊢
          clear hw5 hob x0 x1 x2 x3 x4 x5 x6 x7 x8 y0 y1 y4 y7 y8
          refine wp_region_held_drew (S := fun w' => w'.cell? ⟨ob, 2, none⟩ = some (.int .i64 q.i) ∧ w'.cell? ⟨ob, 3, none⟩ = some (.int .i64 q.f) ∧ w'.cell? ⟨ob, 5, none⟩ = some (.int .i64 q.a) ∧ w'.cell? ⟨ob, 6, none⟩ = some (.int .i64 q.b)) (by kernel_rfl) ⟨y2, y3, y5, y6⟩ (fun hHeld => ?_)
          refine takeH (i := 0) 60 (.pointer (some ⟨b, 0, none⟩)) rfl rfl (by kernel_rfl) (by kernel_rfl) (by kernel_rfl) (fun _ _ _ h => h) (by rfl) ?_ (by assumption) ?_
          · intro w hSw; (try dsimp only at hSw); go_simp
          simp only [List.setIfInBounds_toArray, List.set_cons_zero, List.set_cons_succ]
          refine takeH (i := 1) 61 (.int .i64 tt) rfl rfl (by kernel_rfl) (by kernel_rfl) (by kernel_rfl) (fun _ _ _ h => h) (by rfl) ?_ (by assumption) ?_
          · intro w hSw; (try dsimp only at hSw); go_simp
          simp only [List.setIfInBounds_toArray, List.set_cons_zero, List.set_cons_succ]
          refine takeH (i := 2) 62 (.pointer (some ⟨ob, 2, none⟩)) rfl rfl (by kernel_rfl) (by kernel_rfl) (by kernel_rfl) (fun _ _ _ h => h) (by rfl) ?_ (by assumption) ?_
          · intro w hSw; (try dsimp only at hSw); go_simp
          simp only [List.setIfInBounds_toArray, List.set_cons_zero, List.set_cons_succ]
          refine takeH (i := 3) 63 (.int .i64 q.i) rfl rfl (by kernel_rfl) (by kernel_rfl) (by kernel_rfl) (fun _ _ _ h => h) (by rfl) ?_ (by assumption) ?_
          · intro w hSw; (try dsimp only at hSw); go_simp
          simp only [List.setIfInBounds_toArray, List.set_cons_zero, List.set_cons_succ]
          refine takeH (i := 5) 65 (.pointer (some ⟨ob, 3, none⟩)) rfl rfl (by kernel_rfl) (by kernel_rfl) (by kernel_rfl) (fun _ _ _ h => h) (by rfl) ?_ (by assumption) ?_
          · intro w hSw; (try dsimp only at hSw); go_simp
          simp only [List.setIfInBounds_toArray, List.set_cons_zero, List.set_cons_succ]
          refine takeH (i := 6) 66 (.int .i64 q.f) rfl rfl (by kernel_rfl) (by kernel_rfl) (by kernel_rfl) (fun _ _ _ h => h) (by rfl) ?_ (by assumption) ?_
          · intro w hSw; (try dsimp only at hSw); go_simp
          simp only [List.setIfInBounds_toArray, List.set_cons_zero, List.set_cons_succ]
          refine takeH (i := 8) 68 (.pointer (some ⟨ob, 5, none⟩)) rfl rfl (by kernel_rfl) (by kernel_rfl) (by kernel_rfl) (fun _ _ _ h => h) (by rfl) ?_ (by assumption) ?_
          · intro w hSw; (try dsimp only at hSw); go_simp
          simp only [List.setIfInBounds_toArray, List.set_cons_zero, List.set_cons_succ]
          refine takeH (i := 9) 69 (.agg #[.int .i64 q.a, .int .i64 q.b]) rfl rfl (by kernel_rfl) (by kernel_rfl) (by kernel_rfl) (fun _ _ _ h => h) (by rfl) ?_ (by assumption) ?_
          · intro w hSw; (try dsimp only at hSw); go_simp
          simp only [List.setIfInBounds_toArray, List.set_cons_zero, List.set_cons_succ]
          refine wpAnyH_ready (rs := [4]) (by kernel_rfl) (by simp) ?_
          refine AllReadyH.cons rfl (fun K hK => ?_) AllReadyH.nil
          go_simp
          refine (cKind _ q.i 3 lf.i0 lf.i1 (by decide)).mono ?_; rintro e w9 ⟨rfl, hw9⟩; rw [hw9]; clear hw9 w9
          refine hK.out _ _ hHeld (fun hHeld => ?_)
          clear hK K
          try simp only [Act.put, List.setIfInBounds_toArray, List.set_cons_zero, List.set_cons_succ]
          refine wpAnyH_ready (rs := [7]) (by kernel_rfl) (by simp) ?_
          refine AllReadyH.cons rfl (fun K hK => ?_) AllReadyH.nil
          go_simp
          refine (cKind _ q.f 4 lf.f0 lf.f1 (by decide)).mono ?_; rintro e w9 ⟨rfl, hw9⟩; rw [hw9]; clear hw9 w9
          refine hK.out _ _ hHeld (fun hHeld => ?_)
          clear hK K
          try simp only [Act.put, List.setIfInBounds_toArray, List.set_cons_zero, List.set_cons_succ]
          refine wpAnyH_ready (rs := [10]) (by kernel_rfl) (by simp) ?_
          refine AllReadyH.cons rfl (fun K hK => ?_) AllReadyH.nil
          go_simp
          refine (oWrite o5.drew tt (kd q.i 3) (kd q.f 4) q.a q.b).mono ?_; rintro e w6 ⟨rfl, o6, hO6⟩; have v6 := hO6 _ _ _ _ (by decide) vq; obtain ⟨z0, z1, z2, z3, z4, z5, z6, z7, z8⟩ := opv_cells v6
          refine hK.out _ _ ⟨z2, z3, z5, z6⟩ (fun hHeld => ?_)
          clear hK K
          try simp only [Act.put, List.setIfInBounds_toArray, List.set_cons_zero, List.set_cons_succ]
          refine wpAnyH_done (by kernel_rfl) ?_ _
          go_wp2
          go_roundw
          case rel => exact ⟨k + 1, _, by omega, by omega, by go_num, o6.mono (by omega), by rw [Gr.t_write]; exact ht2⟩
          case measure => simp [intOf]; omega
        · go_wp2_with (first
            | (go_at_call_of 12 (Value.int .i64 q.t); refine (cKind _ q.t 2 lf.t0 lf.t1 (by decide)).mono ?_; rintro e w9 ⟨rfl, hw9⟩; rw [hw9, htt]; clear hw9 w9)
            | (go_at_call_of 12 (Value.int .i64 q.k); refine (cKind _ q.k 5 lf.k0 lf.k1 (by decide)).mono ?_; rintro e w9 ⟨rfl, hw9⟩; rw [hw9, hK]; clear hw9 w9)
            | (go_at_call 27; refine (oDrop o5 tt).mono ?_; rintro e w6 ⟨rfl, o6, hO6⟩))
          go_roundw
          case rel => exact ⟨k + 1, _, by omega, by omega, by go_num, o6.mono (by omega), by rw [Gr.t_drop]; exact ht2⟩
          case measure => simp [intOf]; omega
    case neg =>
      have hd : (decide ((k : Int) < (len : Int)) && decide ((k : Int) < 40)) = false := by simp; omega
      have f := o4.fit
      have ob := f.ob
      clear hl
      go_wp2_with (go_at_call 31; refine (oShape o4).mono ?_; rintro e w5 ⟨vr, vl, rfl, o5, h5, r5, s5⟩; obtain ⟨xr, yr, rfl⟩ := r5.slice; obtain ⟨xl, yl, rfl⟩ := s5.slice; rw [List.length_map] at r5; rw [List.length_map] at s5)
      all_goals
        have hrl : (Sh.roots g).length = 2 := by unfold Sh.roots; rw [Sh.rruns_len]; exact ht2
        rw [hrl] at r5 ⊢
        generalize hll : (Sh.objs g).length = nl at s5 ⊢
        have hnl : nl ≤ 1001 := by rw [← hll]; have := (lrun_rows (os := g.os) (fun m k => (Sh.kth_fit f m k).2) (g.os.length + 1) 0 (Sh.rruns [] g.ts).1).1; unfold Sh.objs; omega
        obtain ⟨w6, hw6⟩ : ∃ u, u = w5.alloc (.cells #[.slice xr 2 yr, .slice xl nl yl] 50) := ⟨_, rfl⟩
        have b6 := bal o5.bel (.cells #[.slice xr 2 yr, .slice xl nl yl] 50)
        have c6 : w6.cell? ⟨w5.heap.size, 0, none⟩ = some (.slice xr 2 yr) := by rw [hw6, cell_of_row _ _ _ _ _ _ (heap_alloc_new w5 _)]; rfl
        have d6 : w6.cell? ⟨w5.heap.size, 1, none⟩ = some (.slice xl nl yl) := by rw [hw6, cell_of_row _ _ _ _ _ _ (heap_alloc_new w5 _)]; rfl
        have r6 := r5.on (w' := w6) (q := fun _ => True) (fun j cs T' hb _ _ => ⟨by rw [hw6]; exact Below.heap_alloc _ _ _ (lt_of_block hb), trivial⟩)
        have s6 := s5.on (w' := w6) (q := fun _ => True) (fun j cs T' hb _ _ => ⟨by rw [hw6]; exact Below.heap_alloc _ _ _ (lt_of_block hb), trivial⟩)
        rw [← hw6] at b6 ⊢
        clear hw6 r5 s5 h5 o5
        obtain ⟨sb, hsb⟩ : ∃ n, n = w5.heap.size := ⟨_, rfl⟩
        rw [← hsb] at c6 d6 ⊢
        clear hsb
        have hr2 : 2 ≤ (Sh.roots g).length := by omega
        have ht2' : 2 ≤ g.ts.length := by omega
        have ht3 : g.ts.length ≤ 2 := by omega
        have hn1 : nl ≤ (Sh.objs g).length := by omega
        have hn2 : (Sh.objs g).length ≤ nl := by omega
        have hal := Sh.all_len f
        have hall2 : Sh.metL g nl = Sh.all g := by unfold Sh.all; rw [hll]
        rw [hll] at hal
        clear hrl hll ht2
        go_loop [10, 11] (fun m i => ∃ k : Nat, k ≤ 2 ∧ i = .int .i64 k ∧ m = .int .i64 ((Sh.rruns [] (g.ts.take k)).1.length : Int)) (fun _ i => 2 - (intOf i).toNat)
        case atStart => exact ⟨0, by decide, rfl, rfl⟩
        case round =>
          obtain ⟨k, hk, rfl, rfl⟩ := hrel
          have k0 : (0 : Int) ≤ (k : Int) := by omega
          by_cases hlt : k < 2
          case pos =>
            have kl : (k : Int) < 2 := by omega
            have ra := Sh.rruns_at g.ts [] k (by omega)
            have okk := Sh.Ok.rruns (N := g.os.length) (g.ts.take k) (Sh.Ok.nil _) fun r hr => f.rid r (List.mem_of_mem_take hr)
            have hrid := f.rid (g.ts.getD k []) (by rw [List.getD_eq_getElem?_getD, List.getElem?_eq_getElem (by omega)]; exact List.getElem_mem _)
            have hr8 := f.r8 (g.ts.getD k []) (by rw [List.getD_eq_getElem?_getD, List.getElem?_eq_getElem (by omega)]; exact List.getElem_mem _)
            obtain ⟨g1, u, rfl, c1, o1⟩ := r6.at rfl k (irow_at (rr := Sh.roots g) (by omega))
            have hrow : (Sh.roots g).getD k [] = (Sh.meets (Sh.rruns [] (g.ts.take k)).1 (g.ts.getD k [])).2 := ra.1
            rw [hrow] at o1
            simp only [irow, Sh.meets_len] at o1
            have ra2 := ra.2
            generalize g.ts.getD k [] = r at o1 hrid hr8 ra2
            generalize (Sh.rruns [] (g.ts.take k)).1 = m at o1 okk ra2 ⊢
            clear hrow ra
            obtain ⟨ao1, cp1, rfl, hp1⟩ := own_slice o1
            go_wp2
            go_loop [10, 12] (fun mm i => ∃ j : Nat, j ≤ r.length ∧ i = .int .i64 j ∧ mm = .int .i64 ((Sh.meets m (r.take j)).1.length : Int)) (fun _ i => r.length - (intOf i).toNat)
            case atStart => exact ⟨0, Nat.zero_le _, rfl, rfl⟩
            case round =>
              obtain ⟨j, hj, rfl, rfl⟩ := hrel
              have j0 : (0 : Int) ≤ (j : Int) := by omega
              by_cases hjl : j < r.length
              case pos =>
                have jl : (j : Int) < (r.length : Int) := by omega
                obtain ⟨v1, rfl⟩ := hp1 (by omega)
                have ma := Sh.meets_at r m j hjl
                have okj := Sh.Ok.meets (r.take j) okk fun x hx => hrid x (List.mem_of_mem_take hx)
                have hlj := okj.len
                have na := Sh.num_add (Sh.meets m (r.take j)).1 (r.getD j 0)
                have d1 := o1.cellAt j (by omega)
                rw [ints_at _ j (by rw [Sh.meets_len]; exact hjl), ma.1] at d1
                rw [← ma.2] at na
                have ma2 := ma.2
                rw [← ma2] at d1
                generalize Sh.num (Sh.meets m (r.take (j + 1))).1 (r.getD j 0) = n at na d1
                generalize hM : (Sh.meets m (r.take (j + 1))).1 = M at na
                generalize (Sh.meets m (r.take j)).1 = m1 at na hlj ⊢
                clear ma ma2 okj
                obtain ⟨na0, na1, na2⟩ := na
                go_wp2
                go_round
                case rel => exact ⟨j + 1, by omega, by go_num, by rw [hM, ← na2]; congr 1; split <;> omega⟩
                case measure => simp [intOf]; omega
              case neg =>
                rw [show r.take j = r from List.take_of_length_le (by omega)]
                go_wp2
                go_round
                case rel => exact ⟨k + 1, by omega, by go_num, by rw [ra2]⟩
                case measure => simp [intOf]; omega
          case neg =>
            rw [show g.ts.take k = g.ts from List.take_of_length_le (by omega), show (Sh.rruns [] g.ts).1 = Sh.metL g 0 from rfl]
            go_wp2
            clear k0 hlt hk
            go_loop [10, 14] (fun m i => ∃ k : Nat, k ≤ nl ∧ i = .int .i64 k ∧ m = .int .i64 ((Sh.metL g k).length : Int)) (fun _ i => nl - (intOf i).toNat)
            case atStart => exact ⟨0, Nat.zero_le _, rfl, rfl⟩
            case round =>
              obtain ⟨k, hk, rfl, rfl⟩ := hrel
              have k0 : (0 : Int) ≤ (k : Int) := by omega
              by_cases hlt : k < nl
              case pos =>
                have kl : (k : Int) < (nl : Int) := by omega
                have ml := Sh.metL_at f (j := k) (by omega)
                have okk := Sh.metL_ok f k
                have kf := Sh.kth_fit f (Sh.metL g k) k
                have hs : Sh.metL g (k + 1) = (Sh.fmeets (Sh.metL g k) (Sh.kth g.os (Sh.metL g k) k)).1 := by simp only [Sh.metL, Sh.mks, Nat.zero_add]
                obtain ⟨g1, u, rfl, c1, o1⟩ := s6.at rfl k (vrw_at (ll := Sh.objs g) (by omega))
                rw [ml.2] at o1
                simp only [vrw, Sh.fmeets_len] at o1
                have hkl := ml.1
                clear ml
                generalize Sh.kth g.os (Sh.metL g k) k = o at o1 kf hs
                generalize Sh.metL g k = m at o1 okk hs hkl ⊢
                have hkm : (k : Int) < (m.length : Int) := by omega
                have hml := okk.len
                obtain ⟨ao1, cp1, rfl, hp1⟩ := own_slice o1
                go_wp2
                go_loop [10, 15] (fun mm i => ∃ j : Nat, j ≤ o.length ∧ i = .int .i64 j ∧ mm = .int .i64 ((Sh.fmeets m (o.take j)).1.length : Int)) (fun _ i => o.length - (intOf i).toNat)
                case atStart => exact ⟨0, Nat.zero_le _, rfl, rfl⟩
                case round =>
                  obtain ⟨j, hj, rfl, rfl⟩ := hrel
                  have j0 : (0 : Int) ≤ (j : Int) := by omega
                  by_cases hjl : j < o.length
                  case pos =>
                    have jl : (j : Int) < (o.length : Int) := by omega
                    obtain ⟨v1, rfl⟩ := hp1 (by omega)
                    have fa := Sh.fmeets_at o m j hjl
                    have okj := Sh.Ok.fmeets (o.take j) okk fun x hx => kf.1 x (List.mem_of_mem_take hx)
                    have hlj := okj.len
                    have hv := vcells_at (Sh.fmeets m o).2 j ((Sh.fmeets m o).2.getD j (0, 0)) (by rw [List.getD_eq_getElem?_getD, List.getElem?_eq_getElem (by rw [Sh.fmeets_len]; exact hjl)]; rfl)
                    have d1 := o1.cellAt (j * 2) (by omega)
                    have e1 := o1.cellAt (j * 2 + 1) (by omega)
                    rw [hv.1, fa.1] at d1
                    rw [hv.2, fa.1] at e1
                    have fa2 := fa.2
                    clear fa hv
                    generalize o.getD j (0, 0) = v at d1 e1 fa2
                    generalize hM : (Sh.fmeets m (o.take (j + 1))).1 = M at fa2
                    generalize (Sh.fmeets m (o.take j)).1 = m1 at d1 e1 fa2 hlj ⊢
                    clear okj
                    by_cases h1 : v.1 = 1
                    case pos =>
                      have na := Sh.num_add m1 v.2
                      have hf : Sh.fnum (Sh.fadd m1 v) v = (1, Sh.num (Sh.add m1 v.2) v.2) := by simp [Sh.fnum, Sh.fadd, h1]
                      have hfa : Sh.fadd m1 v = Sh.add m1 v.2 := by simp [Sh.fadd, h1]
                      rw [hf] at d1 e1
                      rw [hfa] at fa2
                      rw [← fa2] at na e1
                      clear hf hfa fa2
                      simp only at d1 e1
                      generalize Sh.num M v.2 = n at na e1
                      obtain ⟨na0, na1, na2⟩ := na
                      go_wp2
                      go_round
                      case rel => exact ⟨j + 1, by omega, by go_num, by rw [hM, ← na2]; congr 1; split <;> omega⟩
                      case measure => simp [intOf]; omega
                    case neg =>
                      have hf : Sh.fnum (Sh.fadd m1 v) v = v := by simp [Sh.fnum, h1]
                      have hfa : Sh.fadd m1 v = m1 := by simp [Sh.fadd, h1]
                      rw [hf] at d1 e1
                      rw [hfa] at fa2
                      clear hf hfa
                      generalize v.1 = x at d1 h1
                      generalize v.2 = y at e1
                      go_wp2
                      go_round
                      case rel => exact ⟨j + 1, by omega, by go_num, by rw [hM, fa2]⟩
                      case measure => simp [intOf]; omega
                  case neg =>
                    rw [show o.take j = o from List.take_of_length_le (by omega)]
                    go_wp2
                    go_round
                    case rel => exact ⟨k + 1, by omega, by go_num, by rw [hs]⟩
                    case measure => simp [intOf]; omega
              case neg =>
                obtain rfl : k = nl := by omega
                rw [hall2, hal]
                go_wp2
                go_ret
                exact ⟨rfl, b6⟩
end Go.Proofs.Ytbihdkdefopijaa
