/-
  The walk of GraphFields.
-/
import Derived.Test.YtbihdkdefopijaaWf0
namespace Go.Proofs.Ytbihdkdefopijaa
set_option linter.unusedVariables false
set_option linter.unusedSimpArgs false
open Go.ChangeShapes Go.WideShapes Go.ChangeAt Go.RowKit

def z7 : List (Int × Int) := [(0, 0), (0, 0), (0, 0), (0, 0), (0, 0), (0, 0), (0, 0)]
set_option maxRecDepth 100000 in
set_option maxHeartbeats 1600000 in
theorem wGraphFields (ao : Option Addr) (len cap : Nat) (z : Nat → Op9) (w : World) (hl : Came w ao len z) :
    Calls Try.prog 5 #[.slice ao len cap] w fun e w' => e = .returned (.bool true) ∧ Below w.heap.size w w' := by
  go_enter Try.func5, Try.ntmps5
  go_wp2_with (first
    | (go_at_call 9; refine (cShown _).mono ?_; rintro e w1 ⟨rfl, hb1⟩)
    | (go_at_call 10; refine (oNew _ 1 (by decide) (by decide) hb1).mono ?_; rintro e w2 ⟨b, rfl, o2, hb2⟩)
    | (go_at_call 13; have q := o3; refine (oAlloc o3 (by decide) 0 0).mono ?_; rintro e w4 ⟨rfl, o4, hO4⟩; rw [show Gr.allocE (Gr.alloc (Gr.new 1) 0 7) 0 0 = 0 from rfl]; rw [show Gr.alloc (Gr.alloc (Gr.new 1) 0 7) 0 0 = gf z7 from rfl] at o4)
    | (go_at_call 13; refine (oAlloc o2 (by decide) 0 7).mono ?_; rintro e w3 ⟨rfl, o3, hO3⟩; rw [show Gr.allocE (Gr.new 1) 0 7 = 0 from rfl]))
  have v4 : WAt (w4.alloc (.cells #[.int .i64 0, .int .i64 0, .int .i64 0, .int .i64 0, .int .i64 0, .int .i64 0, .int .i64 0, .int .i64 0, .int .i64 0, .int .i64 0, .int .i64 0, .int .i64 0, .int .i64 0, .int .i64 0] 55)) w4.heap.size z7 := heap_alloc_new _ _
  have o5 := o4.alloc (.cells #[.int .i64 0, .int .i64 0, .int .i64 0, .int .i64 0, .int .i64 0, .int .i64 0, .int .i64 0, .int .i64 0, .int .i64 0, .int .i64 0, .int .i64 0, .int .i64 0, .int .i64 0, .int .i64 0] 55)
  have hwb : w.heap.size ≤ w4.heap.size := o4.bel.size
  obtain ⟨wb, hwbe⟩ : ∃ n, n = w4.heap.size := ⟨_, rfl⟩
  rw [← hwbe] at v4 hwb ⊢
  clear hwbe o2 o3 hO3 hO4 hb1 hb2
  go_loopw [7] (fun i wr => ∃ (k : Nat) (o : List (Int × Int)), k ≤ len ∧ k ≤ 40 ∧ i = .int .i64 k ∧ o.length = 7 ∧ Own w wr b (gf o) 2 ∧ WAt wr wb o) (fun i _ => 40 - (intOf i).toNat)
  case atStart => exact ⟨0, z7, Nat.zero_le _, by decide, rfl, rfl, o5, v4⟩
  case round =>
    clear o5 v4 o4
    obtain ⟨k, o, hk, hk40, rfl, ho, o4, v4⟩ := hrel
    obtain ⟨wo, rfl⟩ : ∃ wo : World, wo = wr := ⟨_, rfl⟩
    have k0 : (0 : Int) ≤ (k : Int) := by omega
    by_cases hlt : k < len ∧ k < 40
    case neg =>
      have hd : (decide ((k : Int) < (len : Int)) && decide ((k : Int) < 40)) = false := by simp; omega
      go_wp2
      all_goals
        go_ret
        exact ⟨rfl, o4.bel⟩
    case pos =>
      obtain ⟨hlt, hl40⟩ := hlt
      have kl : (k : Int) < (len : Int) := by omega
      have kl40 : (k : Int) < 40 := by omega
      rcases hl with hl | ⟨lb, off, rfl, hl⟩
      case inl => omega
      case inr =>
        have lf := hl.fit k hlt
        have ops := hl.on o4.bel
        obtain ⟨q, hq⟩ : ∃ q, z k = q := ⟨_, rfl⟩
        have x0 := ops.c0 k hlt
        have x1 := ops.c1 k hlt
        have x2 := ops.c2 k hlt
        have x3 := ops.c3 k hlt
        have x4 := ops.c4 k hlt
        have x5 := ops.c5 k hlt
        have x6 := ops.c6 k hlt
        have x7 := ops.c7 k hlt
        have x8 := ops.c8 k hlt
        rw [hq] at x0 x1 x2 x3 x4 x5 x6 x7 x8 lf
        clear ops hq
        have vq := heap_alloc_new wo (.cells (opv q) 34)
        have v5 : WAt (wo.alloc (.cells (opv q) 34)) wb o := (Below.heap_alloc _ _ _ (lt_of_block v4)).trans v4
        have o5 := o4.alloc (.cells (opv q) 34)
        have bf := kd_bounds q.f 7 (by decide)
        have sm : Small (kd q.a 3, kd q.b 2) := ⟨(kd_bounds q.a 3 (by decide)).1, by have := (kd_bounds q.a 3 (by decide)).2; simp only; omega, (kd_bounds q.b 2 (by decide)).1, by have := (kd_bounds q.b 2 (by decide)).2; simp only; omega⟩
        have um : Small (kd q.c 3, kd q.d 2) := ⟨(kd_bounds q.c 3 (by decide)).1, by have := (kd_bounds q.c 3 (by decide)).2; simp only; omega, (kd_bounds q.d 2 (by decide)).1, by have := (kd_bounds q.d 2 (by decide)).2; simp only; omega⟩
        obtain ⟨fn', hfn⟩ : ∃ n : Nat, kd q.f 7 = n := ⟨(kd q.f 7).toNat, by omega⟩
        have f7 : (fn' : Int) < 7 := by omega
        have f0 : (0 : Int) ≤ (fn' : Int) := by omega
        have hobs : w.heap.size ≤ wo.heap.size := o4.bel.size
        go_wp2_with (go_at_call 12; refine (cKind _ q.f 7 lf.f0 lf.f1 (by decide)).mono ?_; rintro e w9 ⟨rfl, hw9⟩; rw [hw9, hfn]; clear hw9 w9)
        have vqe : (wo.alloc (.cells #[.int .i64 q.k, .int .i64 q.t, .int .i64 q.i, .int .i64 q.f, .int .i64 q.n, .int .i64 q.a, .int .i64 q.b, .int .i64 q.c, .int .i64 q.d] 34)) = wo.alloc (.cells (opv q) 34) := rfl
        rw [vqe]
        obtain ⟨ob, hob⟩ : ∃ n, n = wo.heap.size := ⟨_, rfl⟩
        rw [← hob] at vq hobs ⊢
        obtain ⟨w5, hw5⟩ : ∃ u, u = wo.alloc (.cells (opv q) 34) := ⟨_, rfl⟩
        rw [← hw5] at vq v5 o5 ⊢
        clear hw5 hob vqe x0 x1 x2 x3 x4 x5 x6 x7 x8 v4 o4
        obtain ⟨y0, y1, y2, y3, y4, y5, y6, y7, y8⟩ := opv_cells vq
        have lq := lt_of_block vq
        refine region_cut_set [(55, .pointer (some ⟨ob, 5, none⟩)), (56, .pointer (some ⟨ob, 5, none⟩)), (57, .int .i64 q.a), (58, .int .i64 (kd q.a 3)), (59, .pointer (some ⟨ob, 5, none⟩)), (60, .pointer (some ⟨ob, 6, none⟩)), (61, .int .i64 q.b), (62, .int .i64 (kd q.b 2)), (63, .agg #[.int .i64 (kd q.a 3), .int .i64 (kd q.b 2)]), (10, .pointer (some ⟨w5.heap.size, 0, none⟩))] (w5.alloc (.cells #[.int .i64 (kd q.a 3), .int .i64 (kd q.b 2)] 32)).drew ?hr ?hn
        case hr =>
          simp only [setl, List.setIfInBounds_toArray, List.set_cons_zero, List.set_cons_succ]
          refine wp_region_held_drew (S := fun w' => w'.cell? ⟨ob, 5, none⟩ = some (.int .i64 q.a) ∧ w'.cell? ⟨ob, 6, none⟩ = some (.int .i64 q.b)) (by kernel_rfl) ⟨y5, y6⟩ (fun hHeld => ?_)
          refine takeH (i := 0) 55 (.pointer (some ⟨ob, 5, none⟩)) rfl rfl (by kernel_rfl) (by kernel_rfl) (by kernel_rfl) (fun _ _ _ h => h) (by rfl) ?_ (by assumption) ?_
          · intro w hSw; (try dsimp only at hSw); go_simp
          simp only [List.setIfInBounds_toArray, List.set_cons_zero, List.set_cons_succ]
          refine takeH (i := 1) 56 (.pointer (some ⟨ob, 5, none⟩)) rfl rfl (by kernel_rfl) (by kernel_rfl) (by kernel_rfl) (fun _ _ _ h => h) (by rfl) ?_ (by assumption) ?_
          · intro w hSw; (try dsimp only at hSw); go_simp
          simp only [List.setIfInBounds_toArray, List.set_cons_zero, List.set_cons_succ]
          refine takeH (i := 2) 57 (.int .i64 q.a) rfl rfl (by kernel_rfl) (by kernel_rfl) (by kernel_rfl) (fun _ _ _ h => h) (by rfl) ?_ (by assumption) ?_
          · intro w hSw; (try dsimp only at hSw); go_simp
          simp only [List.setIfInBounds_toArray, List.set_cons_zero, List.set_cons_succ]
          refine takeH (i := 4) 59 (.pointer (some ⟨ob, 5, none⟩)) rfl rfl (by kernel_rfl) (by kernel_rfl) (by kernel_rfl) (fun _ _ _ h => h) (by rfl) ?_ (by assumption) ?_
          · intro w hSw; (try dsimp only at hSw); go_simp
          simp only [List.setIfInBounds_toArray, List.set_cons_zero, List.set_cons_succ]
          refine takeH (i := 5) 60 (.pointer (some ⟨ob, 6, none⟩)) rfl rfl (by kernel_rfl) (by kernel_rfl) (by kernel_rfl) (fun _ _ _ h => h) (by rfl) ?_ (by assumption) ?_
          · intro w hSw; (try dsimp only at hSw); go_simp
          simp only [List.setIfInBounds_toArray, List.set_cons_zero, List.set_cons_succ]
          refine takeH (i := 6) 61 (.int .i64 q.b) rfl rfl (by kernel_rfl) (by kernel_rfl) (by kernel_rfl) (fun _ _ _ h => h) (by rfl) ?_ (by assumption) ?_
          · intro w hSw; (try dsimp only at hSw); go_simp
          simp only [List.setIfInBounds_toArray, List.set_cons_zero, List.set_cons_succ]
          refine wpAnyH_ready (rs := [3, 9]) (by kernel_rfl) (by simp) ?_
          refine AllReadyH.cons rfl (fun K hK => ?_) (AllReadyH.cons rfl (fun K hK => ?_) AllReadyH.nil)
          · go_simp
            refine (cKind _ q.a 3 lf.a0 lf.a1 (by decide)).mono ?_; rintro e w9 ⟨rfl, hw9⟩; rw [hw9]; clear hw9 w9
            refine hK.out _ _ hHeld (fun hHeld => ?_)
            clear hK K
            try simp only [Act.put, List.setIfInBounds_toArray, List.set_cons_zero, List.set_cons_succ]
            refine wpAnyH_ready (rs := [7, 9]) (by kernel_rfl) (by simp) ?_
            refine AllReadyH.cons rfl (fun K hK => ?_) (AllReadyH.cons rfl (fun K hK => ?_) AllReadyH.nil)
            · go_simp
              refine (cKind _ q.b 2 lf.b0 lf.b1 (by decide)).mono ?_; rintro e w9 ⟨rfl, hw9⟩; rw [hw9]; clear hw9 w9
              refine hK.out _ _ hHeld (fun hHeld => ?_)
              clear hK K
              try simp only [Act.put, List.setIfInBounds_toArray, List.set_cons_zero, List.set_cons_succ]
              refine takeH (i := 8) 63 (.agg #[.int .i64 (kd q.a 3), .int .i64 (kd q.b 2)]) rfl rfl (by kernel_rfl) (by kernel_rfl) (by kernel_rfl) (fun _ _ _ h => h) (by rfl) ?_ (by assumption) ?_
              · intro w hSw; (try dsimp only at hSw); go_simp
              simp only [List.setIfInBounds_toArray, List.set_cons_zero, List.set_cons_succ]
              refine wpAnyH_ready (rs := [9]) (by kernel_rfl) (by simp) ?_
              refine AllReadyH.cons rfl (fun K hK => ?_) AllReadyH.nil
              go_simp
              refine hK.out _ _ ⟨((bal (Below.refl w5.heap.size w5) _).drew.cell lq).trans y5, ((bal (Below.refl w5.heap.size w5) _).drew.cell lq).trans y6⟩ (fun hHeld => ?_)
              clear hK K
              try simp only [Act.put, List.setIfInBounds_toArray, List.set_cons_zero, List.set_cons_succ]
              refine wpAnyH_ready (rs := [10]) (by kernel_rfl) (by simp) ?_
              refine AllReadyH.cons rfl (fun K hK => ?_) AllReadyH.nil
              go_simp
              refine hK.out _ _ ⟨((bal (Below.refl w5.heap.size w5) _).drew.cell lq).trans y5, ((bal (Below.refl w5.heap.size w5) _).drew.cell lq).trans y6⟩ (fun hHeld => ?_)
              clear hK K
              try simp only [Act.put, List.setIfInBounds_toArray, List.set_cons_zero, List.set_cons_succ]
              refine wpAnyH_done (by kernel_rfl) ?_ _
              exact ⟨rfl, rfl⟩
            · go_simp
              refine hK.out _ _ ⟨((bal (Below.refl w5.heap.size w5) _).drew.cell lq).trans y5, ((bal (Below.refl w5.heap.size w5) _).drew.cell lq).trans y6⟩ (fun hHeld => ?_)
              clear hK K
              try simp only [Act.put, List.setIfInBounds_toArray, List.set_cons_zero, List.set_cons_succ]
              refine wpAnyH_ready (rs := [7]) (by kernel_rfl) (by simp) ?_
              refine AllReadyH.cons rfl (fun K hK => ?_) AllReadyH.nil
              go_simp
              refine (cKind _ q.b 2 lf.b0 lf.b1 (by decide)).mono ?_; rintro e w9 ⟨rfl, hw9⟩; rw [hw9]; clear hw9 w9
              refine hK.out _ _ hHeld (fun hHeld => ?_)
              clear hK K
              try simp only [Act.put, List.setIfInBounds_toArray, List.set_cons_zero, List.set_cons_succ]
              refine takeH (i := 8) 63 (.agg #[.int .i64 (kd q.a 3), .int .i64 (kd q.b 2)]) rfl rfl (by kernel_rfl) (by kernel_rfl) (by kernel_rfl) (fun _ _ _ h => h) (by rfl) ?_ (by assumption) ?_
              · intro w hSw; (try dsimp only at hSw); go_simp
              simp only [List.setIfInBounds_toArray, List.set_cons_zero, List.set_cons_succ]
              refine wpAnyH_ready (rs := [10]) (by kernel_rfl) (by simp) ?_
              refine AllReadyH.cons rfl (fun K hK => ?_) AllReadyH.nil
              go_simp
              refine hK.out _ _ ⟨((bal (Below.refl w5.heap.size w5) _).drew.cell lq).trans y5, ((bal (Below.refl w5.heap.size w5) _).drew.cell lq).trans y6⟩ (fun hHeld => ?_)
              clear hK K
              try simp only [Act.put, List.setIfInBounds_toArray, List.set_cons_zero, List.set_cons_succ]
              refine wpAnyH_done (by kernel_rfl) ?_ _
              exact ⟨rfl, rfl⟩
          · go_simp
            refine hK.out _ _ ⟨((bal (Below.refl w5.heap.size w5) _).drew.cell lq).trans y5, ((bal (Below.refl w5.heap.size w5) _).drew.cell lq).trans y6⟩ (fun hHeld => ?_)
            clear hK K
            try simp only [Act.put, List.setIfInBounds_toArray, List.set_cons_zero, List.set_cons_succ]
            refine wpAnyH_ready (rs := [3]) (by kernel_rfl) (by simp) ?_
            refine AllReadyH.cons rfl (fun K hK => ?_) AllReadyH.nil
            go_simp
            refine (cKind _ q.a 3 lf.a0 lf.a1 (by decide)).mono ?_; rintro e w9 ⟨rfl, hw9⟩; rw [hw9]; clear hw9 w9
            refine hK.out _ _ hHeld (fun hHeld => ?_)
            clear hK K
            try simp only [Act.put, List.setIfInBounds_toArray, List.set_cons_zero, List.set_cons_succ]
            refine wpAnyH_ready (rs := [7]) (by kernel_rfl) (by simp) ?_
            refine AllReadyH.cons rfl (fun K hK => ?_) AllReadyH.nil
            go_simp
            refine (cKind _ q.b 2 lf.b0 lf.b1 (by decide)).mono ?_; rintro e w9 ⟨rfl, hw9⟩; rw [hw9]; clear hw9 w9
            refine hK.out _ _ hHeld (fun hHeld => ?_)
            clear hK K
            try simp only [Act.put, List.setIfInBounds_toArray, List.set_cons_zero, List.set_cons_succ]
            refine takeH (i := 8) 63 (.agg #[.int .i64 (kd q.a 3), .int .i64 (kd q.b 2)]) rfl rfl (by kernel_rfl) (by kernel_rfl) (by kernel_rfl) (fun _ _ _ h => h) (by rfl) ?_ (by assumption) ?_
            · intro w hSw; (try dsimp only at hSw); go_simp
            simp only [List.setIfInBounds_toArray, List.set_cons_zero, List.set_cons_succ]
            refine wpAnyH_ready (rs := [10]) (by kernel_rfl) (by simp) ?_
            refine AllReadyH.cons rfl (fun K hK => ?_) AllReadyH.nil
            go_simp
            refine hK.out _ _ ⟨((bal (Below.refl w5.heap.size w5) _).drew.cell lq).trans y5, ((bal (Below.refl w5.heap.size w5) _).drew.cell lq).trans y6⟩ (fun hHeld => ?_)
            clear hK K
            try simp only [Act.put, List.setIfInBounds_toArray, List.set_cons_zero, List.set_cons_succ]
            refine wpAnyH_done (by kernel_rfl) ?_ _
            exact ⟨rfl, rfl⟩
        case hn =>
          simp only [setl, List.setIfInBounds_toArray, List.set_cons_zero, List.set_cons_succ]
          have o6 := (o5.alloc (.cells #[.int .i64 (kd q.a 3), .int .i64 (kd q.b 2)] 32)).drew
          have B6 : Below w5.heap.size w5 (w5.alloc (.cells #[.int .i64 (kd q.a 3), .int .i64 (kd q.b 2)] 32)).drew := (bal (Below.refl w5.heap.size w5) (.cells #[.int .i64 (kd q.a 3), .int .i64 (kd q.b 2)] 32)).drew
          have v6 : WAt (w5.alloc (.cells #[.int .i64 (kd q.a 3), .int .i64 (kd q.b 2)] 32)).drew wb o := (B6.block wb (lt_of_block v5)).trans v5
          have vq6 := (B6.block ob lq).trans vq
          have t6 : (w5.alloc (.cells #[.int .i64 (kd q.a 3), .int .i64 (kd q.b 2)] 32)).drew.heap[w5.heap.size]? = some (.cells #[.int .i64 (kd q.a 3), .int .i64 (kd q.b 2)] 32 (0, 0)) := heap_alloc_new w5 _
          obtain ⟨s1, hs1⟩ : ∃ n, n = w5.heap.size := ⟨_, rfl⟩
          obtain ⟨w6, hw6⟩ : ∃ u, u = (w5.alloc (.cells #[.int .i64 (kd q.a 3), .int .i64 (kd q.b 2)] 32)).drew := ⟨_, rfl⟩
          rw [← hw6] at o6 v6 vq6 t6 ⊢
          rw [← hs1] at t6 ⊢
          clear hw6 hs1 B6 o5 v5 vq y0 y1 y2 y3 y4 y5 y6 y7 y8 lq
          obtain ⟨y0, y1, y2, y3, y4, y5, y6, y7, y8⟩ := opv_cells vq6
          have lq := lt_of_block vq6
          go_wp2
          refine region_cut_set [(64, .pointer (some ⟨ob, 7, none⟩)), (65, .pointer (some ⟨ob, 7, none⟩)), (66, .int .i64 q.c), (67, .int .i64 (kd q.c 3)), (68, .pointer (some ⟨ob, 7, none⟩)), (69, .pointer (some ⟨ob, 8, none⟩)), (70, .int .i64 q.d), (71, .int .i64 (kd q.d 2)), (72, .agg #[.int .i64 (kd q.c 3), .int .i64 (kd q.d 2)]), (11, .pointer (some ⟨w6.heap.size, 0, none⟩))] (w6.alloc (.cells #[.int .i64 (kd q.c 3), .int .i64 (kd q.d 2)] 32)).drew ?hr ?hn
          case hr =>
            simp only [setl, List.setIfInBounds_toArray, List.set_cons_zero, List.set_cons_succ]
            refine wp_region_held_drew (S := fun w' => w'.cell? ⟨ob, 7, none⟩ = some (.int .i64 q.c) ∧ w'.cell? ⟨ob, 8, none⟩ = some (.int .i64 q.d)) (by kernel_rfl) ⟨y7, y8⟩ (fun hHeld => ?_)
            refine takeH (i := 0) 64 (.pointer (some ⟨ob, 7, none⟩)) rfl rfl (by kernel_rfl) (by kernel_rfl) (by kernel_rfl) (fun _ _ _ h => h) (by rfl) ?_ (by assumption) ?_
            · intro w hSw; (try dsimp only at hSw); go_simp
            simp only [List.setIfInBounds_toArray, List.set_cons_zero, List.set_cons_succ]
            refine takeH (i := 1) 65 (.pointer (some ⟨ob, 7, none⟩)) rfl rfl (by kernel_rfl) (by kernel_rfl) (by kernel_rfl) (fun _ _ _ h => h) (by rfl) ?_ (by assumption) ?_
            · intro w hSw; (try dsimp only at hSw); go_simp
            simp only [List.setIfInBounds_toArray, List.set_cons_zero, List.set_cons_succ]
            refine takeH (i := 2) 66 (.int .i64 q.c) rfl rfl (by kernel_rfl) (by kernel_rfl) (by kernel_rfl) (fun _ _ _ h => h) (by rfl) ?_ (by assumption) ?_
            · intro w hSw; (try dsimp only at hSw); go_simp
            simp only [List.setIfInBounds_toArray, List.set_cons_zero, List.set_cons_succ]
            refine takeH (i := 4) 68 (.pointer (some ⟨ob, 7, none⟩)) rfl rfl (by kernel_rfl) (by kernel_rfl) (by kernel_rfl) (fun _ _ _ h => h) (by rfl) ?_ (by assumption) ?_
            · intro w hSw; (try dsimp only at hSw); go_simp
            simp only [List.setIfInBounds_toArray, List.set_cons_zero, List.set_cons_succ]
            refine takeH (i := 5) 69 (.pointer (some ⟨ob, 8, none⟩)) rfl rfl (by kernel_rfl) (by kernel_rfl) (by kernel_rfl) (fun _ _ _ h => h) (by rfl) ?_ (by assumption) ?_
            · intro w hSw; (try dsimp only at hSw); go_simp
            simp only [List.setIfInBounds_toArray, List.set_cons_zero, List.set_cons_succ]
            refine takeH (i := 6) 70 (.int .i64 q.d) rfl rfl (by kernel_rfl) (by kernel_rfl) (by kernel_rfl) (fun _ _ _ h => h) (by rfl) ?_ (by assumption) ?_
            · intro w hSw; (try dsimp only at hSw); go_simp
            simp only [List.setIfInBounds_toArray, List.set_cons_zero, List.set_cons_succ]
            refine wpAnyH_ready (rs := [3, 9]) (by kernel_rfl) (by simp) ?_
            refine AllReadyH.cons rfl (fun K hK => ?_) (AllReadyH.cons rfl (fun K hK => ?_) AllReadyH.nil)
            · go_simp
              refine (cKind _ q.c 3 lf.c0 lf.c1 (by decide)).mono ?_; rintro e w9 ⟨rfl, hw9⟩; rw [hw9]; clear hw9 w9
              refine hK.out _ _ hHeld (fun hHeld => ?_)
              clear hK K
              try simp only [Act.put, List.setIfInBounds_toArray, List.set_cons_zero, List.set_cons_succ]
              refine wpAnyH_ready (rs := [7, 9]) (by kernel_rfl) (by simp) ?_
              refine AllReadyH.cons rfl (fun K hK => ?_) (AllReadyH.cons rfl (fun K hK => ?_) AllReadyH.nil)
              · go_simp
                refine (cKind _ q.d 2 lf.d0 lf.d1 (by decide)).mono ?_; rintro e w9 ⟨rfl, hw9⟩; rw [hw9]; clear hw9 w9
                refine hK.out _ _ hHeld (fun hHeld => ?_)
                clear hK K
                try simp only [Act.put, List.setIfInBounds_toArray, List.set_cons_zero, List.set_cons_succ]
                refine takeH (i := 8) 72 (.agg #[.int .i64 (kd q.c 3), .int .i64 (kd q.d 2)]) rfl rfl (by kernel_rfl) (by kernel_rfl) (by kernel_rfl) (fun _ _ _ h => h) (by rfl) ?_ (by assumption) ?_
                · intro w hSw; (try dsimp only at hSw); go_simp
                simp only [List.setIfInBounds_toArray, List.set_cons_zero, List.set_cons_succ]
                refine wpAnyH_ready (rs := [9]) (by kernel_rfl) (by simp) ?_
                refine AllReadyH.cons rfl (fun K hK => ?_) AllReadyH.nil
                go_simp
                refine hK.out _ _ ⟨((bal (Below.refl w6.heap.size w6) _).drew.cell lq).trans y7, ((bal (Below.refl w6.heap.size w6) _).drew.cell lq).trans y8⟩ (fun hHeld => ?_)
                clear hK K
                try simp only [Act.put, List.setIfInBounds_toArray, List.set_cons_zero, List.set_cons_succ]
                refine wpAnyH_ready (rs := [10]) (by kernel_rfl) (by simp) ?_
                refine AllReadyH.cons rfl (fun K hK => ?_) AllReadyH.nil
                go_simp
                refine hK.out _ _ ⟨((bal (Below.refl w6.heap.size w6) _).drew.cell lq).trans y7, ((bal (Below.refl w6.heap.size w6) _).drew.cell lq).trans y8⟩ (fun hHeld => ?_)
                clear hK K
                try simp only [Act.put, List.setIfInBounds_toArray, List.set_cons_zero, List.set_cons_succ]
                refine wpAnyH_done (by kernel_rfl) ?_ _
                exact ⟨rfl, rfl⟩
              · go_simp
                refine hK.out _ _ ⟨((bal (Below.refl w6.heap.size w6) _).drew.cell lq).trans y7, ((bal (Below.refl w6.heap.size w6) _).drew.cell lq).trans y8⟩ (fun hHeld => ?_)
                clear hK K
                try simp only [Act.put, List.setIfInBounds_toArray, List.set_cons_zero, List.set_cons_succ]
                refine wpAnyH_ready (rs := [7]) (by kernel_rfl) (by simp) ?_
                refine AllReadyH.cons rfl (fun K hK => ?_) AllReadyH.nil
                go_simp
                refine (cKind _ q.d 2 lf.d0 lf.d1 (by decide)).mono ?_; rintro e w9 ⟨rfl, hw9⟩; rw [hw9]; clear hw9 w9
                refine hK.out _ _ hHeld (fun hHeld => ?_)
                clear hK K
                try simp only [Act.put, List.setIfInBounds_toArray, List.set_cons_zero, List.set_cons_succ]
                refine takeH (i := 8) 72 (.agg #[.int .i64 (kd q.c 3), .int .i64 (kd q.d 2)]) rfl rfl (by kernel_rfl) (by kernel_rfl) (by kernel_rfl) (fun _ _ _ h => h) (by rfl) ?_ (by assumption) ?_
                · intro w hSw; (try dsimp only at hSw); go_simp
                simp only [List.setIfInBounds_toArray, List.set_cons_zero, List.set_cons_succ]
                refine wpAnyH_ready (rs := [10]) (by kernel_rfl) (by simp) ?_
                refine AllReadyH.cons rfl (fun K hK => ?_) AllReadyH.nil
                go_simp
                refine hK.out _ _ ⟨((bal (Below.refl w6.heap.size w6) _).drew.cell lq).trans y7, ((bal (Below.refl w6.heap.size w6) _).drew.cell lq).trans y8⟩ (fun hHeld => ?_)
                clear hK K
                try simp only [Act.put, List.setIfInBounds_toArray, List.set_cons_zero, List.set_cons_succ]
                refine wpAnyH_done (by kernel_rfl) ?_ _
                exact ⟨rfl, rfl⟩
            · go_simp
              refine hK.out _ _ ⟨((bal (Below.refl w6.heap.size w6) _).drew.cell lq).trans y7, ((bal (Below.refl w6.heap.size w6) _).drew.cell lq).trans y8⟩ (fun hHeld => ?_)
              clear hK K
              try simp only [Act.put, List.setIfInBounds_toArray, List.set_cons_zero, List.set_cons_succ]
              refine wpAnyH_ready (rs := [3]) (by kernel_rfl) (by simp) ?_
              refine AllReadyH.cons rfl (fun K hK => ?_) AllReadyH.nil
              go_simp
              refine (cKind _ q.c 3 lf.c0 lf.c1 (by decide)).mono ?_; rintro e w9 ⟨rfl, hw9⟩; rw [hw9]; clear hw9 w9
              refine hK.out _ _ hHeld (fun hHeld => ?_)
              clear hK K
              try simp only [Act.put, List.setIfInBounds_toArray, List.set_cons_zero, List.set_cons_succ]
              refine wpAnyH_ready (rs := [7]) (by kernel_rfl) (by simp) ?_
              refine AllReadyH.cons rfl (fun K hK => ?_) AllReadyH.nil
              go_simp
              refine (cKind _ q.d 2 lf.d0 lf.d1 (by decide)).mono ?_; rintro e w9 ⟨rfl, hw9⟩; rw [hw9]; clear hw9 w9
              refine hK.out _ _ hHeld (fun hHeld => ?_)
              clear hK K
              try simp only [Act.put, List.setIfInBounds_toArray, List.set_cons_zero, List.set_cons_succ]
              refine takeH (i := 8) 72 (.agg #[.int .i64 (kd q.c 3), .int .i64 (kd q.d 2)]) rfl rfl (by kernel_rfl) (by kernel_rfl) (by kernel_rfl) (fun _ _ _ h => h) (by rfl) ?_ (by assumption) ?_
              · intro w hSw; (try dsimp only at hSw); go_simp
              simp only [List.setIfInBounds_toArray, List.set_cons_zero, List.set_cons_succ]
              refine wpAnyH_ready (rs := [10]) (by kernel_rfl) (by simp) ?_
              refine AllReadyH.cons rfl (fun K hK => ?_) AllReadyH.nil
              go_simp
              refine hK.out _ _ ⟨((bal (Below.refl w6.heap.size w6) _).drew.cell lq).trans y7, ((bal (Below.refl w6.heap.size w6) _).drew.cell lq).trans y8⟩ (fun hHeld => ?_)
              clear hK K
              try simp only [Act.put, List.setIfInBounds_toArray, List.set_cons_zero, List.set_cons_succ]
              refine wpAnyH_done (by kernel_rfl) ?_ _
              exact ⟨rfl, rfl⟩
          case hn =>
            simp only [setl, List.setIfInBounds_toArray, List.set_cons_zero, List.set_cons_succ]
            have o7 := (o6.alloc (.cells #[.int .i64 (kd q.c 3), .int .i64 (kd q.d 2)] 32)).drew
            have B7 : Below w6.heap.size w6 (w6.alloc (.cells #[.int .i64 (kd q.c 3), .int .i64 (kd q.d 2)] 32)).drew := (bal (Below.refl w6.heap.size w6) (.cells #[.int .i64 (kd q.c 3), .int .i64 (kd q.d 2)] 32)).drew
            have v7 : WAt (w6.alloc (.cells #[.int .i64 (kd q.c 3), .int .i64 (kd q.d 2)] 32)).drew wb o := (B7.block wb (lt_of_block v6)).trans v6
            have vq7 := (B7.block ob lq).trans vq6
            have t7 := (B7.block s1 (lt_of_block t6)).trans t6
            have r7 : (w6.alloc (.cells #[.int .i64 (kd q.c 3), .int .i64 (kd q.d 2)] 32)).drew.heap[w6.heap.size]? = some (.cells #[.int .i64 (kd q.c 3), .int .i64 (kd q.d 2)] 32 (0, 0)) := heap_alloc_new w6 _
            obtain ⟨s2, hs2⟩ : ∃ n, n = w6.heap.size := ⟨_, rfl⟩
            obtain ⟨w7, hw7⟩ : ∃ u, u = (w6.alloc (.cells #[.int .i64 (kd q.c 3), .int .i64 (kd q.d 2)] 32)).drew := ⟨_, rfl⟩
            rw [← hw7] at o7 v7 vq7 t7 r7 ⊢
            rw [← hs2] at r7 ⊢
            clear hw7 hs2 B7 o6 v6 vq6 t6 y0 y1 y2 y3 y4 y5 y6 y7 y8 lq
            have c7 : w7.cell? ⟨s1, 0, none⟩ = some (.int .i64 (kd q.a 3)) := by rw [cell_of_row w7 _ _ _ _ _ t7]; rfl
            have d7 : w7.cell? ⟨s1, 1, none⟩ = some (.int .i64 (kd q.b 2)) := by rw [cell_of_row w7 _ _ _ _ _ t7]; rfl
            have NS := cNm w7 (kd q.a 3) (kd q.b 2) sm
            have NU := fun u => cNm u (kd q.c 3) (kd q.d 2) um
            obtain ⟨⟨x, y⟩, hxy⟩ : ∃ v : Int × Int, nm (kd q.a 3, kd q.b 2) = v := ⟨_, rfl⟩
            obtain ⟨⟨x', y'⟩, hxy'⟩ : ∃ v : Int × Int, nm (kd q.c 3, kd q.d 2) = v := ⟨_, rfl⟩
            have hW := gf_write o ho f0 f7 sm
            have hS := gf_swap o ho f0 f7 sm um
            rw [hxy] at NS hW hS
            rw [hxy'] at hS
            simp only [hxy'] at NU
            simp only [Int.toNat_natCast] at hW hS
            have fl7 : fn' < o.length := by omega
            have bk := kd_bounds q.k 2 (by decide)
            obtain ⟨k1, k2, hk1, hk2⟩ : ∃ k1 k2, kd q.a 3 = k1 ∧ kd q.b 2 = k2 := ⟨_, _, rfl, rfl⟩
            obtain ⟨k3, k4, hk3, hk4⟩ : ∃ k3 k4, kd q.c 3 = k3 ∧ kd q.d 2 = k4 := ⟨_, _, rfl, rfl⟩
            rw [hk1, hk2] at NS hW hS
            rw [hk1] at c7
            rw [hk2] at d7
            simp only [hk3, hk4] at NU hS
            rw [hk1, hk2] at t7
            rw [hk3, hk4] at r7
            rw [hk1, hk2, hk3, hk4]
            clear hk1 hk2 hk3 hk4 hxy hxy' sm um
            have hways : kd q.k 2 = 0 ∨ kd q.k 2 = 1 := by omega
            clear bk
            rcases hways with hK | hK
            · go_wp2_with (first
                | (go_at_call 12; refine (cKind _ q.k 2 lf.k0 lf.k1 (by decide)).mono ?_; rintro e w99 ⟨rfl, hw99⟩; rw [hw99, hK]; clear hw99 w99)
                | (go_at_call 33; refine NS.mono ?_; rintro e w8 ⟨rfl, h8⟩; have o8 := o7.below h8; have v8 : WAt w8 wb o := (h8.block wb (lt_of_block v7)).trans v7; have vq8 := (h8.block ob (lt_of_block vq7)).trans vq7; have t8 := (h8.block s1 (lt_of_block t7)).trans t7; have r8 := (h8.block s2 (lt_of_block r7)).trans r7; have l8 : wb < w8.heap.size := lt_of_block v8; have lq8 : ob < w8.heap.size := lt_of_block vq8; have ls8 : s1 < w8.heap.size := lt_of_block t8; have lr8 : s2 < w8.heap.size := lt_of_block r8; have a8 : w8.cell? ⟨ob, 0, none⟩ = some (.int .i64 q.k) := (opv_cells vq8).1; have c8 : w8.cell? ⟨s1, 0, none⟩ = some (.int .i64 k1) := (by rw [cell_of_row w8 _ _ _ _ _ t8]; rfl); have d8 : w8.cell? ⟨s1, 1, none⟩ = some (.int .i64 k2) := (by rw [cell_of_row w8 _ _ _ _ _ t8]; rfl); have c8' : w8.cell? ⟨s2, 0, none⟩ = some (.int .i64 k3) := (by rw [cell_of_row w8 _ _ _ _ _ r8]; rfl); have d8' : w8.cell? ⟨s2, 1, none⟩ = some (.int .i64 k4) := (by rw [cell_of_row w8 _ _ _ _ _ r8]; rfl); have v8a : WAt (w8.alloc (.cells #[.int .i64 x, .int .i64 y] 37)) wb o := (Below.heap_alloc _ _ _ l8).trans v8; have u8a := heap_alloc_new w8 (.cells #[.int .i64 x, .int .i64 y] 37); have r8a := (Below.heap_alloc w8 (.cells #[.int .i64 x, .int .i64 y] 37) s2 lr8).trans r8)
                | (go_at_call 19; refine (oWrite (o8.alloc _) 0 0 fn' k1 k2).mono ?_; rintro e w9 ⟨rfl, o9, hO9⟩; rw [hW.1]; rw [hW.2] at o9; have v9 : WAt w9 wb o := hO9 _ _ _ _ (by decide) v8a; have u9 := hO9 _ _ _ _ (by decide) u8a; have lv9 : w.heap.size ≤ wb := hwb; have e9 : w9.cell? ⟨w8.heap.size, 0, none⟩ = some (.int .i64 x) := (by rw [cell_of_row w9 _ _ _ _ _ u9]; rfl); have g9 : w9.cell? ⟨w8.heap.size, 1, none⟩ = some (.int .i64 y) := (by rw [cell_of_row w9 _ _ _ _ _ u9]; rfl); have c9 := v9.cells fn' fl7; obtain ⟨z0, hz0⟩ : ∃ z, w9.cell? ⟨wb, fn' * 2, none⟩ = some z := ⟨_, c9.1⟩; obtain ⟨z1, hz1⟩ : ∃ z, w9.cell? ⟨wb, fn' * 2 + 1, none⟩ = some z := ⟨_, c9.2⟩; have f9 := v9.free; clear c9))
              have o6 := own_set2 o9 v9 hwb fn' x y
              have v6 := v9.set fn' fl7 x y
              clear o9 v9 hO9 u9 e9 g9 hz0 hz1 f9
              obtain ⟨o', ho', hO'⟩ : ∃ o' : List (Int × Int), o'.length = 7 ∧ o.set fn' (x, y) = o' := ⟨_, by simp [ho], rfl⟩
              rw [hO'] at o6 v6
              go_loopw [15] (fun i wr => ∃ j : Nat, j ≤ 7 ∧ i = .int .i64 j ∧ Own w wr b (gf o') 2 ∧ WAt wr wb o') (fun i _ => 7 - (intOf i).toNat)
              case atStart => exact ⟨0, by decide, rfl, o6, v6⟩
              case round =>
                clear o6 v6
                obtain ⟨j, hj, rfl, o6, v6⟩ := hrel
                obtain ⟨wp, rfl⟩ : ∃ wp : World, wp = wr := ⟨_, rfl⟩
                have j0 : (0 : Int) ≤ (j : Int) := by omega
                by_cases hjl : j < 7
                case pos =>
                  have jl : (j : Int) < 7 := by omega
                  have hL := gf_look o' ho' j0 jl
                  have hL2 : (gf o').lookV 0 0 j = o'.getD j (0, 0) := hL.2
                  obtain ⟨⟨x, y⟩, hxy⟩ : ∃ v : Int × Int, o'.getD j (0, 0) = v := ⟨_, rfl⟩
                  rw [hxy] at hL2
                  have hN := neqV (x, y) (x, y) true (by simp)
                  go_wp2_with (go_at_call 15; refine (oLook o6 0 0 j).mono ?_; rintro e w8 ⟨rfl, o8, h8⟩; rw [hL.1, hL2]; have v8 : WAt w8 wb o' := (h8.block wb (lt_of_block v6)).trans v6; have l8 : wb < w8.heap.size := lt_of_block v8; have c8 := v8.cells j (by omega); rw [hxy] at c8; obtain ⟨c8, d8⟩ := c8)
                  go_quiet (fail)
                  go_wp2
                  go_roundw
                  case rel => exact ⟨j + 1, by omega, by go_num, (o8.alloc _).drewN _, (Below.heap_alloc _ _ _ l8).trans v8⟩
                  case measure => simp [intOf]; omega
                case neg =>
                  go_wp2
                  go_roundw
                  case rel => exact ⟨k + 1, o', by omega, by omega, by go_num, ho', o6, v6⟩
                  case measure => simp [intOf]; omega
            · have hE := eqVb (o.getD fn' (0, 0)) (x, y) _ rfl
              by_cases hfl : o.getD fn' (0, 0) = (x, y)
              · rw [if_pos hfl] at hS
                have hd : decide (o.getD fn' (0, 0) = (x, y)) = true := decide_eq_true hfl
                rw [hd] at hS hE
                obtain ⟨⟨p, p'⟩, hp⟩ : ∃ v : Int × Int, o.getD fn' (0, 0) = v := ⟨_, rfl⟩
                rw [hp] at hE
                clear hd hfl
                go_wp2_with (first
                  | (go_at_call 12; refine (cKind _ q.k 2 lf.k0 lf.k1 (by decide)).mono ?_; rintro e w99 ⟨rfl, hw99⟩; rw [hw99, hK]; clear hw99 w99)
                  | (go_at_call 33; refine NS.mono ?_; rintro e w8 ⟨rfl, h8⟩; have o8 := o7.below h8; have v8 : WAt w8 wb o := (h8.block wb (lt_of_block v7)).trans v7; have vq8 := (h8.block ob (lt_of_block vq7)).trans vq7; have t8 := (h8.block s1 (lt_of_block t7)).trans t7; have r8 := (h8.block s2 (lt_of_block r7)).trans r7; have l8 : wb < w8.heap.size := lt_of_block v8; have lq8 : ob < w8.heap.size := lt_of_block vq8; have ls8 : s1 < w8.heap.size := lt_of_block t8; have lr8 : s2 < w8.heap.size := lt_of_block r8; have a8 : w8.cell? ⟨ob, 0, none⟩ = some (.int .i64 q.k) := (opv_cells vq8).1; have c8 : w8.cell? ⟨s1, 0, none⟩ = some (.int .i64 k1) := (by rw [cell_of_row w8 _ _ _ _ _ t8]; rfl); have d8 : w8.cell? ⟨s1, 1, none⟩ = some (.int .i64 k2) := (by rw [cell_of_row w8 _ _ _ _ _ t8]; rfl); have c8' : w8.cell? ⟨s2, 0, none⟩ = some (.int .i64 k3) := (by rw [cell_of_row w8 _ _ _ _ _ r8]; rfl); have d8' : w8.cell? ⟨s2, 1, none⟩ = some (.int .i64 k4) := (by rw [cell_of_row w8 _ _ _ _ _ r8]; rfl); have v8a : WAt (w8.alloc (.cells #[.int .i64 x, .int .i64 y] 37)) wb o := (Below.heap_alloc _ _ _ l8).trans v8; have u8a := heap_alloc_new w8 (.cells #[.int .i64 x, .int .i64 y] 37); have r8a := (Below.heap_alloc w8 (.cells #[.int .i64 x, .int .i64 y] 37) s2 lr8).trans r8)
                  | (go_at_call 21; refine (oSwap (o8.alloc _) 0 0 fn' k1 k2 k3 k4).mono ?_; rintro e w9 ⟨rfl, o9, hO9⟩; rw [hS.1, hS.2.1]; rw [hS.2.2] at o9; have v9 : WAt w9 wb o := hO9 _ _ _ _ (by decide) v8a; have u9 := hO9 _ _ _ _ (by decide) u8a; have r9 := hO9 _ _ _ _ (by decide) r8a; have e9 : w9.cell? ⟨w8.heap.size, 0, none⟩ = some (.int .i64 x) := (by rw [cell_of_row w9 _ _ _ _ _ u9]; rfl); have g9 : w9.cell? ⟨w8.heap.size, 1, none⟩ = some (.int .i64 y) := (by rw [cell_of_row w9 _ _ _ _ _ u9]; rfl); have c9 := v9.cells fn' fl7; rw [hp] at c9; obtain ⟨c9, d9⟩ := c9; have i9 : w9.cell? ⟨s2, 0, none⟩ = some (.int .i64 k3) := (by rw [cell_of_row w9 _ _ _ _ _ r9]; rfl); have j9 : w9.cell? ⟨s2, 1, none⟩ = some (.int .i64 k4) := (by rw [cell_of_row w9 _ _ _ _ _ r9]; rfl)))
                go_quiet (fail)
                have o10 := o9.drewN nq
                go_wp2_with (go_at_call 33; refine (NU _).mono ?_; rintro e w10 ⟨rfl, h10⟩; have v10 : WAt w10 wb o := (h10.block wb (lt_of_block v9)).trans v9; have o11 := o10.below h10; have c10 := v10.cells fn' fl7; obtain ⟨z0, hz0⟩ : ∃ z, w10.cell? ⟨wb, fn' * 2, none⟩ = some z := ⟨_, c10.1⟩; obtain ⟨z1, hz1⟩ : ∃ z, w10.cell? ⟨wb, fn' * 2 + 1, none⟩ = some z := ⟨_, c10.2⟩; have f10 := v10.free; clear c10)
                have o6 := own_set2 o11 v10 hwb fn' x' y'
                have v6 := v10.set fn' fl7 x' y'
                clear o9 v9 hO9 o10 o11 v10 h10 hz0 hz1 f10
                obtain ⟨o', ho', hO'⟩ : ∃ o' : List (Int × Int), o'.length = 7 ∧ o.set fn' (x', y') = o' := ⟨_, by simp [ho], rfl⟩
                rw [hO'] at o6 v6
                go_loopw [15] (fun i wr => ∃ j : Nat, j ≤ 7 ∧ i = .int .i64 j ∧ Own w wr b (gf o') 2 ∧ WAt wr wb o') (fun i _ => 7 - (intOf i).toNat)
                case atStart => exact ⟨0, by decide, rfl, o6, v6⟩
                case round =>
                  clear o6 v6
                  obtain ⟨j, hj, rfl, o6, v6⟩ := hrel
                  obtain ⟨wp, rfl⟩ : ∃ wp : World, wp = wr := ⟨_, rfl⟩
                  have j0 : (0 : Int) ≤ (j : Int) := by omega
                  by_cases hjl : j < 7
                  case pos =>
                    have jl : (j : Int) < 7 := by omega
                    have hL := gf_look o' ho' j0 jl
                    have hL2 : (gf o').lookV 0 0 j = o'.getD j (0, 0) := hL.2
                    obtain ⟨⟨x, y⟩, hxy⟩ : ∃ v : Int × Int, o'.getD j (0, 0) = v := ⟨_, rfl⟩
                    rw [hxy] at hL2
                    have hN := neqV (x, y) (x, y) true (by simp)
                    go_wp2_with (go_at_call 15; refine (oLook o6 0 0 j).mono ?_; rintro e w8 ⟨rfl, o8, h8⟩; rw [hL.1, hL2]; have v8 : WAt w8 wb o' := (h8.block wb (lt_of_block v6)).trans v6; have l8 : wb < w8.heap.size := lt_of_block v8; have c8 := v8.cells j (by omega); rw [hxy] at c8; obtain ⟨c8, d8⟩ := c8)
                    go_quiet (fail)
                    go_wp2
                    go_roundw
                    case rel => exact ⟨j + 1, by omega, by go_num, (o8.alloc _).drewN _, (Below.heap_alloc _ _ _ l8).trans v8⟩
                    case measure => simp [intOf]; omega
                  case neg =>
                    go_wp2
                    go_roundw
                    case rel => exact ⟨k + 1, o', by omega, by omega, by go_num, ho', o6, v6⟩
                    case measure => simp [intOf]; omega
              · rw [if_neg hfl] at hS
                have hd : decide (o.getD fn' (0, 0) = (x, y)) = false := decide_eq_false hfl
                rw [hd] at hS hE
                obtain ⟨⟨p, p'⟩, hp⟩ : ∃ v : Int × Int, o.getD fn' (0, 0) = v := ⟨_, rfl⟩
                rw [hp] at hE
                clear hd hfl
                go_wp2_with (first
                  | (go_at_call 12; refine (cKind _ q.k 2 lf.k0 lf.k1 (by decide)).mono ?_; rintro e w99 ⟨rfl, hw99⟩; rw [hw99, hK]; clear hw99 w99)
                  | (go_at_call 33; refine NS.mono ?_; rintro e w8 ⟨rfl, h8⟩; have o8 := o7.below h8; have v8 : WAt w8 wb o := (h8.block wb (lt_of_block v7)).trans v7; have vq8 := (h8.block ob (lt_of_block vq7)).trans vq7; have t8 := (h8.block s1 (lt_of_block t7)).trans t7; have r8 := (h8.block s2 (lt_of_block r7)).trans r7; have l8 : wb < w8.heap.size := lt_of_block v8; have lq8 : ob < w8.heap.size := lt_of_block vq8; have ls8 : s1 < w8.heap.size := lt_of_block t8; have lr8 : s2 < w8.heap.size := lt_of_block r8; have a8 : w8.cell? ⟨ob, 0, none⟩ = some (.int .i64 q.k) := (opv_cells vq8).1; have c8 : w8.cell? ⟨s1, 0, none⟩ = some (.int .i64 k1) := (by rw [cell_of_row w8 _ _ _ _ _ t8]; rfl); have d8 : w8.cell? ⟨s1, 1, none⟩ = some (.int .i64 k2) := (by rw [cell_of_row w8 _ _ _ _ _ t8]; rfl); have c8' : w8.cell? ⟨s2, 0, none⟩ = some (.int .i64 k3) := (by rw [cell_of_row w8 _ _ _ _ _ r8]; rfl); have d8' : w8.cell? ⟨s2, 1, none⟩ = some (.int .i64 k4) := (by rw [cell_of_row w8 _ _ _ _ _ r8]; rfl); have v8a : WAt (w8.alloc (.cells #[.int .i64 x, .int .i64 y] 37)) wb o := (Below.heap_alloc _ _ _ l8).trans v8; have u8a := heap_alloc_new w8 (.cells #[.int .i64 x, .int .i64 y] 37); have r8a := (Below.heap_alloc w8 (.cells #[.int .i64 x, .int .i64 y] 37) s2 lr8).trans r8)
                  | (go_at_call 21; refine (oSwap (o8.alloc _) 0 0 fn' k1 k2 k3 k4).mono ?_; rintro e w9 ⟨rfl, o9, hO9⟩; rw [hS.1, hS.2.1]; rw [hS.2.2] at o9; have v9 : WAt w9 wb o := hO9 _ _ _ _ (by decide) v8a; have u9 := hO9 _ _ _ _ (by decide) u8a; have r9 := hO9 _ _ _ _ (by decide) r8a; have e9 : w9.cell? ⟨w8.heap.size, 0, none⟩ = some (.int .i64 x) := (by rw [cell_of_row w9 _ _ _ _ _ u9]; rfl); have g9 : w9.cell? ⟨w8.heap.size, 1, none⟩ = some (.int .i64 y) := (by rw [cell_of_row w9 _ _ _ _ _ u9]; rfl); have c9 := v9.cells fn' fl7; rw [hp] at c9; obtain ⟨c9, d9⟩ := c9; have i9 : w9.cell? ⟨s2, 0, none⟩ = some (.int .i64 k3) := (by rw [cell_of_row w9 _ _ _ _ _ r9]; rfl); have j9 : w9.cell? ⟨s2, 1, none⟩ = some (.int .i64 k4) := (by rw [cell_of_row w9 _ _ _ _ _ r9]; rfl)))
                go_quiet (fail)
                have o6 := o9.drewN nq
                have v6 : WAt (w9.drewN nq) wb o := v9
                clear o9 v9 hO9
                go_wp2
                obtain ⟨o', ho', hO'⟩ : ∃ o' : List (Int × Int), o'.length = 7 ∧ o = o' := ⟨_, by simp [ho], rfl⟩
                rw [hO'] at o6 v6
                go_loopw [15] (fun i wr => ∃ j : Nat, j ≤ 7 ∧ i = .int .i64 j ∧ Own w wr b (gf o') 2 ∧ WAt wr wb o') (fun i _ => 7 - (intOf i).toNat)
                case atStart => exact ⟨0, by decide, rfl, o6, v6⟩
                case round =>
                  clear o6 v6
                  obtain ⟨j, hj, rfl, o6, v6⟩ := hrel
                  obtain ⟨wp, rfl⟩ : ∃ wp : World, wp = wr := ⟨_, rfl⟩
                  have j0 : (0 : Int) ≤ (j : Int) := by omega
                  by_cases hjl : j < 7
                  case pos =>
                    have jl : (j : Int) < 7 := by omega
                    have hL := gf_look o' ho' j0 jl
                    have hL2 : (gf o').lookV 0 0 j = o'.getD j (0, 0) := hL.2
                    obtain ⟨⟨x, y⟩, hxy⟩ : ∃ v : Int × Int, o'.getD j (0, 0) = v := ⟨_, rfl⟩
                    rw [hxy] at hL2
                    have hN := neqV (x, y) (x, y) true (by simp)
                    go_wp2_with (go_at_call 15; refine (oLook o6 0 0 j).mono ?_; rintro e w8 ⟨rfl, o8, h8⟩; rw [hL.1, hL2]; have v8 : WAt w8 wb o' := (h8.block wb (lt_of_block v6)).trans v6; have l8 : wb < w8.heap.size := lt_of_block v8; have c8 := v8.cells j (by omega); rw [hxy] at c8; obtain ⟨c8, d8⟩ := c8)
                    go_quiet (fail)
                    go_wp2
                    go_roundw
                    case rel => exact ⟨j + 1, by omega, by go_num, (o8.alloc _).drewN _, (Below.heap_alloc _ _ _ l8).trans v8⟩
                    case measure => simp [intOf]; omega
                  case neg =>
                    go_wp2
                    go_roundw
                    case rel => exact ⟨k + 1, o', by omega, by omega, by go_num, ho', o6, v6⟩
                    case measure => simp [intOf]; omega
end Go.Proofs.Ytbihdkdefopijaa
