/-
  The walk of GraphPlays.
-/
import Derived.Test.YtbihdkdefopijaaPr
import Derived.Deep.CutBlock
import Derived.Deep.DeepCutAuto
namespace Go.Proofs.Ytbihdkdefopijaa
set_option linter.unusedVariables false
set_option linter.unusedSimpArgs false
open Go.ChangeShapes Go.WideShapes Go.ChangeAt Go.RowKit

set_option maxRecDepth 100000 in
set_option maxHeartbeats 8000000 in
theorem wPlaysGood (n : Nat) (hn1 : 1 ≤ n) (hn4 : n ≤ 64) (ao : Option Addr) (len cap : Nat) (z : Nat → Op9) (w : World) (hl : Came w ao len z) :
    Calls Try.prog 3 #[.int .i64 n, .slice ao len cap] w fun e w' => e = .returned (.bool true) ∧ Below w.heap.size w w' := by
  go_enter Try.func3, Try.ntmps3
  go_wp2_with (first
    | (go_at_call 9; refine (cShown _).mono ?_; rintro e w1 ⟨rfl, hb1⟩)
    | (go_at_call 10; refine (cNew _ n hn1 hn4).mono ?_; rintro e w2 ⟨L, rfl, hL, hb2, hl2⟩; obtain ⟨bb, hb⟩ : ∃ b, L.b = b := ⟨_, rfl⟩; rw [hb])
    | (go_at_call 11; refine (pNew w _ n hn1 hn4 L hL (bt hb1 hb2) (fun k hk => Nat.le_trans hb1.size (hl2 k hk))).mono ?_; rintro e w3 ⟨yb, rfl, p3⟩; rw [hb] at p3; clear hL hb2 hl2 hb L))
  clear hb1
  go_loopw [6, 10] (fun gv i wr => ∃ (k : Nat) (g : Gr) (b : Nat), k ≤ len ∧ k ≤ 60 ∧ i = .int .i64 k ∧ gv = .pointer (some ⟨b, 0, none⟩) ∧ Pair w wr [] b yb g g ∧ g.os.length ≤ k) (fun _ i _ => 60 - (intOf i).toNat)
  case atStart => exact ⟨0, _, bb, Nat.zero_le _, by decide, rfl, rfl, p3, by simp [Gr.new]⟩
  case round =>
    clear p3
    obtain ⟨k, g, b, hk, hk60, rfl, rfl, p4, hN⟩ := hrel
    obtain ⟨wo, rfl⟩ : ∃ wo : World, wo = wr := ⟨_, rfl⟩
    have k0 : (0 : Int) ≤ (k : Int) := by omega
    by_cases hlt : k < len ∧ k < 60
    case pos =>
      obtain ⟨hlt, hl60⟩ := hlt
      have kl : (k : Int) < (len : Int) := by omega
      have kl60 : (k : Int) < 60 := by omega
      rcases hl with hl | ⟨lb, off, rfl, hl⟩
      case inl => omega
      case inr =>
        have lf := hl.fit k hlt
        have ops := hl.on p4.bel
        obtain ⟨q, hq⟩ : ∃ q, z k = q := ⟨_, rfl⟩
        have x0 := ops.c0 k hlt
        have x1 := ops.c1 k hlt
        have x2 := ops.c2 k hlt
        have x3 := ops.c3 k hlt
        have x4 := ops.c4 k hlt
        have x5 := ops.c5 k hlt
        have x6 := ops.c6 k hlt
        have x7 := ops.c7 k hlt
        have x8 := ops.c8 k hlt
        rw [hq] at x0 x1 x2 x3 x4 x5 x6 x7 x8 lf
        clear ops hq
        have vq : (wo.alloc (.cells #[.int .i64 q.k, .int .i64 q.t, .int .i64 q.i, .int .i64 q.f, .int .i64 q.n, .int .i64 q.a, .int .i64 q.b, .int .i64 q.c, .int .i64 q.d] 34)).heap[wo.heap.size]? = some (.cells (opv q) 34 (0, 0)) := heap_alloc_new wo _
        obtain ⟨y0, y1, y2, y3, y4, y5, y6, y7, y8⟩ := opv_cells vq
        have o5 := p4.box (.cells #[.int .i64 q.k, .int .i64 q.t, .int .i64 q.i, .int .i64 q.f, .int .i64 q.n, .int .i64 q.a, .int .i64 q.b, .int .i64 q.c, .int .i64 q.d] 34)
        clear p4
        have bk := kd_bounds q.k 12 (by decide)
        obtain ⟨kk, hkk⟩ : ∃ kk, kd q.k 12 = kk := ⟨_, rfl⟩
        rw [hkk] at bk
        have hways : kk = 0 ∨ kk = 1 ∨ kk = 2 ∨ kk = 3 ∨ kk = 4 ∨ kk = 5 ∨ kk = 6 ∨ kk = 7 ∨ kk = 8 ∨ kk = 9 ∨ kk = 10 ∨ kk = 11 := by omega
        clear bk
        go_upto_block 2 with (go_at_call_of 12 (Value.int .i64 q.k); refine (cKind _ q.k 12 lf.k0 lf.k1 (by decide)).mono ?_; rintro e w9 ⟨rfl, hw9⟩; rw [hw9, hkk]; clear hw9 w9)
        clear hkk
        obtain ⟨ob, hob⟩ : ∃ n, n = wo.heap.size := ⟨_, rfl⟩
        rw [← hob] at vq y0 y1 y2 y3 y4 y5 y6 y7 y8 o5 ⊢
        obtain ⟨w5, hw5⟩ : ∃ u, u = wo.alloc (.cells #[.int .i64 q.k, .int .i64 q.t, .int .i64 q.i, .int .i64 q.f, .int .i64 q.n, .int .i64 q.a, .int .i64 q.b, .int .i64 q.c, .int .i64 q.d] 34) := ⟨_, rfl⟩
        rw [← hw5] at vq y0 y1 y2 y3 y4 y5 y6 y7 y8 o5 ⊢
        clear hw5 hob x0 x1 x2 x3 x4 x5 x6 x7 x8
        rcases hways with rfl | rfl | rfl | rfl | rfl | rfl | rfl | rfl | rfl | rfl | rfl | rfl
        · as_aux_lemma =>
          go_wp2
          refine wp_region_held_drew (S := fun w' => w'.cell? ⟨ob, 1, none⟩ = some (.int .i64 q.t) ∧ w'.cell? ⟨ob, 3, none⟩ = some (.int .i64 q.f)) (by kernel_rfl) ⟨y1, y3⟩ (fun hHeld => ?_)
          refine takeH (i := 0) 75 (.pointer (some ⟨b, 0, none⟩)) rfl rfl (by kernel_rfl) (by kernel_rfl) (by kernel_rfl) (fun _ _ _ h => h) (by rfl) ?_ (by assumption) ?_
          · intro w hSw; (try dsimp only at hSw); go_simp
          simp only [List.setIfInBounds_toArray, List.set_cons_zero, List.set_cons_succ]
          refine takeH (i := 1) 76 (.pointer (some ⟨ob, 1, none⟩)) rfl rfl (by kernel_rfl) (by kernel_rfl) (by kernel_rfl) (fun _ _ _ h => h) (by rfl) ?_ (by assumption) ?_
          · intro w hSw; (try dsimp only at hSw); go_simp
          simp only [List.setIfInBounds_toArray, List.set_cons_zero, List.set_cons_succ]
          refine takeH (i := 2) 77 (.int .i64 q.t) rfl rfl (by kernel_rfl) (by kernel_rfl) (by kernel_rfl) (fun _ _ _ h => h) (by rfl) ?_ (by assumption) ?_
          · intro w hSw; (try dsimp only at hSw); go_simp
          simp only [List.setIfInBounds_toArray, List.set_cons_zero, List.set_cons_succ]
          refine takeH (i := 3) 78 (.pointer (some ⟨ob, 3, none⟩)) rfl rfl (by kernel_rfl) (by kernel_rfl) (by kernel_rfl) (fun _ _ _ h => h) (by rfl) ?_ (by assumption) ?_
          · intro w hSw; (try dsimp only at hSw); go_simp
          simp only [List.setIfInBounds_toArray, List.set_cons_zero, List.set_cons_succ]
          refine takeH (i := 4) 79 (.int .i64 q.f) rfl rfl (by kernel_rfl) (by kernel_rfl) (by kernel_rfl) (fun _ _ _ h => h) (by rfl) ?_ (by assumption) ?_
          · intro w hSw; (try dsimp only at hSw); go_simp
          simp only [List.setIfInBounds_toArray, List.set_cons_zero, List.set_cons_succ]
          refine takeH (i := 6) 81 (.pointer (some ⟨yb, 0, none⟩)) rfl rfl (by kernel_rfl) (by kernel_rfl) (by kernel_rfl) (fun _ _ _ h => h) (by rfl) ?_ (by assumption) ?_
          · intro w hSw; (try dsimp only at hSw); go_simp
          simp only [List.setIfInBounds_toArray, List.set_cons_zero, List.set_cons_succ]
          refine takeH (i := 7) 82 (.pointer (some ⟨ob, 1, none⟩)) rfl rfl (by kernel_rfl) (by kernel_rfl) (by kernel_rfl) (fun _ _ _ h => h) (by rfl) ?_ (by assumption) ?_
          · intro w hSw; (try dsimp only at hSw); go_simp
          simp only [List.setIfInBounds_toArray, List.set_cons_zero, List.set_cons_succ]
          refine takeH (i := 8) 83 (.int .i64 q.t) rfl rfl (by kernel_rfl) (by kernel_rfl) (by kernel_rfl) (fun _ _ _ h => h) (by rfl) ?_ (by assumption) ?_
          · intro w hSw; (try dsimp only at hSw); go_simp
          simp only [List.setIfInBounds_toArray, List.set_cons_zero, List.set_cons_succ]
          refine takeH (i := 9) 84 (.pointer (some ⟨ob, 3, none⟩)) rfl rfl (by kernel_rfl) (by kernel_rfl) (by kernel_rfl) (fun _ _ _ h => h) (by rfl) ?_ (by assumption) ?_
          · intro w hSw; (try dsimp only at hSw); go_simp
          simp only [List.setIfInBounds_toArray, List.set_cons_zero, List.set_cons_succ]
          refine takeH (i := 10) 85 (.int .i64 q.f) rfl rfl (by kernel_rfl) (by kernel_rfl) (by kernel_rfl) (fun _ _ _ h => h) (by rfl) ?_ (by assumption) ?_
          · intro w hSw; (try dsimp only at hSw); go_simp
          simp only [List.setIfInBounds_toArray, List.set_cons_zero, List.set_cons_succ]
          refine wpAnyH_ready (rs := [5]) (by kernel_rfl) (by simp) ?_
          refine AllReadyH.cons rfl (fun K hK => ?_) AllReadyH.nil
          go_simp
          refine (pAlloc o5.drew (by omega) q.t q.f).mono ?_; rintro e w6 ⟨rfl, p6, k6⟩; have v6 := (k6 ob (by simp)).trans vq; clear y0 y1 y2 y3 y4 y5 y6 y7 y8; obtain ⟨z0, z1, z2, z3, z4, z5, z6, z7, z8⟩ := opv_cells v6
          refine hK.out _ _ ⟨z1, z3⟩ (fun hHeld => ?_)
          clear hK K
          try simp only [Act.put, List.setIfInBounds_toArray, List.set_cons_zero, List.set_cons_succ]
          refine wpAnyH_ready (rs := [11]) (by kernel_rfl) (by simp) ?_
          refine AllReadyH.cons rfl (fun K hK => ?_) AllReadyH.nil
          go_simp
          refine (qAlloc p6 (by omega) q.t q.f).mono ?_; rintro e w7 ⟨rfl, p7, k7⟩; have v7 := (k7 ob (by simp)).trans v6; clear z0 z1 z2 z3 z4 z5 z6 z7 z8; obtain ⟨z0, z1, z2, z3, z4, z5, z6, z7, z8⟩ := opv_cells v7
          refine hK.out _ _ ⟨z1, z3⟩ (fun hHeld => ?_)
          clear hK K
          try simp only [Act.put, List.setIfInBounds_toArray, List.set_cons_zero, List.set_cons_succ]
          refine takeH (i := 12) 87 (.bool false) rfl rfl (by kernel_rfl) (by kernel_rfl) (by kernel_rfl) (fun _ _ _ h => h) (by rfl) ?_ (by assumption) ?_
          · intro w hSw; (try dsimp only at hSw); go_simp
          simp only [List.setIfInBounds_toArray, List.set_cons_zero, List.set_cons_succ]
          refine wpAnyH_done (by kernel_rfl) ?_ _
          clear z0 z1 z2 z3 z4 z5 z6 z7 z8
          go_wp2_with (first
            | (go_at_call 31; refine (pShape p7).mono ?_; rintro e w11 ⟨ar, al, rfl, p11, hb11, r11, l11⟩)
            | (go_at_call 32; refine (qShape p11).mono ?_; rintro e w12 ⟨br, bl, rfl, p12, hb12, r12, l12⟩)
            | (go_at_call 30; refine (oSame p12.fg ar al br bl (r11.below hb12) (l11.below hb12) r12 l12).mono ?_; rintro e w13 ⟨rfl, hb13⟩; have p13 := p12.below hb13))
          go_roundw
          case rel => exact ⟨k + 1, _, b, by omega, by omega, by go_num, rfl, p13.less (by simp), by have := g.n_alloc q.t q.f; omega⟩
          case measure => simp [intOf]; omega
        · as_aux_lemma =>
          go_wp2
          refine wp_region_held_drew (S := fun w' => w'.cell? ⟨ob, 1, none⟩ = some (.int .i64 q.t) ∧ w'.cell? ⟨ob, 3, none⟩ = some (.int .i64 q.f)) (by kernel_rfl) ⟨y1, y3⟩ (fun hHeld => ?_)
          refine takeH (i := 0) 75 (.pointer (some ⟨b, 0, none⟩)) rfl rfl (by kernel_rfl) (by kernel_rfl) (by kernel_rfl) (fun _ _ _ h => h) (by rfl) ?_ (by assumption) ?_
          · intro w hSw; (try dsimp only at hSw); go_simp
          simp only [List.setIfInBounds_toArray, List.set_cons_zero, List.set_cons_succ]
          refine takeH (i := 1) 76 (.pointer (some ⟨ob, 1, none⟩)) rfl rfl (by kernel_rfl) (by kernel_rfl) (by kernel_rfl) (fun _ _ _ h => h) (by rfl) ?_ (by assumption) ?_
          · intro w hSw; (try dsimp only at hSw); go_simp
          simp only [List.setIfInBounds_toArray, List.set_cons_zero, List.set_cons_succ]
          refine takeH (i := 2) 77 (.int .i64 q.t) rfl rfl (by kernel_rfl) (by kernel_rfl) (by kernel_rfl) (fun _ _ _ h => h) (by rfl) ?_ (by assumption) ?_
          · intro w hSw; (try dsimp only at hSw); go_simp
          simp only [List.setIfInBounds_toArray, List.set_cons_zero, List.set_cons_succ]
          refine takeH (i := 3) 78 (.pointer (some ⟨ob, 3, none⟩)) rfl rfl (by kernel_rfl) (by kernel_rfl) (by kernel_rfl) (fun _ _ _ h => h) (by rfl) ?_ (by assumption) ?_
          · intro w hSw; (try dsimp only at hSw); go_simp
          simp only [List.setIfInBounds_toArray, List.set_cons_zero, List.set_cons_succ]
          refine takeH (i := 4) 79 (.int .i64 q.f) rfl rfl (by kernel_rfl) (by kernel_rfl) (by kernel_rfl) (fun _ _ _ h => h) (by rfl) ?_ (by assumption) ?_
          · intro w hSw; (try dsimp only at hSw); go_simp
          simp only [List.setIfInBounds_toArray, List.set_cons_zero, List.set_cons_succ]
          refine takeH (i := 6) 81 (.pointer (some ⟨yb, 0, none⟩)) rfl rfl (by kernel_rfl) (by kernel_rfl) (by kernel_rfl) (fun _ _ _ h => h) (by rfl) ?_ (by assumption) ?_
          · intro w hSw; (try dsimp only at hSw); go_simp
          simp only [List.setIfInBounds_toArray, List.set_cons_zero, List.set_cons_succ]
          refine takeH (i := 7) 82 (.pointer (some ⟨ob, 1, none⟩)) rfl rfl (by kernel_rfl) (by kernel_rfl) (by kernel_rfl) (fun _ _ _ h => h) (by rfl) ?_ (by assumption) ?_
          · intro w hSw; (try dsimp only at hSw); go_simp
          simp only [List.setIfInBounds_toArray, List.set_cons_zero, List.set_cons_succ]
          refine takeH (i := 8) 83 (.int .i64 q.t) rfl rfl (by kernel_rfl) (by kernel_rfl) (by kernel_rfl) (fun _ _ _ h => h) (by rfl) ?_ (by assumption) ?_
          · intro w hSw; (try dsimp only at hSw); go_simp
          simp only [List.setIfInBounds_toArray, List.set_cons_zero, List.set_cons_succ]
          refine takeH (i := 9) 84 (.pointer (some ⟨ob, 3, none⟩)) rfl rfl (by kernel_rfl) (by kernel_rfl) (by kernel_rfl) (fun _ _ _ h => h) (by rfl) ?_ (by assumption) ?_
          · intro w hSw; (try dsimp only at hSw); go_simp
          simp only [List.setIfInBounds_toArray, List.set_cons_zero, List.set_cons_succ]
          refine takeH (i := 10) 85 (.int .i64 q.f) rfl rfl (by kernel_rfl) (by kernel_rfl) (by kernel_rfl) (fun _ _ _ h => h) (by rfl) ?_ (by assumption) ?_
          · intro w hSw; (try dsimp only at hSw); go_simp
          simp only [List.setIfInBounds_toArray, List.set_cons_zero, List.set_cons_succ]
          refine wpAnyH_ready (rs := [5]) (by kernel_rfl) (by simp) ?_
          refine AllReadyH.cons rfl (fun K hK => ?_) AllReadyH.nil
          go_simp
          refine (pAlloc o5.drew (by omega) q.t q.f).mono ?_; rintro e w6 ⟨rfl, p6, k6⟩; have v6 := (k6 ob (by simp)).trans vq; clear y0 y1 y2 y3 y4 y5 y6 y7 y8; obtain ⟨z0, z1, z2, z3, z4, z5, z6, z7, z8⟩ := opv_cells v6
          refine hK.out _ _ ⟨z1, z3⟩ (fun hHeld => ?_)
          clear hK K
          try simp only [Act.put, List.setIfInBounds_toArray, List.set_cons_zero, List.set_cons_succ]
          refine wpAnyH_ready (rs := [11]) (by kernel_rfl) (by simp) ?_
          refine AllReadyH.cons rfl (fun K hK => ?_) AllReadyH.nil
          go_simp
          refine (qAlloc p6 (by omega) q.t q.f).mono ?_; rintro e w7 ⟨rfl, p7, k7⟩; have v7 := (k7 ob (by simp)).trans v6; clear z0 z1 z2 z3 z4 z5 z6 z7 z8; obtain ⟨z0, z1, z2, z3, z4, z5, z6, z7, z8⟩ := opv_cells v7
          refine hK.out _ _ ⟨z1, z3⟩ (fun hHeld => ?_)
          clear hK K
          try simp only [Act.put, List.setIfInBounds_toArray, List.set_cons_zero, List.set_cons_succ]
          refine takeH (i := 12) 87 (.bool false) rfl rfl (by kernel_rfl) (by kernel_rfl) (by kernel_rfl) (fun _ _ _ h => h) (by rfl) ?_ (by assumption) ?_
          · intro w hSw; (try dsimp only at hSw); go_simp
          simp only [List.setIfInBounds_toArray, List.set_cons_zero, List.set_cons_succ]
          refine wpAnyH_done (by kernel_rfl) ?_ _
          clear z0 z1 z2 z3 z4 z5 z6 z7 z8
          go_wp2_with (first
            | (go_at_call 31; refine (pShape p7).mono ?_; rintro e w11 ⟨ar, al, rfl, p11, hb11, r11, l11⟩)
            | (go_at_call 32; refine (qShape p11).mono ?_; rintro e w12 ⟨br, bl, rfl, p12, hb12, r12, l12⟩)
            | (go_at_call 30; refine (oSame p12.fg ar al br bl (r11.below hb12) (l11.below hb12) r12 l12).mono ?_; rintro e w13 ⟨rfl, hb13⟩; have p13 := p12.below hb13))
          go_roundw
          case rel => exact ⟨k + 1, _, b, by omega, by omega, by go_num, rfl, p13.less (by simp), by have := g.n_alloc q.t q.f; omega⟩
          case measure => simp [intOf]; omega
        · as_aux_lemma =>
          obtain ⟨vx, vy, hv⟩ : ∃ x y, g.lookV q.t q.i q.f = (x, y) := ⟨_, _, rfl⟩
          generalize hE : g.lookE q.t q.i q.f = E
          have hN := neqV (vx, vy) (vx, vy) true (by simp)
          go_wp2_with (first
            | (go_at_call 15; refine (pLook o5 q.t q.i q.f).mono ?_; rintro e w6 ⟨rfl, p6, h6⟩; rw [hv, hE]; have v6 := (o5.keeps h6 ob (by simp)).trans vq; clear y0 y1 y2 y3 y4 y5 y6 y7 y8; obtain ⟨z0, z1, z2, z3, z4, z5, z6, z7, z8⟩ := opv_cells v6; have l6 := p6.xl ob (by simp))
            | (go_at_call 16; have b6 := p6.box (.cells #[.int .i64 vx, .int .i64 vy] 37); refine (qLook b6 q.t q.i q.f).mono ?_; rintro e w7 ⟨rfl, p7, h7⟩; rw [hv, hE]; have va := (b6.keeps h7 w6.heap.size (by simp)).trans (heap_alloc_new w6 _); have v7 := (b6.keeps h7 ob (by simp)).trans ((Below.heap_alloc _ _ _ l6).trans v6); clear z0 z1 z2 z3 z4 z5 z6 z7 z8; obtain ⟨z0, z1, z2, z3, z4, z5, z6, z7, z8⟩ := opv_cells v7; have a0 : w7.cell? ⟨w6.heap.size, 0, none⟩ = some (.int .i64 vx) := (by rw [cell_of_row w7 _ _ _ _ _ va]; rfl); have a1 : w7.cell? ⟨w6.heap.size, 1, none⟩ = some (.int .i64 vy) := (by rw [cell_of_row w7 _ _ _ _ _ va]; rfl); have l7 := lt_of_block va; have l8 := p7.xl ob (by simp)))
          obtain ⟨ab, hab⟩ : ∃ n, n = w6.heap.size := ⟨_, rfl⟩
          rw [← hab] at p7 va a0 a1 l7 ⊢
          clear hab h6 h7 p6 b6 v6 l6
          obtain ⟨w8, hw8⟩ : ∃ u, u = w7.alloc (.cells #[.int .i64 vx, .int .i64 vy] 37) := ⟨_, rfl⟩
          have p8 : Pair w w8 [ab, ob] b yb g g := by rw [hw8]; exact p7.alloc _
          have va8 : w8.heap[ab]? = some (.cells #[.int .i64 vx, .int .i64 vy] 37 (0, 0)) := by rw [hw8]; exact (Below.heap_alloc _ _ _ l7).trans va
          have v8 : w8.heap[ob]? = some (.cells (opv q) 34 (0, 0)) := by rw [hw8]; exact (Below.heap_alloc _ _ _ l8).trans v7
          rw [← hw8]
          clear hw8 v7 va p7 a0 a1 l7 l8 z0 z1 z2 z3 z4 z5 z6 z7 z8
          obtain ⟨z0, z1, z2, z3, z4, z5, z6, z7, z8⟩ := opv_cells v8
          have a0 : w8.cell? ⟨ab, 0, none⟩ = some (.int .i64 vx) := by rw [cell_of_row w8 _ _ _ _ _ va8]; rfl
          have a1 : w8.cell? ⟨ab, 1, none⟩ = some (.int .i64 vy) := by rw [cell_of_row w8 _ _ _ _ _ va8]; rfl
          by_cases hG : E = 0 ∧ vx = 1
          case neg =>
            have hG' : (E == 0) = false ∨ ((E == 0) = true ∧ (vx == 1) = false) := by
              by_cases h0 : E = 0
              · exact .inr ⟨by simpa using h0, by simpa using fun h1 => hG ⟨h0, h1⟩⟩
              · exact .inl (by simpa using h0)
            clear hG
            rcases hG' with hG | ⟨hG, hG1⟩
            all_goals
              go_quiet (fail)
              go_wp2_with (first
                | (go_at_call 31; refine (pShape (p8.below (bdr (Below.refl _ _) _))).mono ?_; rintro e w11 ⟨ar, al, rfl, p11, hb11, r11, l11⟩)
                | (go_at_call 32; refine (qShape p11).mono ?_; rintro e w12 ⟨br, bl, rfl, p12, hb12, r12, l12⟩)
                | (go_at_call 30; refine (oSame p12.fg ar al br bl (r11.below hb12) (l11.below hb12) r12 l12).mono ?_; rintro e w13 ⟨rfl, hb13⟩; have p13 := p12.below hb13))
              go_roundw
              case rel => exact ⟨k + 1, _, b, by omega, by omega, by go_num, rfl, p13.less (by simp), by omega⟩
              case measure => simp [intOf]; omega
          case pos =>
            obtain ⟨hG, hG1⟩ := hG
            subst hG hG1
            refine wp_region_held_drew (S := fun w' => w'.cell? ⟨ob, 1, none⟩ = some (.int .i64 q.t) ∧ w'.cell? ⟨ab, 0, none⟩ = some (.int .i64 1) ∧ w'.cell? ⟨ab, 1, none⟩ = some (.int .i64 vy)) (by kernel_rfl) ⟨z1, a0, a1⟩ (fun hHeld => ?_)
            refine takeH (i := 0) 120 (.int .i64 0) rfl rfl (by kernel_rfl) (by kernel_rfl) (by kernel_rfl) (fun _ _ _ h => h) (by rfl) ?_ (by assumption) ?_
            · intro w hSw; (try dsimp only at hSw); go_simp
            simp only [List.setIfInBounds_toArray, List.set_cons_zero, List.set_cons_succ]
            refine takeH (i := 1) 121 (.bool true) rfl rfl (by kernel_rfl) (by kernel_rfl) (by kernel_rfl) (fun _ _ _ h => h) (by rfl) ?_ (by assumption) ?_
            · intro w hSw; (try dsimp only at hSw); go_simp
            simp only [List.setIfInBounds_toArray, List.set_cons_zero, List.set_cons_succ]
            refine takeH (i := 2) 122 (.bool true) rfl rfl (by kernel_rfl) (by kernel_rfl) (by kernel_rfl) (fun _ _ _ h => h) (by rfl) ?_ (by assumption) ?_
            · intro w hSw; (try dsimp only at hSw); go_simp
            simp only [List.setIfInBounds_toArray, List.set_cons_zero, List.set_cons_succ]
            refine takeH (i := 3) 123 (.pointer (some ⟨ab, 0, none⟩)) rfl rfl (by kernel_rfl) (by kernel_rfl) (by kernel_rfl) (fun _ _ _ h => h) (by rfl) ?_ (by assumption) ?_
            · intro w hSw; (try dsimp only at hSw); go_simp
            simp only [List.setIfInBounds_toArray, List.set_cons_zero, List.set_cons_succ]
            refine takeH (i := 4) 124 (.int .i64 1) rfl rfl (by kernel_rfl) (by kernel_rfl) (by kernel_rfl) (fun _ _ _ h => h) (by rfl) ?_ (by assumption) ?_
            · intro w hSw; (try dsimp only at hSw); go_simp
            simp only [List.setIfInBounds_toArray, List.set_cons_zero, List.set_cons_succ]
            refine takeH (i := 5) 125 (.bool true) rfl rfl (by kernel_rfl) (by kernel_rfl) (by kernel_rfl) (fun _ _ _ h => h) (by rfl) ?_ (by assumption) ?_
            · intro w hSw; (try dsimp only at hSw); go_simp
            simp only [List.setIfInBounds_toArray, List.set_cons_zero, List.set_cons_succ]
            refine takeH (i := 6) 126 (.bool true) rfl rfl (by kernel_rfl) (by kernel_rfl) (by kernel_rfl) (fun _ _ _ h => h) (by rfl) ?_ (by assumption) ?_
            · intro w hSw; (try dsimp only at hSw); go_simp
            simp only [List.setIfInBounds_toArray, List.set_cons_zero, List.set_cons_succ]
            refine takeH (i := 7) 127 (.bool true) rfl rfl (by kernel_rfl) (by kernel_rfl) (by kernel_rfl) (fun _ _ _ h => h) (by rfl) ?_ (by assumption) ?_
            · intro w hSw; (try dsimp only at hSw); go_simp
            simp only [List.setIfInBounds_toArray, List.set_cons_zero, List.set_cons_succ]
            refine takeH (i := 8) 128 (.pointer (some ⟨b, 0, none⟩)) rfl rfl (by kernel_rfl) (by kernel_rfl) (by kernel_rfl) (fun _ _ _ h => h) (by rfl) ?_ (by assumption) ?_
            · intro w hSw; (try dsimp only at hSw); go_simp
            simp only [List.setIfInBounds_toArray, List.set_cons_zero, List.set_cons_succ]
            refine takeH (i := 9) 129 (.pointer (some ⟨ob, 1, none⟩)) rfl rfl (by kernel_rfl) (by kernel_rfl) (by kernel_rfl) (fun _ _ _ h => h) (by rfl) ?_ (by assumption) ?_
            · intro w hSw; (try dsimp only at hSw); go_simp
            simp only [List.setIfInBounds_toArray, List.set_cons_zero, List.set_cons_succ]
            refine takeH (i := 10) 130 (.int .i64 q.t) rfl rfl (by kernel_rfl) (by kernel_rfl) (by kernel_rfl) (fun _ _ _ h => h) (by rfl) ?_ (by assumption) ?_
            · intro w hSw; (try dsimp only at hSw); go_simp
            simp only [List.setIfInBounds_toArray, List.set_cons_zero, List.set_cons_succ]
            refine takeH (i := 11) 131 (.pointer (some ⟨ab, 1, none⟩)) rfl rfl (by kernel_rfl) (by kernel_rfl) (by kernel_rfl) (fun _ _ _ h => h) (by rfl) ?_ (by assumption) ?_
            · intro w hSw; (try dsimp only at hSw); go_simp
            simp only [List.setIfInBounds_toArray, List.set_cons_zero, List.set_cons_succ]
            refine takeH (i := 12) 132 (.int .i64 vy) rfl rfl (by kernel_rfl) (by kernel_rfl) (by kernel_rfl) (fun _ _ _ h => h) (by rfl) ?_ (by assumption) ?_
            · intro w hSw; (try dsimp only at hSw); go_simp
            simp only [List.setIfInBounds_toArray, List.set_cons_zero, List.set_cons_succ]
            refine takeH (i := 14) 134 (.pointer (some ⟨yb, 0, none⟩)) rfl rfl (by kernel_rfl) (by kernel_rfl) (by kernel_rfl) (fun _ _ _ h => h) (by rfl) ?_ (by assumption) ?_
            · intro w hSw; (try dsimp only at hSw); go_simp
            simp only [List.setIfInBounds_toArray, List.set_cons_zero, List.set_cons_succ]
            refine takeH (i := 15) 135 (.pointer (some ⟨ob, 1, none⟩)) rfl rfl (by kernel_rfl) (by kernel_rfl) (by kernel_rfl) (fun _ _ _ h => h) (by rfl) ?_ (by assumption) ?_
            · intro w hSw; (try dsimp only at hSw); go_simp
            simp only [List.setIfInBounds_toArray, List.set_cons_zero, List.set_cons_succ]
            refine takeH (i := 16) 136 (.int .i64 q.t) rfl rfl (by kernel_rfl) (by kernel_rfl) (by kernel_rfl) (fun _ _ _ h => h) (by rfl) ?_ (by assumption) ?_
            · intro w hSw; (try dsimp only at hSw); go_simp
            simp only [List.setIfInBounds_toArray, List.set_cons_zero, List.set_cons_succ]
            refine takeH (i := 17) 137 (.pointer (some ⟨ab, 1, none⟩)) rfl rfl (by kernel_rfl) (by kernel_rfl) (by kernel_rfl) (fun _ _ _ h => h) (by rfl) ?_ (by assumption) ?_
            · intro w hSw; (try dsimp only at hSw); go_simp
            simp only [List.setIfInBounds_toArray, List.set_cons_zero, List.set_cons_succ]
            refine takeH (i := 18) 138 (.int .i64 vy) rfl rfl (by kernel_rfl) (by kernel_rfl) (by kernel_rfl) (fun _ _ _ h => h) (by rfl) ?_ (by assumption) ?_
            · intro w hSw; (try dsimp only at hSw); go_simp
            simp only [List.setIfInBounds_toArray, List.set_cons_zero, List.set_cons_succ]
            refine wpAnyH_ready (rs := [13]) (by kernel_rfl) (by simp) ?_
            refine AllReadyH.cons rfl (fun K hK => ?_) AllReadyH.nil
            go_simp
            refine (pPut p8.drew q.t vy).mono ?_; rintro e w9 ⟨rfl, p9, hk⟩; have v9 := (hk ob (by simp)).trans v8; have va9 := (hk ab (by simp)).trans va8; clear z0 z1 z2 z3 z4 z5 z6 z7 z8; clear a0 a1 hk; obtain ⟨z0, z1, z2, z3, z4, z5, z6, z7, z8⟩ := opv_cells v9; have a0 : w9.cell? ⟨ab, 0, none⟩ = some (.int .i64 1) := (by rw [cell_of_row w9 _ _ _ _ _ va9]; rfl); have a1 : w9.cell? ⟨ab, 1, none⟩ = some (.int .i64 vy) := (by rw [cell_of_row w9 _ _ _ _ _ va9]; rfl)
            refine hK.out _ _ ⟨z1, a0, a1⟩ (fun hHeld => ?_)
            clear hK K
            try simp only [Act.put, List.setIfInBounds_toArray, List.set_cons_zero, List.set_cons_succ]
            refine wpAnyH_ready (rs := [19]) (by kernel_rfl) (by simp) ?_
            refine AllReadyH.cons rfl (fun K hK => ?_) AllReadyH.nil
            go_simp
            refine (qPut p9 q.t vy).mono ?_; rintro e w10 ⟨rfl, p10, hk⟩; have v10 := (hk ob (by simp)).trans v9; have va10 := (hk ab (by simp)).trans va9; clear z0 z1 z2 z3 z4 z5 z6 z7 z8; clear a0 a1 hk; obtain ⟨z0, z1, z2, z3, z4, z5, z6, z7, z8⟩ := opv_cells v10; have a0 : w10.cell? ⟨ab, 0, none⟩ = some (.int .i64 1) := (by rw [cell_of_row w10 _ _ _ _ _ va10]; rfl); have a1 : w10.cell? ⟨ab, 1, none⟩ = some (.int .i64 vy) := (by rw [cell_of_row w10 _ _ _ _ _ va10]; rfl)
            refine hK.out _ _ ⟨z1, a0, a1⟩ (fun hHeld => ?_)
            clear hK K
            try simp only [Act.put, List.setIfInBounds_toArray, List.set_cons_zero, List.set_cons_succ]
            refine takeH (i := 20) 140 (.bool false) rfl rfl (by kernel_rfl) (by kernel_rfl) (by kernel_rfl) (fun _ _ _ h => h) (by rfl) ?_ (by assumption) ?_
            · intro w hSw; (try dsimp only at hSw); go_simp
            simp only [List.setIfInBounds_toArray, List.set_cons_zero, List.set_cons_succ]
            refine takeH (i := 21) 141 (.bool false) rfl rfl (by kernel_rfl) (by kernel_rfl) (by kernel_rfl) (fun _ _ _ h => h) (by rfl) ?_ (by assumption) ?_
            · intro w hSw; (try dsimp only at hSw); go_simp
            simp only [List.setIfInBounds_toArray, List.set_cons_zero, List.set_cons_succ]
            refine wpAnyH_done (by kernel_rfl) ?_ _
            go_wp2_with (first
              | (go_at_call 31; refine (pShape p10).mono ?_; rintro e w11 ⟨ar, al, rfl, p11, hb11, r11, l11⟩)
              | (go_at_call 32; refine (qShape p11).mono ?_; rintro e w12 ⟨br, bl, rfl, p12, hb12, r12, l12⟩)
              | (go_at_call 30; refine (oSame p12.fg ar al br bl (r11.below hb12) (l11.below hb12) r12 l12).mono ?_; rintro e w13 ⟨rfl, hb13⟩; have p13 := p12.below hb13))
            go_roundw
            case rel => exact ⟨k + 1, _, b, by omega, by omega, by go_num, rfl, p13.less (by simp), by rw [Gr.n_put]; omega⟩
            case measure => simp [intOf]; omega
        · as_aux_lemma =>
          go_wp2
          refine wp_region_held_drew (S := fun w' => w'.cell? ⟨ob, 1, none⟩ = some (.int .i64 q.t) ∧ w'.cell? ⟨ob, 4, none⟩ = some (.int .i64 q.n)) (by kernel_rfl) ⟨y1, y4⟩ (fun hHeld => ?_)
          refine takeH (i := 0) 144 (.pointer (some ⟨b, 0, none⟩)) rfl rfl (by kernel_rfl) (by kernel_rfl) (by kernel_rfl) (fun _ _ _ h => h) (by rfl) ?_ (by assumption) ?_
          · intro w hSw; (try dsimp only at hSw); go_simp
          simp only [List.setIfInBounds_toArray, List.set_cons_zero, List.set_cons_succ]
          refine takeH (i := 1) 145 (.pointer (some ⟨ob, 1, none⟩)) rfl rfl (by kernel_rfl) (by kernel_rfl) (by kernel_rfl) (fun _ _ _ h => h) (by rfl) ?_ (by assumption) ?_
          · intro w hSw; (try dsimp only at hSw); go_simp
          simp only [List.setIfInBounds_toArray, List.set_cons_zero, List.set_cons_succ]
          refine takeH (i := 2) 146 (.int .i64 q.t) rfl rfl (by kernel_rfl) (by kernel_rfl) (by kernel_rfl) (fun _ _ _ h => h) (by rfl) ?_ (by assumption) ?_
          · intro w hSw; (try dsimp only at hSw); go_simp
          simp only [List.setIfInBounds_toArray, List.set_cons_zero, List.set_cons_succ]
          refine takeH (i := 3) 147 (.pointer (some ⟨ob, 4, none⟩)) rfl rfl (by kernel_rfl) (by kernel_rfl) (by kernel_rfl) (fun _ _ _ h => h) (by rfl) ?_ (by assumption) ?_
          · intro w hSw; (try dsimp only at hSw); go_simp
          simp only [List.setIfInBounds_toArray, List.set_cons_zero, List.set_cons_succ]
          refine takeH (i := 4) 148 (.int .i64 q.n) rfl rfl (by kernel_rfl) (by kernel_rfl) (by kernel_rfl) (fun _ _ _ h => h) (by rfl) ?_ (by assumption) ?_
          · intro w hSw; (try dsimp only at hSw); go_simp
          simp only [List.setIfInBounds_toArray, List.set_cons_zero, List.set_cons_succ]
          refine takeH (i := 6) 150 (.pointer (some ⟨yb, 0, none⟩)) rfl rfl (by kernel_rfl) (by kernel_rfl) (by kernel_rfl) (fun _ _ _ h => h) (by rfl) ?_ (by assumption) ?_
          · intro w hSw; (try dsimp only at hSw); go_simp
          simp only [List.setIfInBounds_toArray, List.set_cons_zero, List.set_cons_succ]
          refine takeH (i := 7) 151 (.pointer (some ⟨ob, 1, none⟩)) rfl rfl (by kernel_rfl) (by kernel_rfl) (by kernel_rfl) (fun _ _ _ h => h) (by rfl) ?_ (by assumption) ?_
          · intro w hSw; (try dsimp only at hSw); go_simp
          simp only [List.setIfInBounds_toArray, List.set_cons_zero, List.set_cons_succ]
          refine takeH (i := 8) 152 (.int .i64 q.t) rfl rfl (by kernel_rfl) (by kernel_rfl) (by kernel_rfl) (fun _ _ _ h => h) (by rfl) ?_ (by assumption) ?_
          · intro w hSw; (try dsimp only at hSw); go_simp
          simp only [List.setIfInBounds_toArray, List.set_cons_zero, List.set_cons_succ]
          refine takeH (i := 9) 153 (.pointer (some ⟨ob, 4, none⟩)) rfl rfl (by kernel_rfl) (by kernel_rfl) (by kernel_rfl) (fun _ _ _ h => h) (by rfl) ?_ (by assumption) ?_
          · intro w hSw; (try dsimp only at hSw); go_simp
          simp only [List.setIfInBounds_toArray, List.set_cons_zero, List.set_cons_succ]
          refine takeH (i := 10) 154 (.int .i64 q.n) rfl rfl (by kernel_rfl) (by kernel_rfl) (by kernel_rfl) (fun _ _ _ h => h) (by rfl) ?_ (by assumption) ?_
          · intro w hSw; (try dsimp only at hSw); go_simp
          simp only [List.setIfInBounds_toArray, List.set_cons_zero, List.set_cons_succ]
          refine wpAnyH_ready (rs := [5]) (by kernel_rfl) (by simp) ?_
          refine AllReadyH.cons rfl (fun K hK => ?_) AllReadyH.nil
          go_simp
          refine (pPut o5.drew q.t q.n).mono ?_; rintro e w6 ⟨rfl, p6, k6⟩; have v6 := (k6 ob (by simp)).trans vq; clear y0 y1 y2 y3 y4 y5 y6 y7 y8; obtain ⟨z0, z1, z2, z3, z4, z5, z6, z7, z8⟩ := opv_cells v6
          refine hK.out _ _ ⟨z1, z4⟩ (fun hHeld => ?_)
          clear hK K
          try simp only [Act.put, List.setIfInBounds_toArray, List.set_cons_zero, List.set_cons_succ]
          refine wpAnyH_ready (rs := [11]) (by kernel_rfl) (by simp) ?_
          refine AllReadyH.cons rfl (fun K hK => ?_) AllReadyH.nil
          go_simp
          refine (qPut p6 q.t q.n).mono ?_; rintro e w7 ⟨rfl, p7, k7⟩; have v7 := (k7 ob (by simp)).trans v6; clear z0 z1 z2 z3 z4 z5 z6 z7 z8; obtain ⟨z0, z1, z2, z3, z4, z5, z6, z7, z8⟩ := opv_cells v7
          refine hK.out _ _ ⟨z1, z4⟩ (fun hHeld => ?_)
          clear hK K
          try simp only [Act.put, List.setIfInBounds_toArray, List.set_cons_zero, List.set_cons_succ]
          refine takeH (i := 12) 156 (.bool false) rfl rfl (by kernel_rfl) (by kernel_rfl) (by kernel_rfl) (fun _ _ _ h => h) (by rfl) ?_ (by assumption) ?_
          · intro w hSw; (try dsimp only at hSw); go_simp
          simp only [List.setIfInBounds_toArray, List.set_cons_zero, List.set_cons_succ]
          refine wpAnyH_done (by kernel_rfl) ?_ _
          clear z0 z1 z2 z3 z4 z5 z6 z7 z8
          go_wp2_with (first
            | (go_at_call 31; refine (pShape p7).mono ?_; rintro e w11 ⟨ar, al, rfl, p11, hb11, r11, l11⟩)
            | (go_at_call 32; refine (qShape p11).mono ?_; rintro e w12 ⟨br, bl, rfl, p12, hb12, r12, l12⟩)
            | (go_at_call 30; refine (oSame p12.fg ar al br bl (r11.below hb12) (l11.below hb12) r12 l12).mono ?_; rintro e w13 ⟨rfl, hb13⟩; have p13 := p12.below hb13))
          go_roundw
          case rel => exact ⟨k + 1, _, b, by omega, by omega, by go_num, rfl, p13.less (by simp), by rw [Gr.n_put]; omega⟩
          case measure => simp [intOf]; omega
        · as_aux_lemma =>
          go_wp2
          refine wp_region_held_drew (S := fun w' => w'.cell? ⟨ob, 1, none⟩ = some (.int .i64 q.t) ∧ w'.cell? ⟨ob, 2, none⟩ = some (.int .i64 q.i) ∧ w'.cell? ⟨ob, 3, none⟩ = some (.int .i64 q.f) ∧ w'.cell? ⟨ob, 5, none⟩ = some (.int .i64 q.a) ∧ w'.cell? ⟨ob, 6, none⟩ = some (.int .i64 q.b)) (by kernel_rfl) ⟨y1, y2, y3, y5, y6⟩ (fun hHeld => ?_)
          refine takeH (i := 0) 160 (.pointer (some ⟨b, 0, none⟩)) rfl rfl (by kernel_rfl) (by kernel_rfl) (by kernel_rfl) (fun _ _ _ h => h) (by rfl) ?_ (by assumption) ?_
          · intro w hSw; (try dsimp only at hSw); go_simp
          simp only [List.setIfInBounds_toArray, List.set_cons_zero, List.set_cons_succ]
          refine takeH (i := 1) 161 (.pointer (some ⟨ob, 1, none⟩)) rfl rfl (by kernel_rfl) (by kernel_rfl) (by kernel_rfl) (fun _ _ _ h => h) (by rfl) ?_ (by assumption) ?_
          · intro w hSw; (try dsimp only at hSw); go_simp
          simp only [List.setIfInBounds_toArray, List.set_cons_zero, List.set_cons_succ]
          refine takeH (i := 2) 162 (.int .i64 q.t) rfl rfl (by kernel_rfl) (by kernel_rfl) (by kernel_rfl) (fun _ _ _ h => h) (by rfl) ?_ (by assumption) ?_
          · intro w hSw; (try dsimp only at hSw); go_simp
          simp only [List.setIfInBounds_toArray, List.set_cons_zero, List.set_cons_succ]
          refine takeH (i := 3) 163 (.pointer (some ⟨ob, 2, none⟩)) rfl rfl (by kernel_rfl) (by kernel_rfl) (by kernel_rfl) (fun _ _ _ h => h) (by rfl) ?_ (by assumption) ?_
          · intro w hSw; (try dsimp only at hSw); go_simp
          simp only [List.setIfInBounds_toArray, List.set_cons_zero, List.set_cons_succ]
          refine takeH (i := 4) 164 (.int .i64 q.i) rfl rfl (by kernel_rfl) (by kernel_rfl) (by kernel_rfl) (fun _ _ _ h => h) (by rfl) ?_ (by assumption) ?_
          · intro w hSw; (try dsimp only at hSw); go_simp
          simp only [List.setIfInBounds_toArray, List.set_cons_zero, List.set_cons_succ]
          refine takeH (i := 5) 165 (.pointer (some ⟨ob, 3, none⟩)) rfl rfl (by kernel_rfl) (by kernel_rfl) (by kernel_rfl) (fun _ _ _ h => h) (by rfl) ?_ (by assumption) ?_
          · intro w hSw; (try dsimp only at hSw); go_simp
          simp only [List.setIfInBounds_toArray, List.set_cons_zero, List.set_cons_succ]
          refine takeH (i := 6) 166 (.int .i64 q.f) rfl rfl (by kernel_rfl) (by kernel_rfl) (by kernel_rfl) (fun _ _ _ h => h) (by rfl) ?_ (by assumption) ?_
          · intro w hSw; (try dsimp only at hSw); go_simp
          simp only [List.setIfInBounds_toArray, List.set_cons_zero, List.set_cons_succ]
          refine takeH (i := 7) 167 (.pointer (some ⟨ob, 5, none⟩)) rfl rfl (by kernel_rfl) (by kernel_rfl) (by kernel_rfl) (fun _ _ _ h => h) (by rfl) ?_ (by assumption) ?_
          · intro w hSw; (try dsimp only at hSw); go_simp
          simp only [List.setIfInBounds_toArray, List.set_cons_zero, List.set_cons_succ]
          refine takeH (i := 8) 168 (.agg #[.int .i64 q.a, .int .i64 q.b]) rfl rfl (by kernel_rfl) (by kernel_rfl) (by kernel_rfl) (fun _ _ _ h => h) (by rfl) ?_ (by assumption) ?_
          · intro w hSw; (try dsimp only at hSw); go_simp
          simp only [List.setIfInBounds_toArray, List.set_cons_zero, List.set_cons_succ]
          refine takeH (i := 10) 170 (.pointer (some ⟨yb, 0, none⟩)) rfl rfl (by kernel_rfl) (by kernel_rfl) (by kernel_rfl) (fun _ _ _ h => h) (by rfl) ?_ (by assumption) ?_
          · intro w hSw; (try dsimp only at hSw); go_simp
          simp only [List.setIfInBounds_toArray, List.set_cons_zero, List.set_cons_succ]
          refine takeH (i := 11) 171 (.pointer (some ⟨ob, 1, none⟩)) rfl rfl (by kernel_rfl) (by kernel_rfl) (by kernel_rfl) (fun _ _ _ h => h) (by rfl) ?_ (by assumption) ?_
          · intro w hSw; (try dsimp only at hSw); go_simp
          simp only [List.setIfInBounds_toArray, List.set_cons_zero, List.set_cons_succ]
          refine takeH (i := 12) 172 (.int .i64 q.t) rfl rfl (by kernel_rfl) (by kernel_rfl) (by kernel_rfl) (fun _ _ _ h => h) (by rfl) ?_ (by assumption) ?_
          · intro w hSw; (try dsimp only at hSw); go_simp
          simp only [List.setIfInBounds_toArray, List.set_cons_zero, List.set_cons_succ]
          refine takeH (i := 13) 173 (.pointer (some ⟨ob, 2, none⟩)) rfl rfl (by kernel_rfl) (by kernel_rfl) (by kernel_rfl) (fun _ _ _ h => h) (by rfl) ?_ (by assumption) ?_
          · intro w hSw; (try dsimp only at hSw); go_simp
          simp only [List.setIfInBounds_toArray, List.set_cons_zero, List.set_cons_succ]
          refine takeH (i := 14) 174 (.int .i64 q.i) rfl rfl (by kernel_rfl) (by kernel_rfl) (by kernel_rfl) (fun _ _ _ h => h) (by rfl) ?_ (by assumption) ?_
          · intro w hSw; (try dsimp only at hSw); go_simp
          simp only [List.setIfInBounds_toArray, List.set_cons_zero, List.set_cons_succ]
          refine takeH (i := 15) 175 (.pointer (some ⟨ob, 3, none⟩)) rfl rfl (by kernel_rfl) (by kernel_rfl) (by kernel_rfl) (fun _ _ _ h => h) (by rfl) ?_ (by assumption) ?_
          · intro w hSw; (try dsimp only at hSw); go_simp
          simp only [List.setIfInBounds_toArray, List.set_cons_zero, List.set_cons_succ]
          refine takeH (i := 16) 176 (.int .i64 q.f) rfl rfl (by kernel_rfl) (by kernel_rfl) (by kernel_rfl) (fun _ _ _ h => h) (by rfl) ?_ (by assumption) ?_
          · intro w hSw; (try dsimp only at hSw); go_simp
          simp only [List.setIfInBounds_toArray, List.set_cons_zero, List.set_cons_succ]
          refine takeH (i := 17) 177 (.pointer (some ⟨ob, 5, none⟩)) rfl rfl (by kernel_rfl) (by kernel_rfl) (by kernel_rfl) (fun _ _ _ h => h) (by rfl) ?_ (by assumption) ?_
          · intro w hSw; (try dsimp only at hSw); go_simp
          simp only [List.setIfInBounds_toArray, List.set_cons_zero, List.set_cons_succ]
          refine takeH (i := 18) 178 (.agg #[.int .i64 q.a, .int .i64 q.b]) rfl rfl (by kernel_rfl) (by kernel_rfl) (by kernel_rfl) (fun _ _ _ h => h) (by rfl) ?_ (by assumption) ?_
          · intro w hSw; (try dsimp only at hSw); go_simp
          simp only [List.setIfInBounds_toArray, List.set_cons_zero, List.set_cons_succ]
          refine wpAnyH_ready (rs := [9]) (by kernel_rfl) (by simp) ?_
          refine AllReadyH.cons rfl (fun K hK => ?_) AllReadyH.nil
          go_simp
          refine (pWrite o5.drew q.t q.i q.f q.a q.b).mono ?_; rintro e w6 ⟨rfl, p6, k6⟩; have v6 := (k6 ob (by simp)).trans vq; clear y0 y1 y2 y3 y4 y5 y6 y7 y8; obtain ⟨z0, z1, z2, z3, z4, z5, z6, z7, z8⟩ := opv_cells v6
          refine hK.out _ _ ⟨z1, z2, z3, z5, z6⟩ (fun hHeld => ?_)
          clear hK K
          try simp only [Act.put, List.setIfInBounds_toArray, List.set_cons_zero, List.set_cons_succ]
          refine wpAnyH_ready (rs := [19]) (by kernel_rfl) (by simp) ?_
          refine AllReadyH.cons rfl (fun K hK => ?_) AllReadyH.nil
          go_simp
          refine (qWrite p6 q.t q.i q.f q.a q.b).mono ?_; rintro e w7 ⟨rfl, p7, k7⟩; have v7 := (k7 ob (by simp)).trans v6; clear z0 z1 z2 z3 z4 z5 z6 z7 z8; obtain ⟨z0, z1, z2, z3, z4, z5, z6, z7, z8⟩ := opv_cells v7
          refine hK.out _ _ ⟨z1, z2, z3, z5, z6⟩ (fun hHeld => ?_)
          clear hK K
          try simp only [Act.put, List.setIfInBounds_toArray, List.set_cons_zero, List.set_cons_succ]
          refine takeH (i := 20) 180 (.bool false) rfl rfl (by kernel_rfl) (by kernel_rfl) (by kernel_rfl) (fun _ _ _ h => h) (by rfl) ?_ (by assumption) ?_
          · intro w hSw; (try dsimp only at hSw); go_simp
          simp only [List.setIfInBounds_toArray, List.set_cons_zero, List.set_cons_succ]
          refine wpAnyH_done (by kernel_rfl) ?_ _
          clear z0 z1 z2 z3 z4 z5 z6 z7 z8
          go_wp2_with (first
            | (go_at_call 31; refine (pShape p7).mono ?_; rintro e w11 ⟨ar, al, rfl, p11, hb11, r11, l11⟩)
            | (go_at_call 32; refine (qShape p11).mono ?_; rintro e w12 ⟨br, bl, rfl, p12, hb12, r12, l12⟩)
            | (go_at_call 30; refine (oSame p12.fg ar al br bl (r11.below hb12) (l11.below hb12) r12 l12).mono ?_; rintro e w13 ⟨rfl, hb13⟩; have p13 := p12.below hb13))
          go_roundw
          case rel => exact ⟨k + 1, _, b, by omega, by omega, by go_num, rfl, p13.less (by simp), by rw [Gr.n_write]; omega⟩
          case measure => simp [intOf]; omega
        · as_aux_lemma =>
          go_wp2
          refine wp_region_held_drew (S := fun w' => w'.cell? ⟨ob, 1, none⟩ = some (.int .i64 q.t) ∧ w'.cell? ⟨ob, 2, none⟩ = some (.int .i64 q.i) ∧ w'.cell? ⟨ob, 3, none⟩ = some (.int .i64 q.f) ∧ w'.cell? ⟨ob, 5, none⟩ = some (.int .i64 q.a) ∧ w'.cell? ⟨ob, 6, none⟩ = some (.int .i64 q.b)) (by kernel_rfl) ⟨y1, y2, y3, y5, y6⟩ (fun hHeld => ?_)
          refine takeH (i := 0) 160 (.pointer (some ⟨b, 0, none⟩)) rfl rfl (by kernel_rfl) (by kernel_rfl) (by kernel_rfl) (fun _ _ _ h => h) (by rfl) ?_ (by assumption) ?_
          · intro w hSw; (try dsimp only at hSw); go_simp
          simp only [List.setIfInBounds_toArray, List.set_cons_zero, List.set_cons_succ]
          refine takeH (i := 1) 161 (.pointer (some ⟨ob, 1, none⟩)) rfl rfl (by kernel_rfl) (by kernel_rfl) (by kernel_rfl) (fun _ _ _ h => h) (by rfl) ?_ (by assumption) ?_
          · intro w hSw; (try dsimp only at hSw); go_simp
          simp only [List.setIfInBounds_toArray, List.set_cons_zero, List.set_cons_succ]
          refine takeH (i := 2) 162 (.int .i64 q.t) rfl rfl (by kernel_rfl) (by kernel_rfl) (by kernel_rfl) (fun _ _ _ h => h) (by rfl) ?_ (by assumption) ?_
          · intro w hSw; (try dsimp only at hSw); go_simp
          simp only [List.setIfInBounds_toArray, List.set_cons_zero, List.set_cons_succ]
          refine takeH (i := 3) 163 (.pointer (some ⟨ob, 2, none⟩)) rfl rfl (by kernel_rfl) (by kernel_rfl) (by kernel_rfl) (fun _ _ _ h => h) (by rfl) ?_ (by assumption) ?_
          · intro w hSw; (try dsimp only at hSw); go_simp
          simp only [List.setIfInBounds_toArray, List.set_cons_zero, List.set_cons_succ]
          refine takeH (i := 4) 164 (.int .i64 q.i) rfl rfl (by kernel_rfl) (by kernel_rfl) (by kernel_rfl) (fun _ _ _ h => h) (by rfl) ?_ (by assumption) ?_
          · intro w hSw; (try dsimp only at hSw); go_simp
          simp only [List.setIfInBounds_toArray, List.set_cons_zero, List.set_cons_succ]
          refine takeH (i := 5) 165 (.pointer (some ⟨ob, 3, none⟩)) rfl rfl (by kernel_rfl) (by kernel_rfl) (by kernel_rfl) (fun _ _ _ h => h) (by rfl) ?_ (by assumption) ?_
          · intro w hSw; (try dsimp only at hSw); go_simp
          simp only [List.setIfInBounds_toArray, List.set_cons_zero, List.set_cons_succ]
          refine takeH (i := 6) 166 (.int .i64 q.f) rfl rfl (by kernel_rfl) (by kernel_rfl) (by kernel_rfl) (fun _ _ _ h => h) (by rfl) ?_ (by assumption) ?_
          · intro w hSw; (try dsimp only at hSw); go_simp
          simp only [List.setIfInBounds_toArray, List.set_cons_zero, List.set_cons_succ]
          refine takeH (i := 7) 167 (.pointer (some ⟨ob, 5, none⟩)) rfl rfl (by kernel_rfl) (by kernel_rfl) (by kernel_rfl) (fun _ _ _ h => h) (by rfl) ?_ (by assumption) ?_
          · intro w hSw; (try dsimp only at hSw); go_simp
          simp only [List.setIfInBounds_toArray, List.set_cons_zero, List.set_cons_succ]
          refine takeH (i := 8) 168 (.agg #[.int .i64 q.a, .int .i64 q.b]) rfl rfl (by kernel_rfl) (by kernel_rfl) (by kernel_rfl) (fun _ _ _ h => h) (by rfl) ?_ (by assumption) ?_
          · intro w hSw; (try dsimp only at hSw); go_simp
          simp only [List.setIfInBounds_toArray, List.set_cons_zero, List.set_cons_succ]
          refine takeH (i := 10) 170 (.pointer (some ⟨yb, 0, none⟩)) rfl rfl (by kernel_rfl) (by kernel_rfl) (by kernel_rfl) (fun _ _ _ h => h) (by rfl) ?_ (by assumption) ?_
          · intro w hSw; (try dsimp only at hSw); go_simp
          simp only [List.setIfInBounds_toArray, List.set_cons_zero, List.set_cons_succ]
          refine takeH (i := 11) 171 (.pointer (some ⟨ob, 1, none⟩)) rfl rfl (by kernel_rfl) (by kernel_rfl) (by kernel_rfl) (fun _ _ _ h => h) (by rfl) ?_ (by assumption) ?_
          · intro w hSw; (try dsimp only at hSw); go_simp
          simp only [List.setIfInBounds_toArray, List.set_cons_zero, List.set_cons_succ]
          refine takeH (i := 12) 172 (.int .i64 q.t) rfl rfl (by kernel_rfl) (by kernel_rfl) (by kernel_rfl) (fun _ _ _ h => h) (by rfl) ?_ (by assumption) ?_
          · intro w hSw; (try dsimp only at hSw); go_simp
          simp only [List.setIfInBounds_toArray, List.set_cons_zero, List.set_cons_succ]
          refine takeH (i := 13) 173 (.pointer (some ⟨ob, 2, none⟩)) rfl rfl (by kernel_rfl) (by kernel_rfl) (by kernel_rfl) (fun _ _ _ h => h) (by rfl) ?_ (by assumption) ?_
          · intro w hSw; (try dsimp only at hSw); go_simp
          simp only [List.setIfInBounds_toArray, List.set_cons_zero, List.set_cons_succ]
          refine takeH (i := 14) 174 (.int .i64 q.i) rfl rfl (by kernel_rfl) (by kernel_rfl) (by kernel_rfl) (fun _ _ _ h => h) (by rfl) ?_ (by assumption) ?_
          · intro w hSw; (try dsimp only at hSw); go_simp
          simp only [List.setIfInBounds_toArray, List.set_cons_zero, List.set_cons_succ]
          refine takeH (i := 15) 175 (.pointer (some ⟨ob, 3, none⟩)) rfl rfl (by kernel_rfl) (by kernel_rfl) (by kernel_rfl) (fun _ _ _ h => h) (by rfl) ?_ (by assumption) ?_
          · intro w hSw; (try dsimp only at hSw); go_simp
          simp only [List.setIfInBounds_toArray, List.set_cons_zero, List.set_cons_succ]
          refine takeH (i := 16) 176 (.int .i64 q.f) rfl rfl (by kernel_rfl) (by kernel_rfl) (by kernel_rfl) (fun _ _ _ h => h) (by rfl) ?_ (by assumption) ?_
          · intro w hSw; (try dsimp only at hSw); go_simp
          simp only [List.setIfInBounds_toArray, List.set_cons_zero, List.set_cons_succ]
          refine takeH (i := 17) 177 (.pointer (some ⟨ob, 5, none⟩)) rfl rfl (by kernel_rfl) (by kernel_rfl) (by kernel_rfl) (fun _ _ _ h => h) (by rfl) ?_ (by assumption) ?_
          · intro w hSw; (try dsimp only at hSw); go_simp
          simp only [List.setIfInBounds_toArray, List.set_cons_zero, List.set_cons_succ]
          refine takeH (i := 18) 178 (.agg #[.int .i64 q.a, .int .i64 q.b]) rfl rfl (by kernel_rfl) (by kernel_rfl) (by kernel_rfl) (fun _ _ _ h => h) (by rfl) ?_ (by assumption) ?_
          · intro w hSw; (try dsimp only at hSw); go_simp
          simp only [List.setIfInBounds_toArray, List.set_cons_zero, List.set_cons_succ]
          refine wpAnyH_ready (rs := [9]) (by kernel_rfl) (by simp) ?_
          refine AllReadyH.cons rfl (fun K hK => ?_) AllReadyH.nil
          go_simp
          refine (pWrite o5.drew q.t q.i q.f q.a q.b).mono ?_; rintro e w6 ⟨rfl, p6, k6⟩; have v6 := (k6 ob (by simp)).trans vq; clear y0 y1 y2 y3 y4 y5 y6 y7 y8; obtain ⟨z0, z1, z2, z3, z4, z5, z6, z7, z8⟩ := opv_cells v6
          refine hK.out _ _ ⟨z1, z2, z3, z5, z6⟩ (fun hHeld => ?_)
          clear hK K
          try simp only [Act.put, List.setIfInBounds_toArray, List.set_cons_zero, List.set_cons_succ]
          refine wpAnyH_ready (rs := [19]) (by kernel_rfl) (by simp) ?_
          refine AllReadyH.cons rfl (fun K hK => ?_) AllReadyH.nil
          go_simp
          refine (qWrite p6 q.t q.i q.f q.a q.b).mono ?_; rintro e w7 ⟨rfl, p7, k7⟩; have v7 := (k7 ob (by simp)).trans v6; clear z0 z1 z2 z3 z4 z5 z6 z7 z8; obtain ⟨z0, z1, z2, z3, z4, z5, z6, z7, z8⟩ := opv_cells v7
          refine hK.out _ _ ⟨z1, z2, z3, z5, z6⟩ (fun hHeld => ?_)
          clear hK K
          try simp only [Act.put, List.setIfInBounds_toArray, List.set_cons_zero, List.set_cons_succ]
          refine takeH (i := 20) 180 (.bool false) rfl rfl (by kernel_rfl) (by kernel_rfl) (by kernel_rfl) (fun _ _ _ h => h) (by rfl) ?_ (by assumption) ?_
          · intro w hSw; (try dsimp only at hSw); go_simp
          simp only [List.setIfInBounds_toArray, List.set_cons_zero, List.set_cons_succ]
          refine wpAnyH_done (by kernel_rfl) ?_ _
          clear z0 z1 z2 z3 z4 z5 z6 z7 z8
          go_wp2_with (first
            | (go_at_call 31; refine (pShape p7).mono ?_; rintro e w11 ⟨ar, al, rfl, p11, hb11, r11, l11⟩)
            | (go_at_call 32; refine (qShape p11).mono ?_; rintro e w12 ⟨br, bl, rfl, p12, hb12, r12, l12⟩)
            | (go_at_call 30; refine (oSame p12.fg ar al br bl (r11.below hb12) (l11.below hb12) r12 l12).mono ?_; rintro e w13 ⟨rfl, hb13⟩; have p13 := p12.below hb13))
          go_roundw
          case rel => exact ⟨k + 1, _, b, by omega, by omega, by go_num, rfl, p13.less (by simp), by rw [Gr.n_write]; omega⟩
          case measure => simp [intOf]; omega
        · as_aux_lemma =>
          go_wp2_with (first
            | (go_at_call 21; refine (pSwap o5 q.t q.i q.f q.a q.b q.c q.d).mono ?_; rintro e w6 ⟨rfl, p6, k6⟩; have v6 := (k6 ob (by simp)).trans vq; clear y0 y1 y2 y3 y4 y5 y6 y7 y8; obtain ⟨z0, z1, z2, z3, z4, z5, z6, z7, z8⟩ := opv_cells v6)
            | (go_at_call 22; refine (qSwap p6 q.t q.i q.f q.a q.b q.c q.d).mono ?_; rintro e w7 ⟨rfl, p7, k7⟩; clear z0 z1 z2 z3 z4 z5 z6 z7 z8)
            | (go_at_call 31; refine (pShape p7).mono ?_; rintro e w11 ⟨ar, al, rfl, p11, hb11, r11, l11⟩)
            | (go_at_call 32; refine (qShape p11).mono ?_; rintro e w12 ⟨br, bl, rfl, p12, hb12, r12, l12⟩)
            | (go_at_call 30; refine (oSame p12.fg ar al br bl (r11.below hb12) (l11.below hb12) r12 l12).mono ?_; rintro e w13 ⟨rfl, hb13⟩; have p13 := p12.below hb13))
          go_roundw
          case rel => exact ⟨k + 1, _, b, by omega, by omega, by go_num, rfl, p13.less (by simp), by rw [Gr.n_swap]; omega⟩
          case measure => simp [intOf]; omega
        · as_aux_lemma =>
          go_wp2_with (first
            | (go_at_call 21; refine (pSwap o5 q.t q.i q.f q.a q.b q.c q.d).mono ?_; rintro e w6 ⟨rfl, p6, k6⟩; have v6 := (k6 ob (by simp)).trans vq; clear y0 y1 y2 y3 y4 y5 y6 y7 y8; obtain ⟨z0, z1, z2, z3, z4, z5, z6, z7, z8⟩ := opv_cells v6)
            | (go_at_call 22; refine (qSwap p6 q.t q.i q.f q.a q.b q.c q.d).mono ?_; rintro e w7 ⟨rfl, p7, k7⟩; clear z0 z1 z2 z3 z4 z5 z6 z7 z8)
            | (go_at_call 31; refine (pShape p7).mono ?_; rintro e w11 ⟨ar, al, rfl, p11, hb11, r11, l11⟩)
            | (go_at_call 32; refine (qShape p11).mono ?_; rintro e w12 ⟨br, bl, rfl, p12, hb12, r12, l12⟩)
            | (go_at_call 30; refine (oSame p12.fg ar al br bl (r11.below hb12) (l11.below hb12) r12 l12).mono ?_; rintro e w13 ⟨rfl, hb13⟩; have p13 := p12.below hb13))
          go_roundw
          case rel => exact ⟨k + 1, _, b, by omega, by omega, by go_num, rfl, p13.less (by simp), by rw [Gr.n_swap]; omega⟩
          case measure => simp [intOf]; omega
        · as_aux_lemma =>
          go_wp2_with (first
            | (go_at_call 23; refine (pEq o5 q.t q.i q.f).mono ?_; rintro e w6 ⟨rfl, p6, h6⟩; have v6 := (o5.keeps h6 ob (by simp)).trans vq; clear y0 y1 y2 y3 y4 y5 y6 y7 y8; obtain ⟨z0, z1, z2, z3, z4, z5, z6, z7, z8⟩ := opv_cells v6)
            | (go_at_call 24; refine (qEq p6 q.t q.i q.f).mono ?_; rintro e w7 ⟨rfl, p7, h7⟩; clear z0 z1 z2 z3 z4 z5 z6 z7 z8)
            | (go_at_call 31; refine (pShape p7).mono ?_; rintro e w11 ⟨ar, al, rfl, p11, hb11, r11, l11⟩)
            | (go_at_call 32; refine (qShape p11).mono ?_; rintro e w12 ⟨br, bl, rfl, p12, hb12, r12, l12⟩)
            | (go_at_call 30; refine (oSame p12.fg ar al br bl (r11.below hb12) (l11.below hb12) r12 l12).mono ?_; rintro e w13 ⟨rfl, hb13⟩; have p13 := p12.below hb13))
          go_roundw
          case rel => exact ⟨k + 1, _, b, by omega, by omega, by go_num, rfl, p13.less (by simp), by omega⟩
          case measure => simp [intOf]; omega
        · as_aux_lemma =>
          go_wp2
          refine wp_region_held_drew (S := fun w' => w'.cell? ⟨ob, 1, none⟩ = some (.int .i64 q.t) ∧ w'.cell? ⟨ob, 2, none⟩ = some (.int .i64 q.i)) (by kernel_rfl) ⟨y1, y2⟩ (fun hHeld => ?_)
          refine takeH (i := 0) 256 (.pointer (some ⟨b, 0, none⟩)) rfl rfl (by kernel_rfl) (by kernel_rfl) (by kernel_rfl) (fun _ _ _ h => h) (by rfl) ?_ (by assumption) ?_
          · intro w hSw; (try dsimp only at hSw); go_simp
          simp only [List.setIfInBounds_toArray, List.set_cons_zero, List.set_cons_succ]
          refine takeH (i := 1) 257 (.pointer (some ⟨ob, 1, none⟩)) rfl rfl (by kernel_rfl) (by kernel_rfl) (by kernel_rfl) (fun _ _ _ h => h) (by rfl) ?_ (by assumption) ?_
          · intro w hSw; (try dsimp only at hSw); go_simp
          simp only [List.setIfInBounds_toArray, List.set_cons_zero, List.set_cons_succ]
          refine takeH (i := 2) 258 (.int .i64 q.t) rfl rfl (by kernel_rfl) (by kernel_rfl) (by kernel_rfl) (fun _ _ _ h => h) (by rfl) ?_ (by assumption) ?_
          · intro w hSw; (try dsimp only at hSw); go_simp
          simp only [List.setIfInBounds_toArray, List.set_cons_zero, List.set_cons_succ]
          refine takeH (i := 3) 259 (.pointer (some ⟨ob, 2, none⟩)) rfl rfl (by kernel_rfl) (by kernel_rfl) (by kernel_rfl) (fun _ _ _ h => h) (by rfl) ?_ (by assumption) ?_
          · intro w hSw; (try dsimp only at hSw); go_simp
          simp only [List.setIfInBounds_toArray, List.set_cons_zero, List.set_cons_succ]
          refine takeH (i := 4) 260 (.int .i64 q.i) rfl rfl (by kernel_rfl) (by kernel_rfl) (by kernel_rfl) (fun _ _ _ h => h) (by rfl) ?_ (by assumption) ?_
          · intro w hSw; (try dsimp only at hSw); go_simp
          simp only [List.setIfInBounds_toArray, List.set_cons_zero, List.set_cons_succ]
          refine takeH (i := 6) 262 (.pointer (some ⟨yb, 0, none⟩)) rfl rfl (by kernel_rfl) (by kernel_rfl) (by kernel_rfl) (fun _ _ _ h => h) (by rfl) ?_ (by assumption) ?_
          · intro w hSw; (try dsimp only at hSw); go_simp
          simp only [List.setIfInBounds_toArray, List.set_cons_zero, List.set_cons_succ]
          refine takeH (i := 7) 263 (.pointer (some ⟨ob, 1, none⟩)) rfl rfl (by kernel_rfl) (by kernel_rfl) (by kernel_rfl) (fun _ _ _ h => h) (by rfl) ?_ (by assumption) ?_
          · intro w hSw; (try dsimp only at hSw); go_simp
          simp only [List.setIfInBounds_toArray, List.set_cons_zero, List.set_cons_succ]
          refine takeH (i := 8) 264 (.int .i64 q.t) rfl rfl (by kernel_rfl) (by kernel_rfl) (by kernel_rfl) (fun _ _ _ h => h) (by rfl) ?_ (by assumption) ?_
          · intro w hSw; (try dsimp only at hSw); go_simp
          simp only [List.setIfInBounds_toArray, List.set_cons_zero, List.set_cons_succ]
          refine takeH (i := 9) 265 (.pointer (some ⟨ob, 2, none⟩)) rfl rfl (by kernel_rfl) (by kernel_rfl) (by kernel_rfl) (fun _ _ _ h => h) (by rfl) ?_ (by assumption) ?_
          · intro w hSw; (try dsimp only at hSw); go_simp
          simp only [List.setIfInBounds_toArray, List.set_cons_zero, List.set_cons_succ]
          refine takeH (i := 10) 266 (.int .i64 q.i) rfl rfl (by kernel_rfl) (by kernel_rfl) (by kernel_rfl) (fun _ _ _ h => h) (by rfl) ?_ (by assumption) ?_
          · intro w hSw; (try dsimp only at hSw); go_simp
          simp only [List.setIfInBounds_toArray, List.set_cons_zero, List.set_cons_succ]
          refine wpAnyH_ready (rs := [5]) (by kernel_rfl) (by simp) ?_
          refine AllReadyH.cons rfl (fun K hK => ?_) AllReadyH.nil
          go_simp
          refine (pDup o5.drew q.t q.i).mono ?_; rintro e w6 ⟨rfl, p6, k6⟩; have v6 := (k6 ob (by simp)).trans vq; clear y0 y1 y2 y3 y4 y5 y6 y7 y8; obtain ⟨z0, z1, z2, z3, z4, z5, z6, z7, z8⟩ := opv_cells v6
          refine hK.out _ _ ⟨z1, z2⟩ (fun hHeld => ?_)
          clear hK K
          try simp only [Act.put, List.setIfInBounds_toArray, List.set_cons_zero, List.set_cons_succ]
          refine wpAnyH_ready (rs := [11]) (by kernel_rfl) (by simp) ?_
          refine AllReadyH.cons rfl (fun K hK => ?_) AllReadyH.nil
          go_simp
          refine (qDup p6 q.t q.i).mono ?_; rintro e w7 ⟨rfl, p7, k7⟩; have v7 := (k7 ob (by simp)).trans v6; clear z0 z1 z2 z3 z4 z5 z6 z7 z8; obtain ⟨z0, z1, z2, z3, z4, z5, z6, z7, z8⟩ := opv_cells v7
          refine hK.out _ _ ⟨z1, z2⟩ (fun hHeld => ?_)
          clear hK K
          try simp only [Act.put, List.setIfInBounds_toArray, List.set_cons_zero, List.set_cons_succ]
          refine takeH (i := 12) 268 (.bool false) rfl rfl (by kernel_rfl) (by kernel_rfl) (by kernel_rfl) (fun _ _ _ h => h) (by rfl) ?_ (by assumption) ?_
          · intro w hSw; (try dsimp only at hSw); go_simp
          simp only [List.setIfInBounds_toArray, List.set_cons_zero, List.set_cons_succ]
          refine wpAnyH_done (by kernel_rfl) ?_ _
          clear z0 z1 z2 z3 z4 z5 z6 z7 z8
          go_wp2_with (first
            | (go_at_call 31; refine (pShape p7).mono ?_; rintro e w11 ⟨ar, al, rfl, p11, hb11, r11, l11⟩)
            | (go_at_call 32; refine (qShape p11).mono ?_; rintro e w12 ⟨br, bl, rfl, p12, hb12, r12, l12⟩)
            | (go_at_call 30; refine (oSame p12.fg ar al br bl (r11.below hb12) (l11.below hb12) r12 l12).mono ?_; rintro e w13 ⟨rfl, hb13⟩; have p13 := p12.below hb13))
          go_roundw
          case rel => exact ⟨k + 1, _, b, by omega, by omega, by go_num, rfl, p13.less (by simp), by rw [Gr.n_dup]; omega⟩
          case measure => simp [intOf]; omega
        · as_aux_lemma =>
          go_wp2
          refine wp_region_held_drew (S := fun w' => w'.cell? ⟨ob, 1, none⟩ = some (.int .i64 q.t)) (by kernel_rfl) y1 (fun hHeld => ?_)
          refine takeH (i := 0) 271 (.pointer (some ⟨b, 0, none⟩)) rfl rfl (by kernel_rfl) (by kernel_rfl) (by kernel_rfl) (fun _ _ _ h => h) (by rfl) ?_ (by assumption) ?_
          · intro w hSw; (try dsimp only at hSw); go_simp
          simp only [List.setIfInBounds_toArray, List.set_cons_zero, List.set_cons_succ]
          refine takeH (i := 1) 272 (.pointer (some ⟨ob, 1, none⟩)) rfl rfl (by kernel_rfl) (by kernel_rfl) (by kernel_rfl) (fun _ _ _ h => h) (by rfl) ?_ (by assumption) ?_
          · intro w hSw; (try dsimp only at hSw); go_simp
          simp only [List.setIfInBounds_toArray, List.set_cons_zero, List.set_cons_succ]
          refine takeH (i := 2) 273 (.int .i64 q.t) rfl rfl (by kernel_rfl) (by kernel_rfl) (by kernel_rfl) (fun _ _ _ h => h) (by rfl) ?_ (by assumption) ?_
          · intro w hSw; (try dsimp only at hSw); go_simp
          simp only [List.setIfInBounds_toArray, List.set_cons_zero, List.set_cons_succ]
          refine takeH (i := 4) 275 (.pointer (some ⟨yb, 0, none⟩)) rfl rfl (by kernel_rfl) (by kernel_rfl) (by kernel_rfl) (fun _ _ _ h => h) (by rfl) ?_ (by assumption) ?_
          · intro w hSw; (try dsimp only at hSw); go_simp
          simp only [List.setIfInBounds_toArray, List.set_cons_zero, List.set_cons_succ]
          refine takeH (i := 5) 276 (.pointer (some ⟨ob, 1, none⟩)) rfl rfl (by kernel_rfl) (by kernel_rfl) (by kernel_rfl) (fun _ _ _ h => h) (by rfl) ?_ (by assumption) ?_
          · intro w hSw; (try dsimp only at hSw); go_simp
          simp only [List.setIfInBounds_toArray, List.set_cons_zero, List.set_cons_succ]
          refine takeH (i := 6) 277 (.int .i64 q.t) rfl rfl (by kernel_rfl) (by kernel_rfl) (by kernel_rfl) (fun _ _ _ h => h) (by rfl) ?_ (by assumption) ?_
          · intro w hSw; (try dsimp only at hSw); go_simp
          simp only [List.setIfInBounds_toArray, List.set_cons_zero, List.set_cons_succ]
          refine wpAnyH_ready (rs := [3]) (by kernel_rfl) (by simp) ?_
          refine AllReadyH.cons rfl (fun K hK => ?_) AllReadyH.nil
          go_simp
          refine (pDrop o5.drew q.t).mono ?_; rintro e w6 ⟨rfl, p6, k6⟩; have v6 := (k6 ob (by simp)).trans vq; clear y0 y1 y2 y3 y4 y5 y6 y7 y8; obtain ⟨z0, z1, z2, z3, z4, z5, z6, z7, z8⟩ := opv_cells v6
          refine hK.out _ _ z1 (fun hHeld => ?_)
          clear hK K
          try simp only [Act.put, List.setIfInBounds_toArray, List.set_cons_zero, List.set_cons_succ]
          refine wpAnyH_ready (rs := [7]) (by kernel_rfl) (by simp) ?_
          refine AllReadyH.cons rfl (fun K hK => ?_) AllReadyH.nil
          go_simp
          refine (qDrop p6 q.t).mono ?_; rintro e w7 ⟨rfl, p7, k7⟩; have v7 := (k7 ob (by simp)).trans v6; clear z0 z1 z2 z3 z4 z5 z6 z7 z8; obtain ⟨z0, z1, z2, z3, z4, z5, z6, z7, z8⟩ := opv_cells v7
          refine hK.out _ _ z1 (fun hHeld => ?_)
          clear hK K
          try simp only [Act.put, List.setIfInBounds_toArray, List.set_cons_zero, List.set_cons_succ]
          refine takeH (i := 8) 279 (.bool false) rfl rfl (by kernel_rfl) (by kernel_rfl) (by kernel_rfl) (fun _ _ _ h => h) (by rfl) ?_ (by assumption) ?_
          · intro w hSw; (try dsimp only at hSw); go_simp
          simp only [List.setIfInBounds_toArray, List.set_cons_zero, List.set_cons_succ]
          refine wpAnyH_done (by kernel_rfl) ?_ _
          clear z0 z1 z2 z3 z4 z5 z6 z7 z8
          go_wp2_with (first
            | (go_at_call 31; refine (pShape p7).mono ?_; rintro e w11 ⟨ar, al, rfl, p11, hb11, r11, l11⟩)
            | (go_at_call 32; refine (qShape p11).mono ?_; rintro e w12 ⟨br, bl, rfl, p12, hb12, r12, l12⟩)
            | (go_at_call 30; refine (oSame p12.fg ar al br bl (r11.below hb12) (l11.below hb12) r12 l12).mono ?_; rintro e w13 ⟨rfl, hb13⟩; have p13 := p12.below hb13))
          go_roundw
          case rel => exact ⟨k + 1, _, b, by omega, by omega, by go_num, rfl, p13.less (by simp), by rw [Gr.n_drop]; omega⟩
          case measure => simp [intOf]; omega
        · as_aux_lemma =>
          go_wp2_with (first
            | (go_at_call 29; refine (pClone o5).mono ?_; rintro e w6 ⟨b2, rfl, t6, h6⟩)
            | (go_at_call 13; refine (tAlloc t6 (by omega) 0 1).mono ?_; rintro e w7 ⟨rfl, t7, k7⟩)
            | (go_at_call 19; refine (tWrite t7 0 0 0 0 9).mono ?_; rintro e w8 ⟨rfl, t8, k8⟩)
            | (go_at_call 27; refine (tDrop t8 0).mono ?_; rintro e w10 ⟨rfl, t9, k9⟩; have p9 := t9.pair)
            | (go_at_call 31; refine (pShape p9).mono ?_; rintro e w11 ⟨ar, al, rfl, p11, hb11, r11, l11⟩)
            | (go_at_call 32; refine (qShape p11).mono ?_; rintro e w12 ⟨br, bl, rfl, p12, hb12, r12, l12⟩)
            | (go_at_call 30; refine (oSame p12.fg ar al br bl (r11.below hb12) (l11.below hb12) r12 l12).mono ?_; rintro e w13 ⟨rfl, hb13⟩; have p13 := p12.below hb13))
          go_roundw
          case rel => exact ⟨k + 1, _, b2, by omega, by omega, by go_num, rfl, p13.less (by simp), by omega⟩
          case measure => simp [intOf]; omega
    case neg =>
      clear hl
      go_wp2
      all_goals
        go_ret
        exact ⟨rfl, p4.bel⟩

set_option maxRecDepth 100000 in
set_option maxHeartbeats 8000000 in
theorem wPlaysBad (n : Int) (hn : n < 1 ∨ 64 < n) (ao : Option Addr) (len cap : Nat) (w : World) :
    Calls Try.prog 3 #[.int .i64 n, .slice ao len cap] w fun e w' => e = .returned (.bool true) ∧ Below w.heap.size w w' := by
  go_enter Try.func3, Try.ntmps3
  go_wp2_with (first
    | (go_at_call 9; refine (cShown _).mono ?_; rintro e w1 ⟨rfl, hb1⟩)
    | (go_at_call 10; refine (cNewBad _ n hn).mono ?_; rintro e w2 ⟨rfl, hw2⟩; rw [hw2]; clear hw2 w2)
    | (go_at_call 11; refine (yNewBad _ n hn).mono ?_; rintro e w2 ⟨rfl, hw2⟩; rw [hw2]; clear hw2 w2))
  go_loopw [6, 10] (fun gv i wr => gv = .pointer none ∧ i = .int .i64 0 ∧ Below w.heap.size w wr) (fun _ _ _ => 0)
  case atStart => exact ⟨rfl, rfl, hb1⟩
  case round =>
    obtain ⟨rfl, rfl, hb⟩ := hrel
    by_cases h0 : 0 < len
    · have h0' : (0 : Int) < (len : Int) := by omega
      go_wp2
      go_ret
      exact ⟨rfl, hb⟩
    · have h0' : ¬ (0 : Int) < (len : Int) := by omega
      go_wp2
      go_ret
      exact ⟨rfl, hb⟩
theorem wGraphPlays (n : Int) (ao : Option Addr) (len cap : Nat) (z : Nat → Op9) (w : World) (hl : Came w ao len z) (hn0 : -9223372036854775808 ≤ n) (hn1 : n ≤ 9223372036854775807) :
    Calls Try.prog 3 #[.int .i64 n, .slice ao len cap] w fun e w' => e = .returned (.bool true) ∧ Below w.heap.size w w' := by
  by_cases h : 1 ≤ n ∧ n ≤ 64
  · obtain ⟨m, rfl⟩ : ∃ m : Nat, n = m := ⟨n.toNat, by omega⟩
    exact wPlaysGood m (by omega) (by omega) ao len cap z w hl
  · exact wPlaysBad n (by omega) ao len cap w
end Go.Proofs.Ytbihdkdefopijaa
