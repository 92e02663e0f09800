/-
  The walk of GraphBad.
-/
import Derived.Test.YtbihdkdefopijaaOg
import Derived.Test.YtbihdkdefopijaaSu
namespace Go.Proofs.Ytbihdkdefopijaa
set_option linter.unusedVariables false
set_option linter.unusedSimpArgs false
open Go.ChangeShapes Go.WideShapes Go.ChangeAt Go.RowKit

set_option maxRecDepth 100000 in
set_option maxHeartbeats 4000000 in
theorem wGraphBad (ao : Option Addr) (len cap : Nat) (z : Nat → Op9) (q : Op9) (w : World) (hl : Came w ao len z) (qf : q.Fit) :
    Calls Try.prog 8 #[.slice ao len cap, .agg (opv q)] w fun e w' => e = .returned (.bool true) ∧ Below w.heap.size w w' := by
  have hq0 := heap_alloc_new w (.cells (opv q) 34)
  have hB0 := bal (Below.refl w.heap.size w) (.cells (opv q) 34)
  go_enter Try.func8, Try.ntmps8
  go_wp2_with (first
    | (go_at_call 9; refine (cShown _).mono ?_; rintro e w1 ⟨rfl, hb1⟩; have v1 := (hb1.block w.heap.size (by simp)).trans hq0; have hB1 := bt hB0 hb1)
    | (go_at_call 10; refine (oNew _ 1 (by decide) (by decide) hB1).mono ?_; rintro e w2 ⟨b, rfl, o2, hb2⟩; have v2 := (hb2.block w.heap.size (lt_of_block v1)).trans v1))
  obtain ⟨ob, hob⟩ : ∃ n, n = w.heap.size := ⟨_, rfl⟩
  rw [← hob] at v2 ⊢
  have hob' : w.heap.size ≤ ob := by omega
  clear hob v1 hq0 hB0 hB1 hb1 hb2
  go_loopw [8] (fun i wr => ∃ (k : Nat) (g : Gr), k ≤ len ∧ k ≤ 20 ∧ i = .int .i64 k ∧ Own w wr b g k ∧ wr.heap[ob]? = some (.cells (opv q) 34 (0, 0))) (fun i _ => 20 - (intOf i).toNat)
  case atStart => exact ⟨0, _, Nat.zero_le _, by decide, rfl, o2, v2⟩
  case round =>
    clear o2 v2
    obtain ⟨k, g, hk, hk20, rfl, o2, v2⟩ := hrel
    obtain ⟨wo, rfl⟩ : ∃ wo : World, wo = wr := ⟨_, rfl⟩
    have k0 : (0 : Int) ≤ (k : Int) := by omega
    by_cases hlt : k < len ∧ k < 20
    case pos =>
      obtain ⟨hlt, hl20⟩ := hlt
      have kl : (k : Int) < (len : Int) := by omega
      have kl20 : (k : Int) < 20 := by omega
      rcases hl with hl | ⟨lb, off, rfl, hl⟩
      case inl => omega
      case inr =>
        have lf := hl.fit k hlt
        have ops := hl.on o2.bel
        have x3 := ops.c3 k hlt
        have keepS : ∀ u, Below w.heap.size w u → u.cell? ⟨lb, off + k * 9 + 2, none⟩ = some (.int .i64 (z k).i) ∧ u.cell? ⟨lb, off + k * 9 + 3, none⟩ = some (.int .i64 (z k).f) ∧ u.cell? ⟨lb, off + k * 9 + 5, none⟩ = some (.int .i64 (z k).a) ∧ u.cell? ⟨lb, off + k * 9 + 5 + 1, none⟩ = some (.int .i64 (z k).b) ∧ u.cell? ⟨lb, off + k * 9 + 6, none⟩ = some (.int .i64 (z k).b) := fun u hb => ⟨(hl.on hb).c2 k hlt, (hl.on hb).c3 k hlt, (hl.on hb).c5 k hlt, (hl.on hb).c6 k hlt, (hl.on hb).c6 k hlt⟩
        go_wp2_with (first
          | (go_at_call 12; refine (cKind _ (z k).f 8 lf.f0 lf.f1 (by decide)).mono ?_; rintro e w9 ⟨rfl, hw9⟩; rw [hw9]; clear hw9 w9)
          | (go_at_call 13; refine (oAlloc o2 (by omega) 0 (kd (z k).f 8)).mono ?_; rintro e w3 ⟨rfl, o3, hO3⟩; have v3 := hO3 _ _ _ _ (by decide) v2))
        refine wp_region_held_drew (S := fun w' => w'.cell? ⟨lb, off + k * 9 + 2, none⟩ = some (.int .i64 (z k).i) ∧ w'.cell? ⟨lb, off + k * 9 + 3, none⟩ = some (.int .i64 (z k).f) ∧ w'.cell? ⟨lb, off + k * 9 + 5, none⟩ = some (.int .i64 (z k).a) ∧ w'.cell? ⟨lb, off + k * 9 + 5 + 1, none⟩ = some (.int .i64 (z k).b) ∧ w'.cell? ⟨lb, off + k * 9 + 6, none⟩ = some (.int .i64 (z k).b)) (by kernel_rfl) (keepS _ o3.bel.drew) (fun hHeld => ?_)
        refine takeH (i := 0) 43 (.pointer (some ⟨b, 0, none⟩)) rfl rfl (by kernel_rfl) (by kernel_rfl) (by kernel_rfl) (fun _ _ _ h => h) (by rfl) ?_ (by assumption) ?_
        · intro w hSw; (try dsimp only at hSw); go_simp
        simp only [List.setIfInBounds_toArray, List.set_cons_zero, List.set_cons_succ]
        refine takeH (i := 1) 44 (.slice (some ⟨lb, off, none⟩) len cap) rfl rfl (by kernel_rfl) (by kernel_rfl) (by kernel_rfl) (fun _ _ _ h => h) (by rfl) ?_ (by assumption) ?_
        · intro w hSw; (try dsimp only at hSw); go_simp
        simp only [List.setIfInBounds_toArray, List.set_cons_zero, List.set_cons_succ]
        refine takeH (i := 2) 45 (.int .i64 k) rfl rfl (by kernel_rfl) (by kernel_rfl) (by kernel_rfl) (fun _ _ _ h => h) (by rfl) ?_ (by assumption) ?_
        · intro w hSw; (try dsimp only at hSw); go_simp
        simp only [List.setIfInBounds_toArray, List.set_cons_zero, List.set_cons_succ]
        refine takeH (i := 3) 46 (.pointer (some ⟨lb, off + k * 9, none⟩)) rfl rfl (by kernel_rfl) (by kernel_rfl) (by kernel_rfl) (fun _ _ _ h => h) (by rfl) ?_ (by assumption) ?_
        · intro w hSw; (try dsimp only at hSw); go_simp
        simp only [List.setIfInBounds_toArray, List.set_cons_zero, List.set_cons_succ]
        refine takeH (i := 4) 47 (.pointer (some ⟨lb, off + k * 9 + 2, none⟩)) rfl rfl (by kernel_rfl) (by kernel_rfl) (by kernel_rfl) (fun _ _ _ h => h) (by rfl) ?_ (by assumption) ?_
        · intro w hSw; (try dsimp only at hSw); go_simp
        simp only [List.setIfInBounds_toArray, List.set_cons_zero, List.set_cons_succ]
        refine takeH (i := 5) 48 (.int .i64 (z k).i) rfl rfl (by kernel_rfl) (by kernel_rfl) (by kernel_rfl) (fun _ _ _ h => h) (by rfl) ?_ (by assumption) ?_
        · intro w hSw; (try dsimp only at hSw); go_simp
        simp only [List.setIfInBounds_toArray, List.set_cons_zero, List.set_cons_succ]
        refine takeH (i := 7) 50 (.slice (some ⟨lb, off, none⟩) len cap) rfl rfl (by kernel_rfl) (by kernel_rfl) (by kernel_rfl) (fun _ _ _ h => h) (by rfl) ?_ (by assumption) ?_
        · intro w hSw; (try dsimp only at hSw); go_simp
        simp only [List.setIfInBounds_toArray, List.set_cons_zero, List.set_cons_succ]
        refine takeH (i := 8) 51 (.int .i64 k) rfl rfl (by kernel_rfl) (by kernel_rfl) (by kernel_rfl) (fun _ _ _ h => h) (by rfl) ?_ (by assumption) ?_
        · intro w hSw; (try dsimp only at hSw); go_simp
        simp only [List.setIfInBounds_toArray, List.set_cons_zero, List.set_cons_succ]
        refine takeH (i := 9) 52 (.pointer (some ⟨lb, off + k * 9, none⟩)) rfl rfl (by kernel_rfl) (by kernel_rfl) (by kernel_rfl) (fun _ _ _ h => h) (by rfl) ?_ (by assumption) ?_
        · intro w hSw; (try dsimp only at hSw); go_simp
        simp only [List.setIfInBounds_toArray, List.set_cons_zero, List.set_cons_succ]
        refine takeH (i := 10) 53 (.pointer (some ⟨lb, off + k * 9 + 3, none⟩)) rfl rfl (by kernel_rfl) (by kernel_rfl) (by kernel_rfl) (fun _ _ _ h => h) (by rfl) ?_ (by assumption) ?_
        · intro w hSw; (try dsimp only at hSw); go_simp
        simp only [List.setIfInBounds_toArray, List.set_cons_zero, List.set_cons_succ]
        refine takeH (i := 11) 54 (.int .i64 (z k).f) rfl rfl (by kernel_rfl) (by kernel_rfl) (by kernel_rfl) (fun _ _ _ h => h) (by rfl) ?_ (by assumption) ?_
        · intro w hSw; (try dsimp only at hSw); go_simp
        simp only [List.setIfInBounds_toArray, List.set_cons_zero, List.set_cons_succ]
        refine takeH (i := 13) 56 (.slice (some ⟨lb, off, none⟩) len cap) rfl rfl (by kernel_rfl) (by kernel_rfl) (by kernel_rfl) (fun _ _ _ h => h) (by rfl) ?_ (by assumption) ?_
        · intro w hSw; (try dsimp only at hSw); go_simp
        simp only [List.setIfInBounds_toArray, List.set_cons_zero, List.set_cons_succ]
        refine takeH (i := 14) 57 (.int .i64 k) rfl rfl (by kernel_rfl) (by kernel_rfl) (by kernel_rfl) (fun _ _ _ h => h) (by rfl) ?_ (by assumption) ?_
        · intro w hSw; (try dsimp only at hSw); go_simp
        simp only [List.setIfInBounds_toArray, List.set_cons_zero, List.set_cons_succ]
        refine takeH (i := 15) 58 (.pointer (some ⟨lb, off + k * 9, none⟩)) rfl rfl (by kernel_rfl) (by kernel_rfl) (by kernel_rfl) (fun _ _ _ h => h) (by rfl) ?_ (by assumption) ?_
        · intro w hSw; (try dsimp only at hSw); go_simp
        simp only [List.setIfInBounds_toArray, List.set_cons_zero, List.set_cons_succ]
        refine takeH (i := 16) 59 (.pointer (some ⟨lb, off + k * 9 + 5, none⟩)) rfl rfl (by kernel_rfl) (by kernel_rfl) (by kernel_rfl) (fun _ _ _ h => h) (by rfl) ?_ (by assumption) ?_
        · intro w hSw; (try dsimp only at hSw); go_simp
        simp only [List.setIfInBounds_toArray, List.set_cons_zero, List.set_cons_succ]
        refine takeH (i := 17) 60 (.agg #[.int .i64 (z k).a, .int .i64 (z k).b]) rfl rfl (by kernel_rfl) (by kernel_rfl) (by kernel_rfl) (fun _ _ _ h => h) (by rfl) ?_ (by assumption) ?_
        · intro w hSw; (try dsimp only at hSw); go_simp
        simp only [List.setIfInBounds_toArray, List.set_cons_zero, List.set_cons_succ]
        refine wpAnyH_ready (rs := [6]) (by kernel_rfl) (by simp) ?_
        refine AllReadyH.cons rfl (fun K hK => ?_) AllReadyH.nil
        go_simp
        refine (cKind _ (z k).i 3 lf.i0 lf.i1 (by decide)).mono ?_; rintro e w9 ⟨rfl, hw9⟩; rw [hw9]; clear hw9 w9
        refine hK.out _ _ hHeld (fun hHeld => ?_)
        clear hK K
        try simp only [Act.put, List.setIfInBounds_toArray, List.set_cons_zero, List.set_cons_succ]
        refine wpAnyH_ready (rs := [12]) (by kernel_rfl) (by simp) ?_
        refine AllReadyH.cons rfl (fun K hK => ?_) AllReadyH.nil
        go_simp
        refine (cKind _ (z k).f 4 lf.f0 lf.f1 (by decide)).mono ?_; rintro e w9 ⟨rfl, hw9⟩; rw [hw9]; clear hw9 w9
        refine hK.out _ _ hHeld (fun hHeld => ?_)
        clear hK K
        try simp only [Act.put, List.setIfInBounds_toArray, List.set_cons_zero, List.set_cons_succ]
        refine wpAnyH_ready (rs := [18]) (by kernel_rfl) (by simp) ?_
        refine AllReadyH.cons rfl (fun K hK => ?_) AllReadyH.nil
        go_simp
        refine (oWrite o3.drew 0 (kd (z k).i 3) (kd (z k).f 4) (z k).a (z k).b).mono ?_; rintro e w4 ⟨rfl, o4, hO4⟩; have v4 := hO4 _ _ _ _ (by decide) v3
        refine hK.out _ _ (keepS _ o4.bel) (fun hHeld => ?_)
        clear hK K
        try simp only [Act.put, List.setIfInBounds_toArray, List.set_cons_zero, List.set_cons_succ]
        refine wpAnyH_done (by kernel_rfl) ?_ _
        go_wp2
        go_roundw
        case rel => exact ⟨k + 1, _, by omega, by omega, by go_num, o4, v4⟩
        case measure => simp [intOf]; omega
    case neg =>
      have hd : (decide ((k : Int) < (len : Int)) && decide ((k : Int) < 20)) = false := by simp; omega
      have sz := shape_sizes o2.fit
      have hkb := kd_bounds q.k 6 (by decide)
      have hways : kd q.k 6 = 0 ∨ kd q.k 6 = 1 ∨ kd q.k 6 = 2 ∨ kd q.k 6 = 3 ∨ kd q.k 6 = 4 ∨ kd q.k 6 = 5 := by omega
      clear hkb hl
      rcases hways with hK | hK | hK | hK | hK | hK
      · by_cases hE : g.allocE q.t q.f = 0
        case pos =>
          as_aux_lemma =>
            go_wp2_with (first
              | (go_at_call 12; refine (cKind _ q.k 6 qf.k0 qf.k1 (by decide)).mono ?_; rintro e w9 ⟨rfl, hw9⟩; rw [hw9, hK]; clear hw9 w9)
              | (go_at_call 31; refine (oShape o2).mono ?_; rintro e w3 ⟨vr, vl, rfl, o3, h3, r3, s3⟩; obtain ⟨xr, nr, yr, rfl⟩ : ∃ a n c, vr = .slice a n c := (by obtain ⟨a, c, h⟩ := r3.slice; exact ⟨a, _, c, h⟩); obtain ⟨xl, nl, yl, rfl⟩ : ∃ a n c, vl = .slice a n c := (by obtain ⟨a, c, h⟩ := s3.slice; exact ⟨a, _, c, h⟩); have v3 := (h3.block ob (lt_of_block v2)).trans v2; obtain ⟨d0, d1, d2, d3, d4, d5, d6, d7, d8⟩ := opv_cells v3; have l3 : ob < w3.heap.size := lt_of_block v3; have v4 := heap_alloc_new w3 (.cells #[.slice xr nr yr, .slice xl nl yl] 50); have r4 := r3.on (w' := w3.alloc (.cells #[.slice xr nr yr, .slice xl nl yl] 50)) (q := fun _ => True) (fun j cs T' hb _ _ => ⟨Below.heap_alloc _ _ _ (lt_of_block hb), trivial⟩); have s4 := s3.on (w' := w3.alloc (.cells #[.slice xr nr yr, .slice xl nl yl] 50)) (q := fun _ => True) (fun j cs T' hb _ _ => ⟨Below.heap_alloc _ _ _ (lt_of_block hb), trivial⟩); have o4 := o3.alloc (.cells #[.slice xr nr yr, .slice xl nl yl] 50); obtain ⟨wb, hwb⟩ : ∃ n, n = w3.heap.size := ⟨_, rfl⟩; rw [← hwb] at v4)
              | (go_at_call 13; refine (oAlloc o4 (by omega) q.t q.f).mono ?_; rintro e w5 ⟨rfl, o5, hO5⟩; have v5 := hO5 _ _ _ _ (by decide) v4; have r5 := r4.others hO5 (by decide) (by decide); have s5 := s4.others hO5 (by decide) (by decide); rw [hE]))
            all_goals
              rw [← hwb]
              clear hwb
              have v5c0 : w5.cell? ⟨wb, 0, none⟩ = some (.slice xr nr yr) := by rw [cell_of_row w5 _ _ _ _ _ v5]; rfl
              have v5c1 : w5.cell? ⟨wb, 1, none⟩ = some (.slice xl nl yl) := by rw [cell_of_row w5 _ _ _ _ _ v5]; rfl
              have l5 := lt_of_block v5
              refine wp_region_held_drew (S := fun w' => w'.cell? ⟨wb, 0, none⟩ = some (.slice xr nr yr) ∧ w'.cell? ⟨wb, 1, none⟩ = some (.slice xl nl yl)) (by kernel_rfl) ⟨v5c0, v5c1⟩ (fun hHeld => ?_)
              refine takeH (i := 0) 133 (.agg #[.slice xr nr yr, .slice xl nl yl]) rfl rfl (by kernel_rfl) (by kernel_rfl) (by kernel_rfl) (fun _ _ _ h => h) (by rfl) ?_ (by assumption) ?_
              · intro w hSw; (try dsimp only at hSw); go_simp
              simp only [List.setIfInBounds_toArray, List.set_cons_zero, List.set_cons_succ]
              refine takeH (i := 1) 134 (.pointer (some ⟨b, 0, none⟩)) rfl rfl (by kernel_rfl) (by kernel_rfl) (by kernel_rfl) (fun _ _ _ h => h) (by rfl) ?_ (by assumption) ?_
              · intro w hSw; (try dsimp only at hSw); go_simp
              simp only [List.setIfInBounds_toArray, List.set_cons_zero, List.set_cons_succ]
              refine wpAnyH_ready (rs := [2]) (by kernel_rfl) (by simp) ?_
              refine AllReadyH.cons rfl (fun K hK => ?_) AllReadyH.nil
              go_simp
              refine (oShape o5.drew).mono ?_; rintro e w6 ⟨vr6, vl6, rfl, o6, h6, r6, s6⟩; have r7 := r5.on (w' := w6) (q := fun _ => True) (fun j cs T' hb _ _ => ⟨h6.block j (lt_of_block hb), trivial⟩); have s7 := s5.on (w' := w6) (q := fun _ => True) (fun j cs T' hb _ _ => ⟨h6.block j (lt_of_block hb), trivial⟩); have c6 := (h6.cell (p := ⟨wb, 0, none⟩) l5).trans v5c0; have c7 := (h6.cell (p := ⟨wb, 1, none⟩) l5).trans v5c1; have sz6 := shape_sizes o6.fit
              refine hK.out _ _ ⟨c6, c7⟩ (fun hHeld => ?_)
              clear hK K
              try simp only [Act.put, List.setIfInBounds_toArray, List.set_cons_zero, List.set_cons_succ]
              refine wpAnyH_ready (rs := [3]) (by kernel_rfl) (by simp) ?_
              refine AllReadyH.cons rfl (fun K hK => ?_) AllReadyH.nil
              go_simp
              refine (cSameAny _ _ _ _ _ _ _ _ r7 s7 r6 s6 sz.1 sz.2.1 sz.2.2.1 sz.2.2.2 sz6.1 sz6.2.1 sz6.2.2.1 sz6.2.2.2).mono ?_; rintro e w8 ⟨x, rfl, h8⟩
              refine hK.out _ _ ⟨(h8.cell (p := ⟨wb, 0, none⟩) (Nat.lt_of_lt_of_le l5 h6.size)).trans c6, (h8.cell (p := ⟨wb, 1, none⟩) (Nat.lt_of_lt_of_le l5 h6.size)).trans c7⟩ (fun hHeld => ?_)
              clear hK K
              try simp only [Act.put, List.setIfInBounds_toArray, List.set_cons_zero, List.set_cons_succ]
              refine takeH (i := 4) 13 (.bool x) rfl rfl (by kernel_rfl) (by kernel_rfl) (by kernel_rfl) (fun _ _ _ h => h) (by rfl) ?_ (by assumption) ?_
              · intro w hSw; (try dsimp only at hSw); go_simp
              simp only [List.setIfInBounds_toArray, List.set_cons_zero, List.set_cons_succ]
              refine wpAnyH_done (by kernel_rfl) ?_ _
              go_wp2
              go_ret
              exact ⟨by simp, bt o6.bel h8⟩
        case neg =>
          have hG : g.alloc q.t q.f = g := by unfold Gr.alloc; rw [if_neg hE]
          obtain ⟨ee, hee⟩ : ∃ ee, g.allocE q.t q.f = ee := ⟨_, rfl⟩
          have hE' : (ee == 0) = false := by rw [← hee]; simpa using hE
          as_aux_lemma =>
            go_wp2_with (first
              | (go_at_call 12; refine (cKind _ q.k 6 qf.k0 qf.k1 (by decide)).mono ?_; rintro e w9 ⟨rfl, hw9⟩; rw [hw9, hK]; clear hw9 w9)
              | (go_at_call 31; refine (oShape o2).mono ?_; rintro e w3 ⟨vr, vl, rfl, o3, h3, r3, s3⟩; obtain ⟨xr, nr, yr, rfl⟩ : ∃ a n c, vr = .slice a n c := (by obtain ⟨a, c, h⟩ := r3.slice; exact ⟨a, _, c, h⟩); obtain ⟨xl, nl, yl, rfl⟩ : ∃ a n c, vl = .slice a n c := (by obtain ⟨a, c, h⟩ := s3.slice; exact ⟨a, _, c, h⟩); have v3 := (h3.block ob (lt_of_block v2)).trans v2; obtain ⟨d0, d1, d2, d3, d4, d5, d6, d7, d8⟩ := opv_cells v3; have l3 : ob < w3.heap.size := lt_of_block v3; have v4 := heap_alloc_new w3 (.cells #[.slice xr nr yr, .slice xl nl yl] 50); have r4 := r3.on (w' := w3.alloc (.cells #[.slice xr nr yr, .slice xl nl yl] 50)) (q := fun _ => True) (fun j cs T' hb _ _ => ⟨Below.heap_alloc _ _ _ (lt_of_block hb), trivial⟩); have s4 := s3.on (w' := w3.alloc (.cells #[.slice xr nr yr, .slice xl nl yl] 50)) (q := fun _ => True) (fun j cs T' hb _ _ => ⟨Below.heap_alloc _ _ _ (lt_of_block hb), trivial⟩); have o4 := o3.alloc (.cells #[.slice xr nr yr, .slice xl nl yl] 50); obtain ⟨wb, hwb⟩ : ∃ n, n = w3.heap.size := ⟨_, rfl⟩; rw [← hwb] at v4)
              | (go_at_call 13; refine (oAlloc o4 (by omega) q.t q.f).mono ?_; rintro e w5 ⟨rfl, o5, hO5⟩; have v5 := hO5 _ _ _ _ (by decide) v4; have r5 := r4.others hO5 (by decide) (by decide); have s5 := s4.others hO5 (by decide) (by decide); rw [hee]; rw [hG] at o5))
            all_goals
              rw [← hwb]
              clear hwb
              have v5c0 : w5.cell? ⟨wb, 0, none⟩ = some (.slice xr nr yr) := by rw [cell_of_row w5 _ _ _ _ _ v5]; rfl
              have v5c1 : w5.cell? ⟨wb, 1, none⟩ = some (.slice xl nl yl) := by rw [cell_of_row w5 _ _ _ _ _ v5]; rfl
              have l5 := lt_of_block v5
              refine wp_region_held_drew (S := fun w' => w'.cell? ⟨wb, 0, none⟩ = some (.slice xr nr yr) ∧ w'.cell? ⟨wb, 1, none⟩ = some (.slice xl nl yl)) (by kernel_rfl) ⟨v5c0, v5c1⟩ (fun hHeld => ?_)
              refine takeH (i := 0) 133 (.agg #[.slice xr nr yr, .slice xl nl yl]) rfl rfl (by kernel_rfl) (by kernel_rfl) (by kernel_rfl) (fun _ _ _ h => h) (by rfl) ?_ (by assumption) ?_
              · intro w hSw; (try dsimp only at hSw); go_simp
              simp only [List.setIfInBounds_toArray, List.set_cons_zero, List.set_cons_succ]
              refine takeH (i := 1) 134 (.pointer (some ⟨b, 0, none⟩)) rfl rfl (by kernel_rfl) (by kernel_rfl) (by kernel_rfl) (fun _ _ _ h => h) (by rfl) ?_ (by assumption) ?_
              · intro w hSw; (try dsimp only at hSw); go_simp
              simp only [List.setIfInBounds_toArray, List.set_cons_zero, List.set_cons_succ]
              refine wpAnyH_ready (rs := [2]) (by kernel_rfl) (by simp) ?_
              refine AllReadyH.cons rfl (fun K hK => ?_) AllReadyH.nil
              go_simp
              refine (oShape o5.drew).mono ?_; rintro e w6 ⟨vr6, vl6, rfl, o6, h6, r6, s6⟩; have r7 := r5.on (w' := w6) (q := fun _ => True) (fun j cs T' hb _ _ => ⟨h6.block j (lt_of_block hb), trivial⟩); have s7 := s5.on (w' := w6) (q := fun _ => True) (fun j cs T' hb _ _ => ⟨h6.block j (lt_of_block hb), trivial⟩); have c6 := (h6.cell (p := ⟨wb, 0, none⟩) l5).trans v5c0; have c7 := (h6.cell (p := ⟨wb, 1, none⟩) l5).trans v5c1
              refine hK.out _ _ ⟨c6, c7⟩ (fun hHeld => ?_)
              clear hK K
              try simp only [Act.put, List.setIfInBounds_toArray, List.set_cons_zero, List.set_cons_succ]
              refine wpAnyH_ready (rs := [3]) (by kernel_rfl) (by simp) ?_
              refine AllReadyH.cons rfl (fun K hK => ?_) AllReadyH.nil
              go_simp
              refine (oSame o6.fit _ _ _ _ r7 s7 r6 s6).mono ?_; rintro e w8 ⟨rfl, h8⟩
              refine hK.out _ _ ⟨(h8.cell (p := ⟨wb, 0, none⟩) (Nat.lt_of_lt_of_le l5 h6.size)).trans c6, (h8.cell (p := ⟨wb, 1, none⟩) (Nat.lt_of_lt_of_le l5 h6.size)).trans c7⟩ (fun hHeld => ?_)
              clear hK K
              try simp only [Act.put, List.setIfInBounds_toArray, List.set_cons_zero, List.set_cons_succ]
              refine takeH (i := 4) 13 (.bool true) rfl rfl (by kernel_rfl) (by kernel_rfl) (by kernel_rfl) (fun _ _ _ h => h) (by rfl) ?_ (by assumption) ?_
              · intro w hSw; (try dsimp only at hSw); go_simp
              simp only [List.setIfInBounds_toArray, List.set_cons_zero, List.set_cons_succ]
              refine wpAnyH_done (by kernel_rfl) ?_ _
              go_wp2
              go_ret
              exact ⟨by simp, bt o6.bel h8⟩
      · by_cases hE : g.putE q.t q.n = 0
        case pos =>
          as_aux_lemma =>
            go_wp2_with (first
              | (go_at_call 12; refine (cKind _ q.k 6 qf.k0 qf.k1 (by decide)).mono ?_; rintro e w9 ⟨rfl, hw9⟩; rw [hw9, hK]; clear hw9 w9)
              | (go_at_call 31; refine (oShape o2).mono ?_; rintro e w3 ⟨vr, vl, rfl, o3, h3, r3, s3⟩; obtain ⟨xr, nr, yr, rfl⟩ : ∃ a n c, vr = .slice a n c := (by obtain ⟨a, c, h⟩ := r3.slice; exact ⟨a, _, c, h⟩); obtain ⟨xl, nl, yl, rfl⟩ : ∃ a n c, vl = .slice a n c := (by obtain ⟨a, c, h⟩ := s3.slice; exact ⟨a, _, c, h⟩); have v3 := (h3.block ob (lt_of_block v2)).trans v2; obtain ⟨d0, d1, d2, d3, d4, d5, d6, d7, d8⟩ := opv_cells v3; have l3 : ob < w3.heap.size := lt_of_block v3; have v4 := heap_alloc_new w3 (.cells #[.slice xr nr yr, .slice xl nl yl] 50); have r4 := r3.on (w' := w3.alloc (.cells #[.slice xr nr yr, .slice xl nl yl] 50)) (q := fun _ => True) (fun j cs T' hb _ _ => ⟨Below.heap_alloc _ _ _ (lt_of_block hb), trivial⟩); have s4 := s3.on (w' := w3.alloc (.cells #[.slice xr nr yr, .slice xl nl yl] 50)) (q := fun _ => True) (fun j cs T' hb _ _ => ⟨Below.heap_alloc _ _ _ (lt_of_block hb), trivial⟩); have o4 := o3.alloc (.cells #[.slice xr nr yr, .slice xl nl yl] 50); obtain ⟨wb, hwb⟩ : ∃ n, n = w3.heap.size := ⟨_, rfl⟩; rw [← hwb] at v4)
              | (go_at_call 17; refine (oPut o4 q.t q.n).mono ?_; rintro e w5 ⟨rfl, o5, hO5⟩; have v5 := hO5 _ _ _ _ (by decide) v4; have r5 := r4.others hO5 (by decide) (by decide); have s5 := s4.others hO5 (by decide) (by decide); rw [hE]))
            all_goals
              rw [← hwb]
              clear hwb
              have v5c0 : w5.cell? ⟨wb, 0, none⟩ = some (.slice xr nr yr) := by rw [cell_of_row w5 _ _ _ _ _ v5]; rfl
              have v5c1 : w5.cell? ⟨wb, 1, none⟩ = some (.slice xl nl yl) := by rw [cell_of_row w5 _ _ _ _ _ v5]; rfl
              have l5 := lt_of_block v5
              refine wp_region_held_drew (S := fun w' => w'.cell? ⟨wb, 0, none⟩ = some (.slice xr nr yr) ∧ w'.cell? ⟨wb, 1, none⟩ = some (.slice xl nl yl)) (by kernel_rfl) ⟨v5c0, v5c1⟩ (fun hHeld => ?_)
              refine takeH (i := 0) 133 (.agg #[.slice xr nr yr, .slice xl nl yl]) rfl rfl (by kernel_rfl) (by kernel_rfl) (by kernel_rfl) (fun _ _ _ h => h) (by rfl) ?_ (by assumption) ?_
              · intro w hSw; (try dsimp only at hSw); go_simp
              simp only [List.setIfInBounds_toArray, List.set_cons_zero, List.set_cons_succ]
              refine takeH (i := 1) 134 (.pointer (some ⟨b, 0, none⟩)) rfl rfl (by kernel_rfl) (by kernel_rfl) (by kernel_rfl) (fun _ _ _ h => h) (by rfl) ?_ (by assumption) ?_
              · intro w hSw; (try dsimp only at hSw); go_simp
              simp only [List.setIfInBounds_toArray, List.set_cons_zero, List.set_cons_succ]
              refine wpAnyH_ready (rs := [2]) (by kernel_rfl) (by simp) ?_
              refine AllReadyH.cons rfl (fun K hK => ?_) AllReadyH.nil
              go_simp
              refine (oShape o5.drew).mono ?_; rintro e w6 ⟨vr6, vl6, rfl, o6, h6, r6, s6⟩; have r7 := r5.on (w' := w6) (q := fun _ => True) (fun j cs T' hb _ _ => ⟨h6.block j (lt_of_block hb), trivial⟩); have s7 := s5.on (w' := w6) (q := fun _ => True) (fun j cs T' hb _ _ => ⟨h6.block j (lt_of_block hb), trivial⟩); have c6 := (h6.cell (p := ⟨wb, 0, none⟩) l5).trans v5c0; have c7 := (h6.cell (p := ⟨wb, 1, none⟩) l5).trans v5c1; have sz6 := shape_sizes o6.fit
              refine hK.out _ _ ⟨c6, c7⟩ (fun hHeld => ?_)
              clear hK K
              try simp only [Act.put, List.setIfInBounds_toArray, List.set_cons_zero, List.set_cons_succ]
              refine wpAnyH_ready (rs := [3]) (by kernel_rfl) (by simp) ?_
              refine AllReadyH.cons rfl (fun K hK => ?_) AllReadyH.nil
              go_simp
              refine (cSameAny _ _ _ _ _ _ _ _ r7 s7 r6 s6 sz.1 sz.2.1 sz.2.2.1 sz.2.2.2 sz6.1 sz6.2.1 sz6.2.2.1 sz6.2.2.2).mono ?_; rintro e w8 ⟨x, rfl, h8⟩
              refine hK.out _ _ ⟨(h8.cell (p := ⟨wb, 0, none⟩) (Nat.lt_of_lt_of_le l5 h6.size)).trans c6, (h8.cell (p := ⟨wb, 1, none⟩) (Nat.lt_of_lt_of_le l5 h6.size)).trans c7⟩ (fun hHeld => ?_)
              clear hK K
              try simp only [Act.put, List.setIfInBounds_toArray, List.set_cons_zero, List.set_cons_succ]
              refine takeH (i := 4) 13 (.bool x) rfl rfl (by kernel_rfl) (by kernel_rfl) (by kernel_rfl) (fun _ _ _ h => h) (by rfl) ?_ (by assumption) ?_
              · intro w hSw; (try dsimp only at hSw); go_simp
              simp only [List.setIfInBounds_toArray, List.set_cons_zero, List.set_cons_succ]
              refine wpAnyH_done (by kernel_rfl) ?_ _
              go_wp2
              go_ret
              exact ⟨by simp, bt o6.bel h8⟩
        case neg =>
          have hG : g.put q.t q.n = g := by unfold Gr.put; rw [if_neg hE]
          obtain ⟨ee, hee⟩ : ∃ ee, g.putE q.t q.n = ee := ⟨_, rfl⟩
          have hE' : (ee == 0) = false := by rw [← hee]; simpa using hE
          as_aux_lemma =>
            go_wp2_with (first
              | (go_at_call 12; refine (cKind _ q.k 6 qf.k0 qf.k1 (by decide)).mono ?_; rintro e w9 ⟨rfl, hw9⟩; rw [hw9, hK]; clear hw9 w9)
              | (go_at_call 31; refine (oShape o2).mono ?_; rintro e w3 ⟨vr, vl, rfl, o3, h3, r3, s3⟩; obtain ⟨xr, nr, yr, rfl⟩ : ∃ a n c, vr = .slice a n c := (by obtain ⟨a, c, h⟩ := r3.slice; exact ⟨a, _, c, h⟩); obtain ⟨xl, nl, yl, rfl⟩ : ∃ a n c, vl = .slice a n c := (by obtain ⟨a, c, h⟩ := s3.slice; exact ⟨a, _, c, h⟩); have v3 := (h3.block ob (lt_of_block v2)).trans v2; obtain ⟨d0, d1, d2, d3, d4, d5, d6, d7, d8⟩ := opv_cells v3; have l3 : ob < w3.heap.size := lt_of_block v3; have v4 := heap_alloc_new w3 (.cells #[.slice xr nr yr, .slice xl nl yl] 50); have r4 := r3.on (w' := w3.alloc (.cells #[.slice xr nr yr, .slice xl nl yl] 50)) (q := fun _ => True) (fun j cs T' hb _ _ => ⟨Below.heap_alloc _ _ _ (lt_of_block hb), trivial⟩); have s4 := s3.on (w' := w3.alloc (.cells #[.slice xr nr yr, .slice xl nl yl] 50)) (q := fun _ => True) (fun j cs T' hb _ _ => ⟨Below.heap_alloc _ _ _ (lt_of_block hb), trivial⟩); have o4 := o3.alloc (.cells #[.slice xr nr yr, .slice xl nl yl] 50); obtain ⟨wb, hwb⟩ : ∃ n, n = w3.heap.size := ⟨_, rfl⟩; rw [← hwb] at v4)
              | (go_at_call 17; refine (oPut o4 q.t q.n).mono ?_; rintro e w5 ⟨rfl, o5, hO5⟩; have v5 := hO5 _ _ _ _ (by decide) v4; have r5 := r4.others hO5 (by decide) (by decide); have s5 := s4.others hO5 (by decide) (by decide); rw [hee]; rw [hG] at o5))
            all_goals
              rw [← hwb]
              clear hwb
              have v5c0 : w5.cell? ⟨wb, 0, none⟩ = some (.slice xr nr yr) := by rw [cell_of_row w5 _ _ _ _ _ v5]; rfl
              have v5c1 : w5.cell? ⟨wb, 1, none⟩ = some (.slice xl nl yl) := by rw [cell_of_row w5 _ _ _ _ _ v5]; rfl
              have l5 := lt_of_block v5
              refine wp_region_held_drew (S := fun w' => w'.cell? ⟨wb, 0, none⟩ = some (.slice xr nr yr) ∧ w'.cell? ⟨wb, 1, none⟩ = some (.slice xl nl yl)) (by kernel_rfl) ⟨v5c0, v5c1⟩ (fun hHeld => ?_)
              refine takeH (i := 0) 133 (.agg #[.slice xr nr yr, .slice xl nl yl]) rfl rfl (by kernel_rfl) (by kernel_rfl) (by kernel_rfl) (fun _ _ _ h => h) (by rfl) ?_ (by assumption) ?_
              · intro w hSw; (try dsimp only at hSw); go_simp
              simp only [List.setIfInBounds_toArray, List.set_cons_zero, List.set_cons_succ]
              refine takeH (i := 1) 134 (.pointer (some ⟨b, 0, none⟩)) rfl rfl (by kernel_rfl) (by kernel_rfl) (by kernel_rfl) (fun _ _ _ h => h) (by rfl) ?_ (by assumption) ?_
              · intro w hSw; (try dsimp only at hSw); go_simp
              simp only [List.setIfInBounds_toArray, List.set_cons_zero, List.set_cons_succ]
              refine wpAnyH_ready (rs := [2]) (by kernel_rfl) (by simp) ?_
              refine AllReadyH.cons rfl (fun K hK => ?_) AllReadyH.nil
              go_simp
              refine (oShape o5.drew).mono ?_; rintro e w6 ⟨vr6, vl6, rfl, o6, h6, r6, s6⟩; have r7 := r5.on (w' := w6) (q := fun _ => True) (fun j cs T' hb _ _ => ⟨h6.block j (lt_of_block hb), trivial⟩); have s7 := s5.on (w' := w6) (q := fun _ => True) (fun j cs T' hb _ _ => ⟨h6.block j (lt_of_block hb), trivial⟩); have c6 := (h6.cell (p := ⟨wb, 0, none⟩) l5).trans v5c0; have c7 := (h6.cell (p := ⟨wb, 1, none⟩) l5).trans v5c1
              refine hK.out _ _ ⟨c6, c7⟩ (fun hHeld => ?_)
              clear hK K
              try simp only [Act.put, List.setIfInBounds_toArray, List.set_cons_zero, List.set_cons_succ]
              refine wpAnyH_ready (rs := [3]) (by kernel_rfl) (by simp) ?_
              refine AllReadyH.cons rfl (fun K hK => ?_) AllReadyH.nil
              go_simp
              refine (oSame o6.fit _ _ _ _ r7 s7 r6 s6).mono ?_; rintro e w8 ⟨rfl, h8⟩
              refine hK.out _ _ ⟨(h8.cell (p := ⟨wb, 0, none⟩) (Nat.lt_of_lt_of_le l5 h6.size)).trans c6, (h8.cell (p := ⟨wb, 1, none⟩) (Nat.lt_of_lt_of_le l5 h6.size)).trans c7⟩ (fun hHeld => ?_)
              clear hK K
              try simp only [Act.put, List.setIfInBounds_toArray, List.set_cons_zero, List.set_cons_succ]
              refine takeH (i := 4) 13 (.bool true) rfl rfl (by kernel_rfl) (by kernel_rfl) (by kernel_rfl) (fun _ _ _ h => h) (by rfl) ?_ (by assumption) ?_
              · intro w hSw; (try dsimp only at hSw); go_simp
              simp only [List.setIfInBounds_toArray, List.set_cons_zero, List.set_cons_succ]
              refine wpAnyH_done (by kernel_rfl) ?_ _
              go_wp2
              go_ret
              exact ⟨by simp, bt o6.bel h8⟩
      · by_cases hE : g.writeE q.t q.i q.f (q.a, q.b) = 0
        case pos =>
          as_aux_lemma =>
            go_wp2_with (first
              | (go_at_call 12; refine (cKind _ q.k 6 qf.k0 qf.k1 (by decide)).mono ?_; rintro e w9 ⟨rfl, hw9⟩; rw [hw9, hK]; clear hw9 w9)
              | (go_at_call 31; refine (oShape o2).mono ?_; rintro e w3 ⟨vr, vl, rfl, o3, h3, r3, s3⟩; obtain ⟨xr, nr, yr, rfl⟩ : ∃ a n c, vr = .slice a n c := (by obtain ⟨a, c, h⟩ := r3.slice; exact ⟨a, _, c, h⟩); obtain ⟨xl, nl, yl, rfl⟩ : ∃ a n c, vl = .slice a n c := (by obtain ⟨a, c, h⟩ := s3.slice; exact ⟨a, _, c, h⟩); have v3 := (h3.block ob (lt_of_block v2)).trans v2; obtain ⟨d0, d1, d2, d3, d4, d5, d6, d7, d8⟩ := opv_cells v3; have l3 : ob < w3.heap.size := lt_of_block v3; have v4 := heap_alloc_new w3 (.cells #[.slice xr nr yr, .slice xl nl yl] 50); have r4 := r3.on (w' := w3.alloc (.cells #[.slice xr nr yr, .slice xl nl yl] 50)) (q := fun _ => True) (fun j cs T' hb _ _ => ⟨Below.heap_alloc _ _ _ (lt_of_block hb), trivial⟩); have s4 := s3.on (w' := w3.alloc (.cells #[.slice xr nr yr, .slice xl nl yl] 50)) (q := fun _ => True) (fun j cs T' hb _ _ => ⟨Below.heap_alloc _ _ _ (lt_of_block hb), trivial⟩); have o4 := o3.alloc (.cells #[.slice xr nr yr, .slice xl nl yl] 50); obtain ⟨wb, hwb⟩ : ∃ n, n = w3.heap.size := ⟨_, rfl⟩; rw [← hwb] at v4)
              | (go_at_call 19; refine (oWrite o4 q.t q.i q.f q.a q.b).mono ?_; rintro e w5 ⟨rfl, o5, hO5⟩; have v5 := hO5 _ _ _ _ (by decide) v4; have r5 := r4.others hO5 (by decide) (by decide); have s5 := s4.others hO5 (by decide) (by decide); rw [hE]))
            all_goals
              rw [← hwb]
              clear hwb
              have v5c0 : w5.cell? ⟨wb, 0, none⟩ = some (.slice xr nr yr) := by rw [cell_of_row w5 _ _ _ _ _ v5]; rfl
              have v5c1 : w5.cell? ⟨wb, 1, none⟩ = some (.slice xl nl yl) := by rw [cell_of_row w5 _ _ _ _ _ v5]; rfl
              have l5 := lt_of_block v5
              refine wp_region_held_drew (S := fun w' => w'.cell? ⟨wb, 0, none⟩ = some (.slice xr nr yr) ∧ w'.cell? ⟨wb, 1, none⟩ = some (.slice xl nl yl)) (by kernel_rfl) ⟨v5c0, v5c1⟩ (fun hHeld => ?_)
              refine takeH (i := 0) 133 (.agg #[.slice xr nr yr, .slice xl nl yl]) rfl rfl (by kernel_rfl) (by kernel_rfl) (by kernel_rfl) (fun _ _ _ h => h) (by rfl) ?_ (by assumption) ?_
              · intro w hSw; (try dsimp only at hSw); go_simp
              simp only [List.setIfInBounds_toArray, List.set_cons_zero, List.set_cons_succ]
              refine takeH (i := 1) 134 (.pointer (some ⟨b, 0, none⟩)) rfl rfl (by kernel_rfl) (by kernel_rfl) (by kernel_rfl) (fun _ _ _ h => h) (by rfl) ?_ (by assumption) ?_
              · intro w hSw; (try dsimp only at hSw); go_simp
              simp only [List.setIfInBounds_toArray, List.set_cons_zero, List.set_cons_succ]
              refine wpAnyH_ready (rs := [2]) (by kernel_rfl) (by simp) ?_
              refine AllReadyH.cons rfl (fun K hK => ?_) AllReadyH.nil
              go_simp
              refine (oShape o5.drew).mono ?_; rintro e w6 ⟨vr6, vl6, rfl, o6, h6, r6, s6⟩; have r7 := r5.on (w' := w6) (q := fun _ => True) (fun j cs T' hb _ _ => ⟨h6.block j (lt_of_block hb), trivial⟩); have s7 := s5.on (w' := w6) (q := fun _ => True) (fun j cs T' hb _ _ => ⟨h6.block j (lt_of_block hb), trivial⟩); have c6 := (h6.cell (p := ⟨wb, 0, none⟩) l5).trans v5c0; have c7 := (h6.cell (p := ⟨wb, 1, none⟩) l5).trans v5c1; have sz6 := shape_sizes o6.fit
              refine hK.out _ _ ⟨c6, c7⟩ (fun hHeld => ?_)
              clear hK K
              try simp only [Act.put, List.setIfInBounds_toArray, List.set_cons_zero, List.set_cons_succ]
              refine wpAnyH_ready (rs := [3]) (by kernel_rfl) (by simp) ?_
              refine AllReadyH.cons rfl (fun K hK => ?_) AllReadyH.nil
              go_simp
              refine (cSameAny _ _ _ _ _ _ _ _ r7 s7 r6 s6 sz.1 sz.2.1 sz.2.2.1 sz.2.2.2 sz6.1 sz6.2.1 sz6.2.2.1 sz6.2.2.2).mono ?_; rintro e w8 ⟨x, rfl, h8⟩
              refine hK.out _ _ ⟨(h8.cell (p := ⟨wb, 0, none⟩) (Nat.lt_of_lt_of_le l5 h6.size)).trans c6, (h8.cell (p := ⟨wb, 1, none⟩) (Nat.lt_of_lt_of_le l5 h6.size)).trans c7⟩ (fun hHeld => ?_)
              clear hK K
              try simp only [Act.put, List.setIfInBounds_toArray, List.set_cons_zero, List.set_cons_succ]
              refine takeH (i := 4) 13 (.bool x) rfl rfl (by kernel_rfl) (by kernel_rfl) (by kernel_rfl) (fun _ _ _ h => h) (by rfl) ?_ (by assumption) ?_
              · intro w hSw; (try dsimp only at hSw); go_simp
              simp only [List.setIfInBounds_toArray, List.set_cons_zero, List.set_cons_succ]
              refine wpAnyH_done (by kernel_rfl) ?_ _
              go_wp2
              go_ret
              exact ⟨by simp, bt o6.bel h8⟩
        case neg =>
          have hG : g.write q.t q.i q.f (q.a, q.b) = g := by unfold Gr.write; rw [if_neg hE]
          obtain ⟨ee, hee⟩ : ∃ ee, g.writeE q.t q.i q.f (q.a, q.b) = ee := ⟨_, rfl⟩
          have hE' : (ee == 0) = false := by rw [← hee]; simpa using hE
          as_aux_lemma =>
            go_wp2_with (first
              | (go_at_call 12; refine (cKind _ q.k 6 qf.k0 qf.k1 (by decide)).mono ?_; rintro e w9 ⟨rfl, hw9⟩; rw [hw9, hK]; clear hw9 w9)
              | (go_at_call 31; refine (oShape o2).mono ?_; rintro e w3 ⟨vr, vl, rfl, o3, h3, r3, s3⟩; obtain ⟨xr, nr, yr, rfl⟩ : ∃ a n c, vr = .slice a n c := (by obtain ⟨a, c, h⟩ := r3.slice; exact ⟨a, _, c, h⟩); obtain ⟨xl, nl, yl, rfl⟩ : ∃ a n c, vl = .slice a n c := (by obtain ⟨a, c, h⟩ := s3.slice; exact ⟨a, _, c, h⟩); have v3 := (h3.block ob (lt_of_block v2)).trans v2; obtain ⟨d0, d1, d2, d3, d4, d5, d6, d7, d8⟩ := opv_cells v3; have l3 : ob < w3.heap.size := lt_of_block v3; have v4 := heap_alloc_new w3 (.cells #[.slice xr nr yr, .slice xl nl yl] 50); have r4 := r3.on (w' := w3.alloc (.cells #[.slice xr nr yr, .slice xl nl yl] 50)) (q := fun _ => True) (fun j cs T' hb _ _ => ⟨Below.heap_alloc _ _ _ (lt_of_block hb), trivial⟩); have s4 := s3.on (w' := w3.alloc (.cells #[.slice xr nr yr, .slice xl nl yl] 50)) (q := fun _ => True) (fun j cs T' hb _ _ => ⟨Below.heap_alloc _ _ _ (lt_of_block hb), trivial⟩); have o4 := o3.alloc (.cells #[.slice xr nr yr, .slice xl nl yl] 50); obtain ⟨wb, hwb⟩ : ∃ n, n = w3.heap.size := ⟨_, rfl⟩; rw [← hwb] at v4)
              | (go_at_call 19; refine (oWrite o4 q.t q.i q.f q.a q.b).mono ?_; rintro e w5 ⟨rfl, o5, hO5⟩; have v5 := hO5 _ _ _ _ (by decide) v4; have r5 := r4.others hO5 (by decide) (by decide); have s5 := s4.others hO5 (by decide) (by decide); rw [hee]; rw [hG] at o5))
            all_goals
              rw [← hwb]
              clear hwb
              have v5c0 : w5.cell? ⟨wb, 0, none⟩ = some (.slice xr nr yr) := by rw [cell_of_row w5 _ _ _ _ _ v5]; rfl
              have v5c1 : w5.cell? ⟨wb, 1, none⟩ = some (.slice xl nl yl) := by rw [cell_of_row w5 _ _ _ _ _ v5]; rfl
              have l5 := lt_of_block v5
              refine wp_region_held_drew (S := fun w' => w'.cell? ⟨wb, 0, none⟩ = some (.slice xr nr yr) ∧ w'.cell? ⟨wb, 1, none⟩ = some (.slice xl nl yl)) (by kernel_rfl) ⟨v5c0, v5c1⟩ (fun hHeld => ?_)
              refine takeH (i := 0) 133 (.agg #[.slice xr nr yr, .slice xl nl yl]) rfl rfl (by kernel_rfl) (by kernel_rfl) (by kernel_rfl) (fun _ _ _ h => h) (by rfl) ?_ (by assumption) ?_
              · intro w hSw; (try dsimp only at hSw); go_simp
              simp only [List.setIfInBounds_toArray, List.set_cons_zero, List.set_cons_succ]
              refine takeH (i := 1) 134 (.pointer (some ⟨b, 0, none⟩)) rfl rfl (by kernel_rfl) (by kernel_rfl) (by kernel_rfl) (fun _ _ _ h => h) (by rfl) ?_ (by assumption) ?_
              · intro w hSw; (try dsimp only at hSw); go_simp
              simp only [List.setIfInBounds_toArray, List.set_cons_zero, List.set_cons_succ]
              refine wpAnyH_ready (rs := [2]) (by kernel_rfl) (by simp) ?_
              refine AllReadyH.cons rfl (fun K hK => ?_) AllReadyH.nil
              go_simp
              refine (oShape o5.drew).mono ?_; rintro e w6 ⟨vr6, vl6, rfl, o6, h6, r6, s6⟩; have r7 := r5.on (w' := w6) (q := fun _ => True) (fun j cs T' hb _ _ => ⟨h6.block j (lt_of_block hb), trivial⟩); have s7 := s5.on (w' := w6) (q := fun _ => True) (fun j cs T' hb _ _ => ⟨h6.block j (lt_of_block hb), trivial⟩); have c6 := (h6.cell (p := ⟨wb, 0, none⟩) l5).trans v5c0; have c7 := (h6.cell (p := ⟨wb, 1, none⟩) l5).trans v5c1
              refine hK.out _ _ ⟨c6, c7⟩ (fun hHeld => ?_)
              clear hK K
              try simp only [Act.put, List.setIfInBounds_toArray, List.set_cons_zero, List.set_cons_succ]
              refine wpAnyH_ready (rs := [3]) (by kernel_rfl) (by simp) ?_
              refine AllReadyH.cons rfl (fun K hK => ?_) AllReadyH.nil
              go_simp
              refine (oSame o6.fit _ _ _ _ r7 s7 r6 s6).mono ?_; rintro e w8 ⟨rfl, h8⟩
              refine hK.out _ _ ⟨(h8.cell (p := ⟨wb, 0, none⟩) (Nat.lt_of_lt_of_le l5 h6.size)).trans c6, (h8.cell (p := ⟨wb, 1, none⟩) (Nat.lt_of_lt_of_le l5 h6.size)).trans c7⟩ (fun hHeld => ?_)
              clear hK K
              try simp only [Act.put, List.setIfInBounds_toArray, List.set_cons_zero, List.set_cons_succ]
              refine takeH (i := 4) 13 (.bool true) rfl rfl (by kernel_rfl) (by kernel_rfl) (by kernel_rfl) (fun _ _ _ h => h) (by rfl) ?_ (by assumption) ?_
              · intro w hSw; (try dsimp only at hSw); go_simp
              simp only [List.setIfInBounds_toArray, List.set_cons_zero, List.set_cons_succ]
              refine wpAnyH_done (by kernel_rfl) ?_ _
              go_wp2
              go_ret
              exact ⟨by simp, bt o6.bel h8⟩
      · by_cases hE : g.swapE q.t q.i q.f (q.a, q.b) (q.c, q.d) = 0
        case pos =>
          rcases hY : g.swapY q.t q.i q.f (q.a, q.b) (q.c, q.d) with _ | _
          case true =>
            as_aux_lemma =>
              go_wp2_with (first
                | (go_at_call 12; refine (cKind _ q.k 6 qf.k0 qf.k1 (by decide)).mono ?_; rintro e w9 ⟨rfl, hw9⟩; rw [hw9, hK]; clear hw9 w9)
                | (go_at_call 31; refine (oShape o2).mono ?_; rintro e w3 ⟨vr, vl, rfl, o3, h3, r3, s3⟩; obtain ⟨xr, nr, yr, rfl⟩ : ∃ a n c, vr = .slice a n c := (by obtain ⟨a, c, h⟩ := r3.slice; exact ⟨a, _, c, h⟩); obtain ⟨xl, nl, yl, rfl⟩ : ∃ a n c, vl = .slice a n c := (by obtain ⟨a, c, h⟩ := s3.slice; exact ⟨a, _, c, h⟩); have v3 := (h3.block ob (lt_of_block v2)).trans v2; obtain ⟨d0, d1, d2, d3, d4, d5, d6, d7, d8⟩ := opv_cells v3; have l3 : ob < w3.heap.size := lt_of_block v3; have v4 := heap_alloc_new w3 (.cells #[.slice xr nr yr, .slice xl nl yl] 50); have r4 := r3.on (w' := w3.alloc (.cells #[.slice xr nr yr, .slice xl nl yl] 50)) (q := fun _ => True) (fun j cs T' hb _ _ => ⟨Below.heap_alloc _ _ _ (lt_of_block hb), trivial⟩); have s4 := s3.on (w' := w3.alloc (.cells #[.slice xr nr yr, .slice xl nl yl] 50)) (q := fun _ => True) (fun j cs T' hb _ _ => ⟨Below.heap_alloc _ _ _ (lt_of_block hb), trivial⟩); have o4 := o3.alloc (.cells #[.slice xr nr yr, .slice xl nl yl] 50); obtain ⟨wb, hwb⟩ : ∃ n, n = w3.heap.size := ⟨_, rfl⟩; rw [← hwb] at v4)
                | (go_at_call 21; refine (oSwap o4 q.t q.i q.f q.a q.b q.c q.d).mono ?_; rintro e w5 ⟨rfl, o5, hO5⟩; have v5 := hO5 _ _ _ _ (by decide) v4; have r5 := r4.others hO5 (by decide) (by decide); have s5 := s4.others hO5 (by decide) (by decide); rw [hE, hY]))
              all_goals
                rw [← hwb]
                clear hwb
                have v5c0 : w5.cell? ⟨wb, 0, none⟩ = some (.slice xr nr yr) := by rw [cell_of_row w5 _ _ _ _ _ v5]; rfl
                have v5c1 : w5.cell? ⟨wb, 1, none⟩ = some (.slice xl nl yl) := by rw [cell_of_row w5 _ _ _ _ _ v5]; rfl
                have l5 := lt_of_block v5
                refine wp_region_held_drew (S := fun w' => w'.cell? ⟨wb, 0, none⟩ = some (.slice xr nr yr) ∧ w'.cell? ⟨wb, 1, none⟩ = some (.slice xl nl yl)) (by kernel_rfl) ⟨v5c0, v5c1⟩ (fun hHeld => ?_)
                refine takeH (i := 0) 133 (.agg #[.slice xr nr yr, .slice xl nl yl]) rfl rfl (by kernel_rfl) (by kernel_rfl) (by kernel_rfl) (fun _ _ _ h => h) (by rfl) ?_ (by assumption) ?_
                · intro w hSw; (try dsimp only at hSw); go_simp
                simp only [List.setIfInBounds_toArray, List.set_cons_zero, List.set_cons_succ]
                refine takeH (i := 1) 134 (.pointer (some ⟨b, 0, none⟩)) rfl rfl (by kernel_rfl) (by kernel_rfl) (by kernel_rfl) (fun _ _ _ h => h) (by rfl) ?_ (by assumption) ?_
                · intro w hSw; (try dsimp only at hSw); go_simp
                simp only [List.setIfInBounds_toArray, List.set_cons_zero, List.set_cons_succ]
                refine wpAnyH_ready (rs := [2]) (by kernel_rfl) (by simp) ?_
                refine AllReadyH.cons rfl (fun K hK => ?_) AllReadyH.nil
                go_simp
                refine (oShape o5.drew).mono ?_; rintro e w6 ⟨vr6, vl6, rfl, o6, h6, r6, s6⟩; have r7 := r5.on (w' := w6) (q := fun _ => True) (fun j cs T' hb _ _ => ⟨h6.block j (lt_of_block hb), trivial⟩); have s7 := s5.on (w' := w6) (q := fun _ => True) (fun j cs T' hb _ _ => ⟨h6.block j (lt_of_block hb), trivial⟩); have c6 := (h6.cell (p := ⟨wb, 0, none⟩) l5).trans v5c0; have c7 := (h6.cell (p := ⟨wb, 1, none⟩) l5).trans v5c1; have sz6 := shape_sizes o6.fit
                refine hK.out _ _ ⟨c6, c7⟩ (fun hHeld => ?_)
                clear hK K
                try simp only [Act.put, List.setIfInBounds_toArray, List.set_cons_zero, List.set_cons_succ]
                refine wpAnyH_ready (rs := [3]) (by kernel_rfl) (by simp) ?_
                refine AllReadyH.cons rfl (fun K hK => ?_) AllReadyH.nil
                go_simp
                refine (cSameAny _ _ _ _ _ _ _ _ r7 s7 r6 s6 sz.1 sz.2.1 sz.2.2.1 sz.2.2.2 sz6.1 sz6.2.1 sz6.2.2.1 sz6.2.2.2).mono ?_; rintro e w8 ⟨x, rfl, h8⟩
                refine hK.out _ _ ⟨(h8.cell (p := ⟨wb, 0, none⟩) (Nat.lt_of_lt_of_le l5 h6.size)).trans c6, (h8.cell (p := ⟨wb, 1, none⟩) (Nat.lt_of_lt_of_le l5 h6.size)).trans c7⟩ (fun hHeld => ?_)
                clear hK K
                try simp only [Act.put, List.setIfInBounds_toArray, List.set_cons_zero, List.set_cons_succ]
                refine takeH (i := 4) 13 (.bool x) rfl rfl (by kernel_rfl) (by kernel_rfl) (by kernel_rfl) (fun _ _ _ h => h) (by rfl) ?_ (by assumption) ?_
                · intro w hSw; (try dsimp only at hSw); go_simp
                simp only [List.setIfInBounds_toArray, List.set_cons_zero, List.set_cons_succ]
                refine wpAnyH_done (by kernel_rfl) ?_ _
                go_wp2
                go_ret
                exact ⟨by simp, bt o6.bel h8⟩
          case false =>
            have hG : g.swap q.t q.i q.f (q.a, q.b) (q.c, q.d) = g := by unfold Gr.swap; rw [hY]; rfl
            as_aux_lemma =>
              go_wp2_with (first
                | (go_at_call 12; refine (cKind _ q.k 6 qf.k0 qf.k1 (by decide)).mono ?_; rintro e w9 ⟨rfl, hw9⟩; rw [hw9, hK]; clear hw9 w9)
                | (go_at_call 31; refine (oShape o2).mono ?_; rintro e w3 ⟨vr, vl, rfl, o3, h3, r3, s3⟩; obtain ⟨xr, nr, yr, rfl⟩ : ∃ a n c, vr = .slice a n c := (by obtain ⟨a, c, h⟩ := r3.slice; exact ⟨a, _, c, h⟩); obtain ⟨xl, nl, yl, rfl⟩ : ∃ a n c, vl = .slice a n c := (by obtain ⟨a, c, h⟩ := s3.slice; exact ⟨a, _, c, h⟩); have v3 := (h3.block ob (lt_of_block v2)).trans v2; obtain ⟨d0, d1, d2, d3, d4, d5, d6, d7, d8⟩ := opv_cells v3; have l3 : ob < w3.heap.size := lt_of_block v3; have v4 := heap_alloc_new w3 (.cells #[.slice xr nr yr, .slice xl nl yl] 50); have r4 := r3.on (w' := w3.alloc (.cells #[.slice xr nr yr, .slice xl nl yl] 50)) (q := fun _ => True) (fun j cs T' hb _ _ => ⟨Below.heap_alloc _ _ _ (lt_of_block hb), trivial⟩); have s4 := s3.on (w' := w3.alloc (.cells #[.slice xr nr yr, .slice xl nl yl] 50)) (q := fun _ => True) (fun j cs T' hb _ _ => ⟨Below.heap_alloc _ _ _ (lt_of_block hb), trivial⟩); have o4 := o3.alloc (.cells #[.slice xr nr yr, .slice xl nl yl] 50); obtain ⟨wb, hwb⟩ : ∃ n, n = w3.heap.size := ⟨_, rfl⟩; rw [← hwb] at v4)
                | (go_at_call 21; refine (oSwap o4 q.t q.i q.f q.a q.b q.c q.d).mono ?_; rintro e w5 ⟨rfl, o5, hO5⟩; have v5 := hO5 _ _ _ _ (by decide) v4; have r5 := r4.others hO5 (by decide) (by decide); have s5 := s4.others hO5 (by decide) (by decide); rw [hE, hY]; rw [hG] at o5))
              all_goals
                rw [← hwb]
                clear hwb
                have v5c0 : w5.cell? ⟨wb, 0, none⟩ = some (.slice xr nr yr) := by rw [cell_of_row w5 _ _ _ _ _ v5]; rfl
                have v5c1 : w5.cell? ⟨wb, 1, none⟩ = some (.slice xl nl yl) := by rw [cell_of_row w5 _ _ _ _ _ v5]; rfl
                have l5 := lt_of_block v5
                refine wp_region_held_drew (S := fun w' => w'.cell? ⟨wb, 0, none⟩ = some (.slice xr nr yr) ∧ w'.cell? ⟨wb, 1, none⟩ = some (.slice xl nl yl)) (by kernel_rfl) ⟨v5c0, v5c1⟩ (fun hHeld => ?_)
                refine takeH (i := 0) 133 (.agg #[.slice xr nr yr, .slice xl nl yl]) rfl rfl (by kernel_rfl) (by kernel_rfl) (by kernel_rfl) (fun _ _ _ h => h) (by rfl) ?_ (by assumption) ?_
                · intro w hSw; (try dsimp only at hSw); go_simp
                simp only [List.setIfInBounds_toArray, List.set_cons_zero, List.set_cons_succ]
                refine takeH (i := 1) 134 (.pointer (some ⟨b, 0, none⟩)) rfl rfl (by kernel_rfl) (by kernel_rfl) (by kernel_rfl) (fun _ _ _ h => h) (by rfl) ?_ (by assumption) ?_
                · intro w hSw; (try dsimp only at hSw); go_simp
                simp only [List.setIfInBounds_toArray, List.set_cons_zero, List.set_cons_succ]
                refine wpAnyH_ready (rs := [2]) (by kernel_rfl) (by simp) ?_
                refine AllReadyH.cons rfl (fun K hK => ?_) AllReadyH.nil
                go_simp
                refine (oShape o5.drew).mono ?_; rintro e w6 ⟨vr6, vl6, rfl, o6, h6, r6, s6⟩; have r7 := r5.on (w' := w6) (q := fun _ => True) (fun j cs T' hb _ _ => ⟨h6.block j (lt_of_block hb), trivial⟩); have s7 := s5.on (w' := w6) (q := fun _ => True) (fun j cs T' hb _ _ => ⟨h6.block j (lt_of_block hb), trivial⟩); have c6 := (h6.cell (p := ⟨wb, 0, none⟩) l5).trans v5c0; have c7 := (h6.cell (p := ⟨wb, 1, none⟩) l5).trans v5c1
                refine hK.out _ _ ⟨c6, c7⟩ (fun hHeld => ?_)
                clear hK K
                try simp only [Act.put, List.setIfInBounds_toArray, List.set_cons_zero, List.set_cons_succ]
                refine wpAnyH_ready (rs := [3]) (by kernel_rfl) (by simp) ?_
                refine AllReadyH.cons rfl (fun K hK => ?_) AllReadyH.nil
                go_simp
                refine (oSame o6.fit _ _ _ _ r7 s7 r6 s6).mono ?_; rintro e w8 ⟨rfl, h8⟩
                refine hK.out _ _ ⟨(h8.cell (p := ⟨wb, 0, none⟩) (Nat.lt_of_lt_of_le l5 h6.size)).trans c6, (h8.cell (p := ⟨wb, 1, none⟩) (Nat.lt_of_lt_of_le l5 h6.size)).trans c7⟩ (fun hHeld => ?_)
                clear hK K
                try simp only [Act.put, List.setIfInBounds_toArray, List.set_cons_zero, List.set_cons_succ]
                refine takeH (i := 4) 13 (.bool true) rfl rfl (by kernel_rfl) (by kernel_rfl) (by kernel_rfl) (fun _ _ _ h => h) (by rfl) ?_ (by assumption) ?_
                · intro w hSw; (try dsimp only at hSw); go_simp
                simp only [List.setIfInBounds_toArray, List.set_cons_zero, List.set_cons_succ]
                refine wpAnyH_done (by kernel_rfl) ?_ _
                go_wp2
                go_ret
                exact ⟨by simp, bt o6.bel h8⟩
        case neg =>
          have hY : g.swapY q.t q.i q.f (q.a, q.b) (q.c, q.d) = false := by simp [Gr.swapY, hE]
          have hG : g.swap q.t q.i q.f (q.a, q.b) (q.c, q.d) = g := by unfold Gr.swap; rw [hY]; rfl
          obtain ⟨ee, hee⟩ : ∃ ee, g.swapE q.t q.i q.f (q.a, q.b) (q.c, q.d) = ee := ⟨_, rfl⟩
          have hE' : (ee == 0) = false := by rw [← hee]; simpa using hE
          as_aux_lemma =>
            go_wp2_with (first
              | (go_at_call 12; refine (cKind _ q.k 6 qf.k0 qf.k1 (by decide)).mono ?_; rintro e w9 ⟨rfl, hw9⟩; rw [hw9, hK]; clear hw9 w9)
              | (go_at_call 31; refine (oShape o2).mono ?_; rintro e w3 ⟨vr, vl, rfl, o3, h3, r3, s3⟩; obtain ⟨xr, nr, yr, rfl⟩ : ∃ a n c, vr = .slice a n c := (by obtain ⟨a, c, h⟩ := r3.slice; exact ⟨a, _, c, h⟩); obtain ⟨xl, nl, yl, rfl⟩ : ∃ a n c, vl = .slice a n c := (by obtain ⟨a, c, h⟩ := s3.slice; exact ⟨a, _, c, h⟩); have v3 := (h3.block ob (lt_of_block v2)).trans v2; obtain ⟨d0, d1, d2, d3, d4, d5, d6, d7, d8⟩ := opv_cells v3; have l3 : ob < w3.heap.size := lt_of_block v3; have v4 := heap_alloc_new w3 (.cells #[.slice xr nr yr, .slice xl nl yl] 50); have r4 := r3.on (w' := w3.alloc (.cells #[.slice xr nr yr, .slice xl nl yl] 50)) (q := fun _ => True) (fun j cs T' hb _ _ => ⟨Below.heap_alloc _ _ _ (lt_of_block hb), trivial⟩); have s4 := s3.on (w' := w3.alloc (.cells #[.slice xr nr yr, .slice xl nl yl] 50)) (q := fun _ => True) (fun j cs T' hb _ _ => ⟨Below.heap_alloc _ _ _ (lt_of_block hb), trivial⟩); have o4 := o3.alloc (.cells #[.slice xr nr yr, .slice xl nl yl] 50); obtain ⟨wb, hwb⟩ : ∃ n, n = w3.heap.size := ⟨_, rfl⟩; rw [← hwb] at v4)
              | (go_at_call 21; refine (oSwap o4 q.t q.i q.f q.a q.b q.c q.d).mono ?_; rintro e w5 ⟨rfl, o5, hO5⟩; have v5 := hO5 _ _ _ _ (by decide) v4; have r5 := r4.others hO5 (by decide) (by decide); have s5 := s4.others hO5 (by decide) (by decide); rw [hee, hY]; rw [hG] at o5))
            all_goals
              rw [← hwb]
              clear hwb
              have v5c0 : w5.cell? ⟨wb, 0, none⟩ = some (.slice xr nr yr) := by rw [cell_of_row w5 _ _ _ _ _ v5]; rfl
              have v5c1 : w5.cell? ⟨wb, 1, none⟩ = some (.slice xl nl yl) := by rw [cell_of_row w5 _ _ _ _ _ v5]; rfl
              have l5 := lt_of_block v5
              refine wp_region_held_drew (S := fun w' => w'.cell? ⟨wb, 0, none⟩ = some (.slice xr nr yr) ∧ w'.cell? ⟨wb, 1, none⟩ = some (.slice xl nl yl)) (by kernel_rfl) ⟨v5c0, v5c1⟩ (fun hHeld => ?_)
              refine takeH (i := 0) 133 (.agg #[.slice xr nr yr, .slice xl nl yl]) rfl rfl (by kernel_rfl) (by kernel_rfl) (by kernel_rfl) (fun _ _ _ h => h) (by rfl) ?_ (by assumption) ?_
              · intro w hSw; (try dsimp only at hSw); go_simp
              simp only [List.setIfInBounds_toArray, List.set_cons_zero, List.set_cons_succ]
              refine takeH (i := 1) 134 (.pointer (some ⟨b, 0, none⟩)) rfl rfl (by kernel_rfl) (by kernel_rfl) (by kernel_rfl) (fun _ _ _ h => h) (by rfl) ?_ (by assumption) ?_
              · intro w hSw; (try dsimp only at hSw); go_simp
              simp only [List.setIfInBounds_toArray, List.set_cons_zero, List.set_cons_succ]
              refine wpAnyH_ready (rs := [2]) (by kernel_rfl) (by simp) ?_
              refine AllReadyH.cons rfl (fun K hK => ?_) AllReadyH.nil
              go_simp
              refine (oShape o5.drew).mono ?_; rintro e w6 ⟨vr6, vl6, rfl, o6, h6, r6, s6⟩; have r7 := r5.on (w' := w6) (q := fun _ => True) (fun j cs T' hb _ _ => ⟨h6.block j (lt_of_block hb), trivial⟩); have s7 := s5.on (w' := w6) (q := fun _ => True) (fun j cs T' hb _ _ => ⟨h6.block j (lt_of_block hb), trivial⟩); have c6 := (h6.cell (p := ⟨wb, 0, none⟩) l5).trans v5c0; have c7 := (h6.cell (p := ⟨wb, 1, none⟩) l5).trans v5c1
              refine hK.out _ _ ⟨c6, c7⟩ (fun hHeld => ?_)
              clear hK K
              try simp only [Act.put, List.setIfInBounds_toArray, List.set_cons_zero, List.set_cons_succ]
              refine wpAnyH_ready (rs := [3]) (by kernel_rfl) (by simp) ?_
              refine AllReadyH.cons rfl (fun K hK => ?_) AllReadyH.nil
              go_simp
              refine (oSame o6.fit _ _ _ _ r7 s7 r6 s6).mono ?_; rintro e w8 ⟨rfl, h8⟩
              refine hK.out _ _ ⟨(h8.cell (p := ⟨wb, 0, none⟩) (Nat.lt_of_lt_of_le l5 h6.size)).trans c6, (h8.cell (p := ⟨wb, 1, none⟩) (Nat.lt_of_lt_of_le l5 h6.size)).trans c7⟩ (fun hHeld => ?_)
              clear hK K
              try simp only [Act.put, List.setIfInBounds_toArray, List.set_cons_zero, List.set_cons_succ]
              refine takeH (i := 4) 13 (.bool true) rfl rfl (by kernel_rfl) (by kernel_rfl) (by kernel_rfl) (fun _ _ _ h => h) (by rfl) ?_ (by assumption) ?_
              · intro w hSw; (try dsimp only at hSw); go_simp
              simp only [List.setIfInBounds_toArray, List.set_cons_zero, List.set_cons_succ]
              refine wpAnyH_done (by kernel_rfl) ?_ _
              go_wp2
              go_ret
              exact ⟨by simp, bt o6.bel h8⟩
      · by_cases hE : g.dupE q.t q.i = 0
        case pos =>
          as_aux_lemma =>
            go_wp2_with (first
              | (go_at_call 12; refine (cKind _ q.k 6 qf.k0 qf.k1 (by decide)).mono ?_; rintro e w9 ⟨rfl, hw9⟩; rw [hw9, hK]; clear hw9 w9)
              | (go_at_call 31; refine (oShape o2).mono ?_; rintro e w3 ⟨vr, vl, rfl, o3, h3, r3, s3⟩; obtain ⟨xr, nr, yr, rfl⟩ : ∃ a n c, vr = .slice a n c := (by obtain ⟨a, c, h⟩ := r3.slice; exact ⟨a, _, c, h⟩); obtain ⟨xl, nl, yl, rfl⟩ : ∃ a n c, vl = .slice a n c := (by obtain ⟨a, c, h⟩ := s3.slice; exact ⟨a, _, c, h⟩); have v3 := (h3.block ob (lt_of_block v2)).trans v2; obtain ⟨d0, d1, d2, d3, d4, d5, d6, d7, d8⟩ := opv_cells v3; have l3 : ob < w3.heap.size := lt_of_block v3; have v4 := heap_alloc_new w3 (.cells #[.slice xr nr yr, .slice xl nl yl] 50); have r4 := r3.on (w' := w3.alloc (.cells #[.slice xr nr yr, .slice xl nl yl] 50)) (q := fun _ => True) (fun j cs T' hb _ _ => ⟨Below.heap_alloc _ _ _ (lt_of_block hb), trivial⟩); have s4 := s3.on (w' := w3.alloc (.cells #[.slice xr nr yr, .slice xl nl yl] 50)) (q := fun _ => True) (fun j cs T' hb _ _ => ⟨Below.heap_alloc _ _ _ (lt_of_block hb), trivial⟩); have o4 := o3.alloc (.cells #[.slice xr nr yr, .slice xl nl yl] 50); obtain ⟨wb, hwb⟩ : ∃ n, n = w3.heap.size := ⟨_, rfl⟩; rw [← hwb] at v4)
              | (go_at_call 25; refine (oDup o4 q.t q.i).mono ?_; rintro e w5 ⟨rfl, o5, hO5⟩; have v5 := hO5 _ _ _ _ (by decide) v4; have r5 := r4.others hO5 (by decide) (by decide); have s5 := s4.others hO5 (by decide) (by decide); rw [hE]))
            all_goals
              rw [← hwb]
              clear hwb
              have v5c0 : w5.cell? ⟨wb, 0, none⟩ = some (.slice xr nr yr) := by rw [cell_of_row w5 _ _ _ _ _ v5]; rfl
              have v5c1 : w5.cell? ⟨wb, 1, none⟩ = some (.slice xl nl yl) := by rw [cell_of_row w5 _ _ _ _ _ v5]; rfl
              have l5 := lt_of_block v5
              refine wp_region_held_drew (S := fun w' => w'.cell? ⟨wb, 0, none⟩ = some (.slice xr nr yr) ∧ w'.cell? ⟨wb, 1, none⟩ = some (.slice xl nl yl)) (by kernel_rfl) ⟨v5c0, v5c1⟩ (fun hHeld => ?_)
              refine takeH (i := 0) 133 (.agg #[.slice xr nr yr, .slice xl nl yl]) rfl rfl (by kernel_rfl) (by kernel_rfl) (by kernel_rfl) (fun _ _ _ h => h) (by rfl) ?_ (by assumption) ?_
              · intro w hSw; (try dsimp only at hSw); go_simp
              simp only [List.setIfInBounds_toArray, List.set_cons_zero, List.set_cons_succ]
              refine takeH (i := 1) 134 (.pointer (some ⟨b, 0, none⟩)) rfl rfl (by kernel_rfl) (by kernel_rfl) (by kernel_rfl) (fun _ _ _ h => h) (by rfl) ?_ (by assumption) ?_
              · intro w hSw; (try dsimp only at hSw); go_simp
              simp only [List.setIfInBounds_toArray, List.set_cons_zero, List.set_cons_succ]
              refine wpAnyH_ready (rs := [2]) (by kernel_rfl) (by simp) ?_
              refine AllReadyH.cons rfl (fun K hK => ?_) AllReadyH.nil
              go_simp
              refine (oShape o5.drew).mono ?_; rintro e w6 ⟨vr6, vl6, rfl, o6, h6, r6, s6⟩; have r7 := r5.on (w' := w6) (q := fun _ => True) (fun j cs T' hb _ _ => ⟨h6.block j (lt_of_block hb), trivial⟩); have s7 := s5.on (w' := w6) (q := fun _ => True) (fun j cs T' hb _ _ => ⟨h6.block j (lt_of_block hb), trivial⟩); have c6 := (h6.cell (p := ⟨wb, 0, none⟩) l5).trans v5c0; have c7 := (h6.cell (p := ⟨wb, 1, none⟩) l5).trans v5c1; have sz6 := shape_sizes o6.fit
              refine hK.out _ _ ⟨c6, c7⟩ (fun hHeld => ?_)
              clear hK K
              try simp only [Act.put, List.setIfInBounds_toArray, List.set_cons_zero, List.set_cons_succ]
              refine wpAnyH_ready (rs := [3]) (by kernel_rfl) (by simp) ?_
              refine AllReadyH.cons rfl (fun K hK => ?_) AllReadyH.nil
              go_simp
              refine (cSameAny _ _ _ _ _ _ _ _ r7 s7 r6 s6 sz.1 sz.2.1 sz.2.2.1 sz.2.2.2 sz6.1 sz6.2.1 sz6.2.2.1 sz6.2.2.2).mono ?_; rintro e w8 ⟨x, rfl, h8⟩
              refine hK.out _ _ ⟨(h8.cell (p := ⟨wb, 0, none⟩) (Nat.lt_of_lt_of_le l5 h6.size)).trans c6, (h8.cell (p := ⟨wb, 1, none⟩) (Nat.lt_of_lt_of_le l5 h6.size)).trans c7⟩ (fun hHeld => ?_)
              clear hK K
              try simp only [Act.put, List.setIfInBounds_toArray, List.set_cons_zero, List.set_cons_succ]
              refine takeH (i := 4) 13 (.bool x) rfl rfl (by kernel_rfl) (by kernel_rfl) (by kernel_rfl) (fun _ _ _ h => h) (by rfl) ?_ (by assumption) ?_
              · intro w hSw; (try dsimp only at hSw); go_simp
              simp only [List.setIfInBounds_toArray, List.set_cons_zero, List.set_cons_succ]
              refine wpAnyH_done (by kernel_rfl) ?_ _
              go_wp2
              go_ret
              exact ⟨by simp, bt o6.bel h8⟩
        case neg =>
          have hG : g.dup q.t q.i = g := by unfold Gr.dup; rw [if_neg hE]
          obtain ⟨ee, hee⟩ : ∃ ee, g.dupE q.t q.i = ee := ⟨_, rfl⟩
          have hE' : (ee == 0) = false := by rw [← hee]; simpa using hE
          as_aux_lemma =>
            go_wp2_with (first
              | (go_at_call 12; refine (cKind _ q.k 6 qf.k0 qf.k1 (by decide)).mono ?_; rintro e w9 ⟨rfl, hw9⟩; rw [hw9, hK]; clear hw9 w9)
              | (go_at_call 31; refine (oShape o2).mono ?_; rintro e w3 ⟨vr, vl, rfl, o3, h3, r3, s3⟩; obtain ⟨xr, nr, yr, rfl⟩ : ∃ a n c, vr = .slice a n c := (by obtain ⟨a, c, h⟩ := r3.slice; exact ⟨a, _, c, h⟩); obtain ⟨xl, nl, yl, rfl⟩ : ∃ a n c, vl = .slice a n c := (by obtain ⟨a, c, h⟩ := s3.slice; exact ⟨a, _, c, h⟩); have v3 := (h3.block ob (lt_of_block v2)).trans v2; obtain ⟨d0, d1, d2, d3, d4, d5, d6, d7, d8⟩ := opv_cells v3; have l3 : ob < w3.heap.size := lt_of_block v3; have v4 := heap_alloc_new w3 (.cells #[.slice xr nr yr, .slice xl nl yl] 50); have r4 := r3.on (w' := w3.alloc (.cells #[.slice xr nr yr, .slice xl nl yl] 50)) (q := fun _ => True) (fun j cs T' hb _ _ => ⟨Below.heap_alloc _ _ _ (lt_of_block hb), trivial⟩); have s4 := s3.on (w' := w3.alloc (.cells #[.slice xr nr yr, .slice xl nl yl] 50)) (q := fun _ => True) (fun j cs T' hb _ _ => ⟨Below.heap_alloc _ _ _ (lt_of_block hb), trivial⟩); have o4 := o3.alloc (.cells #[.slice xr nr yr, .slice xl nl yl] 50); obtain ⟨wb, hwb⟩ : ∃ n, n = w3.heap.size := ⟨_, rfl⟩; rw [← hwb] at v4)
              | (go_at_call 25; refine (oDup o4 q.t q.i).mono ?_; rintro e w5 ⟨rfl, o5, hO5⟩; have v5 := hO5 _ _ _ _ (by decide) v4; have r5 := r4.others hO5 (by decide) (by decide); have s5 := s4.others hO5 (by decide) (by decide); rw [hee]; rw [hG] at o5))
            all_goals
              rw [← hwb]
              clear hwb
              have v5c0 : w5.cell? ⟨wb, 0, none⟩ = some (.slice xr nr yr) := by rw [cell_of_row w5 _ _ _ _ _ v5]; rfl
              have v5c1 : w5.cell? ⟨wb, 1, none⟩ = some (.slice xl nl yl) := by rw [cell_of_row w5 _ _ _ _ _ v5]; rfl
              have l5 := lt_of_block v5
              refine wp_region_held_drew (S := fun w' => w'.cell? ⟨wb, 0, none⟩ = some (.slice xr nr yr) ∧ w'.cell? ⟨wb, 1, none⟩ = some (.slice xl nl yl)) (by kernel_rfl) ⟨v5c0, v5c1⟩ (fun hHeld => ?_)
              refine takeH (i := 0) 133 (.agg #[.slice xr nr yr, .slice xl nl yl]) rfl rfl (by kernel_rfl) (by kernel_rfl) (by kernel_rfl) (fun _ _ _ h => h) (by rfl) ?_ (by assumption) ?_
              · intro w hSw; (try dsimp only at hSw); go_simp
              simp only [List.setIfInBounds_toArray, List.set_cons_zero, List.set_cons_succ]
              refine takeH (i := 1) 134 (.pointer (some ⟨b, 0, none⟩)) rfl rfl (by kernel_rfl) (by kernel_rfl) (by kernel_rfl) (fun _ _ _ h => h) (by rfl) ?_ (by assumption) ?_
              · intro w hSw; (try dsimp only at hSw); go_simp
              simp only [List.setIfInBounds_toArray, List.set_cons_zero, List.set_cons_succ]
              refine wpAnyH_ready (rs := [2]) (by kernel_rfl) (by simp) ?_
              refine AllReadyH.cons rfl (fun K hK => ?_) AllReadyH.nil
              go_simp
              refine (oShape o5.drew).mono ?_; rintro e w6 ⟨vr6, vl6, rfl, o6, h6, r6, s6⟩; have r7 := r5.on (w' := w6) (q := fun _ => True) (fun j cs T' hb _ _ => ⟨h6.block j (lt_of_block hb), trivial⟩); have s7 := s5.on (w' := w6) (q := fun _ => True) (fun j cs T' hb _ _ => ⟨h6.block j (lt_of_block hb), trivial⟩); have c6 := (h6.cell (p := ⟨wb, 0, none⟩) l5).trans v5c0; have c7 := (h6.cell (p := ⟨wb, 1, none⟩) l5).trans v5c1
              refine hK.out _ _ ⟨c6, c7⟩ (fun hHeld => ?_)
              clear hK K
              try simp only [Act.put, List.setIfInBounds_toArray, List.set_cons_zero, List.set_cons_succ]
              refine wpAnyH_ready (rs := [3]) (by kernel_rfl) (by simp) ?_
              refine AllReadyH.cons rfl (fun K hK => ?_) AllReadyH.nil
              go_simp
              refine (oSame o6.fit _ _ _ _ r7 s7 r6 s6).mono ?_; rintro e w8 ⟨rfl, h8⟩
              refine hK.out _ _ ⟨(h8.cell (p := ⟨wb, 0, none⟩) (Nat.lt_of_lt_of_le l5 h6.size)).trans c6, (h8.cell (p := ⟨wb, 1, none⟩) (Nat.lt_of_lt_of_le l5 h6.size)).trans c7⟩ (fun hHeld => ?_)
              clear hK K
              try simp only [Act.put, List.setIfInBounds_toArray, List.set_cons_zero, List.set_cons_succ]
              refine takeH (i := 4) 13 (.bool true) rfl rfl (by kernel_rfl) (by kernel_rfl) (by kernel_rfl) (fun _ _ _ h => h) (by rfl) ?_ (by assumption) ?_
              · intro w hSw; (try dsimp only at hSw); go_simp
              simp only [List.setIfInBounds_toArray, List.set_cons_zero, List.set_cons_succ]
              refine wpAnyH_done (by kernel_rfl) ?_ _
              go_wp2
              go_ret
              exact ⟨by simp, bt o6.bel h8⟩
      · by_cases hE : g.dropE q.t = 0
        case pos =>
          as_aux_lemma =>
            go_wp2_with (first
              | (go_at_call 12; refine (cKind _ q.k 6 qf.k0 qf.k1 (by decide)).mono ?_; rintro e w9 ⟨rfl, hw9⟩; rw [hw9, hK]; clear hw9 w9)
              | (go_at_call 31; refine (oShape o2).mono ?_; rintro e w3 ⟨vr, vl, rfl, o3, h3, r3, s3⟩; obtain ⟨xr, nr, yr, rfl⟩ : ∃ a n c, vr = .slice a n c := (by obtain ⟨a, c, h⟩ := r3.slice; exact ⟨a, _, c, h⟩); obtain ⟨xl, nl, yl, rfl⟩ : ∃ a n c, vl = .slice a n c := (by obtain ⟨a, c, h⟩ := s3.slice; exact ⟨a, _, c, h⟩); have v3 := (h3.block ob (lt_of_block v2)).trans v2; obtain ⟨d0, d1, d2, d3, d4, d5, d6, d7, d8⟩ := opv_cells v3; have l3 : ob < w3.heap.size := lt_of_block v3; have v4 := heap_alloc_new w3 (.cells #[.slice xr nr yr, .slice xl nl yl] 50); have r4 := r3.on (w' := w3.alloc (.cells #[.slice xr nr yr, .slice xl nl yl] 50)) (q := fun _ => True) (fun j cs T' hb _ _ => ⟨Below.heap_alloc _ _ _ (lt_of_block hb), trivial⟩); have s4 := s3.on (w' := w3.alloc (.cells #[.slice xr nr yr, .slice xl nl yl] 50)) (q := fun _ => True) (fun j cs T' hb _ _ => ⟨Below.heap_alloc _ _ _ (lt_of_block hb), trivial⟩); have o4 := o3.alloc (.cells #[.slice xr nr yr, .slice xl nl yl] 50); obtain ⟨wb, hwb⟩ : ∃ n, n = w3.heap.size := ⟨_, rfl⟩; rw [← hwb] at v4)
              | (go_at_call 27; refine (oDrop o4 q.t).mono ?_; rintro e w5 ⟨rfl, o5, hO5⟩; have v5 := hO5 _ _ _ _ (by decide) v4; have r5 := r4.others hO5 (by decide) (by decide); have s5 := s4.others hO5 (by decide) (by decide); rw [hE]))
            all_goals
              rw [← hwb]
              clear hwb
              have v5c0 : w5.cell? ⟨wb, 0, none⟩ = some (.slice xr nr yr) := by rw [cell_of_row w5 _ _ _ _ _ v5]; rfl
              have v5c1 : w5.cell? ⟨wb, 1, none⟩ = some (.slice xl nl yl) := by rw [cell_of_row w5 _ _ _ _ _ v5]; rfl
              have l5 := lt_of_block v5
              refine wp_region_held_drew (S := fun w' => w'.cell? ⟨wb, 0, none⟩ = some (.slice xr nr yr) ∧ w'.cell? ⟨wb, 1, none⟩ = some (.slice xl nl yl)) (by kernel_rfl) ⟨v5c0, v5c1⟩ (fun hHeld => ?_)
              refine takeH (i := 0) 133 (.agg #[.slice xr nr yr, .slice xl nl yl]) rfl rfl (by kernel_rfl) (by kernel_rfl) (by kernel_rfl) (fun _ _ _ h => h) (by rfl) ?_ (by assumption) ?_
              · intro w hSw; (try dsimp only at hSw); go_simp
              simp only [List.setIfInBounds_toArray, List.set_cons_zero, List.set_cons_succ]
              refine takeH (i := 1) 134 (.pointer (some ⟨b, 0, none⟩)) rfl rfl (by kernel_rfl) (by kernel_rfl) (by kernel_rfl) (fun _ _ _ h => h) (by rfl) ?_ (by assumption) ?_
              · intro w hSw; (try dsimp only at hSw); go_simp
              simp only [List.setIfInBounds_toArray, List.set_cons_zero, List.set_cons_succ]
              refine wpAnyH_ready (rs := [2]) (by kernel_rfl) (by simp) ?_
              refine AllReadyH.cons rfl (fun K hK => ?_) AllReadyH.nil
              go_simp
              refine (oShape o5.drew).mono ?_; rintro e w6 ⟨vr6, vl6, rfl, o6, h6, r6, s6⟩; have r7 := r5.on (w' := w6) (q := fun _ => True) (fun j cs T' hb _ _ => ⟨h6.block j (lt_of_block hb), trivial⟩); have s7 := s5.on (w' := w6) (q := fun _ => True) (fun j cs T' hb _ _ => ⟨h6.block j (lt_of_block hb), trivial⟩); have c6 := (h6.cell (p := ⟨wb, 0, none⟩) l5).trans v5c0; have c7 := (h6.cell (p := ⟨wb, 1, none⟩) l5).trans v5c1; have sz6 := shape_sizes o6.fit
              refine hK.out _ _ ⟨c6, c7⟩ (fun hHeld => ?_)
              clear hK K
              try simp only [Act.put, List.setIfInBounds_toArray, List.set_cons_zero, List.set_cons_succ]
              refine wpAnyH_ready (rs := [3]) (by kernel_rfl) (by simp) ?_
              refine AllReadyH.cons rfl (fun K hK => ?_) AllReadyH.nil
              go_simp
              refine (cSameAny _ _ _ _ _ _ _ _ r7 s7 r6 s6 sz.1 sz.2.1 sz.2.2.1 sz.2.2.2 sz6.1 sz6.2.1 sz6.2.2.1 sz6.2.2.2).mono ?_; rintro e w8 ⟨x, rfl, h8⟩
              refine hK.out _ _ ⟨(h8.cell (p := ⟨wb, 0, none⟩) (Nat.lt_of_lt_of_le l5 h6.size)).trans c6, (h8.cell (p := ⟨wb, 1, none⟩) (Nat.lt_of_lt_of_le l5 h6.size)).trans c7⟩ (fun hHeld => ?_)
              clear hK K
              try simp only [Act.put, List.setIfInBounds_toArray, List.set_cons_zero, List.set_cons_succ]
              refine takeH (i := 4) 13 (.bool x) rfl rfl (by kernel_rfl) (by kernel_rfl) (by kernel_rfl) (fun _ _ _ h => h) (by rfl) ?_ (by assumption) ?_
              · intro w hSw; (try dsimp only at hSw); go_simp
              simp only [List.setIfInBounds_toArray, List.set_cons_zero, List.set_cons_succ]
              refine wpAnyH_done (by kernel_rfl) ?_ _
              go_wp2
              go_ret
              exact ⟨by simp, bt o6.bel h8⟩
        case neg =>
          have hG : g.drop q.t = g := by unfold Gr.drop; rw [if_neg hE]
          obtain ⟨ee, hee⟩ : ∃ ee, g.dropE q.t = ee := ⟨_, rfl⟩
          have hE' : (ee == 0) = false := by rw [← hee]; simpa using hE
          as_aux_lemma =>
            go_wp2_with (first
              | (go_at_call 12; refine (cKind _ q.k 6 qf.k0 qf.k1 (by decide)).mono ?_; rintro e w9 ⟨rfl, hw9⟩; rw [hw9, hK]; clear hw9 w9)
              | (go_at_call 31; refine (oShape o2).mono ?_; rintro e w3 ⟨vr, vl, rfl, o3, h3, r3, s3⟩; obtain ⟨xr, nr, yr, rfl⟩ : ∃ a n c, vr = .slice a n c := (by obtain ⟨a, c, h⟩ := r3.slice; exact ⟨a, _, c, h⟩); obtain ⟨xl, nl, yl, rfl⟩ : ∃ a n c, vl = .slice a n c := (by obtain ⟨a, c, h⟩ := s3.slice; exact ⟨a, _, c, h⟩); have v3 := (h3.block ob (lt_of_block v2)).trans v2; obtain ⟨d0, d1, d2, d3, d4, d5, d6, d7, d8⟩ := opv_cells v3; have l3 : ob < w3.heap.size := lt_of_block v3; have v4 := heap_alloc_new w3 (.cells #[.slice xr nr yr, .slice xl nl yl] 50); have r4 := r3.on (w' := w3.alloc (.cells #[.slice xr nr yr, .slice xl nl yl] 50)) (q := fun _ => True) (fun j cs T' hb _ _ => ⟨Below.heap_alloc _ _ _ (lt_of_block hb), trivial⟩); have s4 := s3.on (w' := w3.alloc (.cells #[.slice xr nr yr, .slice xl nl yl] 50)) (q := fun _ => True) (fun j cs T' hb _ _ => ⟨Below.heap_alloc _ _ _ (lt_of_block hb), trivial⟩); have o4 := o3.alloc (.cells #[.slice xr nr yr, .slice xl nl yl] 50); obtain ⟨wb, hwb⟩ : ∃ n, n = w3.heap.size := ⟨_, rfl⟩; rw [← hwb] at v4)
              | (go_at_call 27; refine (oDrop o4 q.t).mono ?_; rintro e w5 ⟨rfl, o5, hO5⟩; have v5 := hO5 _ _ _ _ (by decide) v4; have r5 := r4.others hO5 (by decide) (by decide); have s5 := s4.others hO5 (by decide) (by decide); rw [hee]; rw [hG] at o5))
            all_goals
              rw [← hwb]
              clear hwb
              have v5c0 : w5.cell? ⟨wb, 0, none⟩ = some (.slice xr nr yr) := by rw [cell_of_row w5 _ _ _ _ _ v5]; rfl
              have v5c1 : w5.cell? ⟨wb, 1, none⟩ = some (.slice xl nl yl) := by rw [cell_of_row w5 _ _ _ _ _ v5]; rfl
              have l5 := lt_of_block v5
              refine wp_region_held_drew (S := fun w' => w'.cell? ⟨wb, 0, none⟩ = some (.slice xr nr yr) ∧ w'.cell? ⟨wb, 1, none⟩ = some (.slice xl nl yl)) (by kernel_rfl) ⟨v5c0, v5c1⟩ (fun hHeld => ?_)
              refine takeH (i := 0) 133 (.agg #[.slice xr nr yr, .slice xl nl yl]) rfl rfl (by kernel_rfl) (by kernel_rfl) (by kernel_rfl) (fun _ _ _ h => h) (by rfl) ?_ (by assumption) ?_
              · intro w hSw; (try dsimp only at hSw); go_simp
              simp only [List.setIfInBounds_toArray, List.set_cons_zero, List.set_cons_succ]
              refine takeH (i := 1) 134 (.pointer (some ⟨b, 0, none⟩)) rfl rfl (by kernel_rfl) (by kernel_rfl) (by kernel_rfl) (fun _ _ _ h => h) (by rfl) ?_ (by assumption) ?_
              · intro w hSw; (try dsimp only at hSw); go_simp
              simp only [List.setIfInBounds_toArray, List.set_cons_zero, List.set_cons_succ]
              refine wpAnyH_ready (rs := [2]) (by kernel_rfl) (by simp) ?_
              refine AllReadyH.cons rfl (fun K hK => ?_) AllReadyH.nil
              go_simp
              refine (oShape o5.drew).mono ?_; rintro e w6 ⟨vr6, vl6, rfl, o6, h6, r6, s6⟩; have r7 := r5.on (w' := w6) (q := fun _ => True) (fun j cs T' hb _ _ => ⟨h6.block j (lt_of_block hb), trivial⟩); have s7 := s5.on (w' := w6) (q := fun _ => True) (fun j cs T' hb _ _ => ⟨h6.block j (lt_of_block hb), trivial⟩); have c6 := (h6.cell (p := ⟨wb, 0, none⟩) l5).trans v5c0; have c7 := (h6.cell (p := ⟨wb, 1, none⟩) l5).trans v5c1
              refine hK.out _ _ ⟨c6, c7⟩ (fun hHeld => ?_)
              clear hK K
              try simp only [Act.put, List.setIfInBounds_toArray, List.set_cons_zero, List.set_cons_succ]
              refine wpAnyH_ready (rs := [3]) (by kernel_rfl) (by simp) ?_
              refine AllReadyH.cons rfl (fun K hK => ?_) AllReadyH.nil
              go_simp
              refine (oSame o6.fit _ _ _ _ r7 s7 r6 s6).mono ?_; rintro e w8 ⟨rfl, h8⟩
              refine hK.out _ _ ⟨(h8.cell (p := ⟨wb, 0, none⟩) (Nat.lt_of_lt_of_le l5 h6.size)).trans c6, (h8.cell (p := ⟨wb, 1, none⟩) (Nat.lt_of_lt_of_le l5 h6.size)).trans c7⟩ (fun hHeld => ?_)
              clear hK K
              try simp only [Act.put, List.setIfInBounds_toArray, List.set_cons_zero, List.set_cons_succ]
              refine takeH (i := 4) 13 (.bool true) rfl rfl (by kernel_rfl) (by kernel_rfl) (by kernel_rfl) (fun _ _ _ h => h) (by rfl) ?_ (by assumption) ?_
              · intro w hSw; (try dsimp only at hSw); go_simp
              simp only [List.setIfInBounds_toArray, List.set_cons_zero, List.set_cons_succ]
              refine wpAnyH_done (by kernel_rfl) ?_ _
              go_wp2
              go_ret
              exact ⟨by simp, bt o6.bel h8⟩
end Go.Proofs.Ytbihdkdefopijaa
