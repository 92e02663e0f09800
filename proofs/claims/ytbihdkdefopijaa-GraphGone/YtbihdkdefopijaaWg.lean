/-
  The walk of GraphGone.
-/
import Derived.Test.YtbihdkdefopijaaOg
import Derived.Test.YtbihdkdefopijaaSg2
import Derived.Test.YtbihdkdefopijaaWn
namespace Go.Proofs.Ytbihdkdefopijaa
set_option linter.unusedVariables false
set_option linter.unusedSimpArgs false
open Go.ChangeShapes Go.WideShapes Go.ChangeAt Go.RowKit

set_option maxRecDepth 100000 in
set_option maxHeartbeats 4000000 in
theorem wGraphGone (ao : Option Addr) (len cap : Nat) (z : Nat → Op9) (n x : Int) (w : World) (hl : Came w ao len z) (hn0 : -9223372036854775808 ≤ n) (hn1 : n ≤ 9223372036854775807) (hx0 : -9223372036854775808 ≤ x) (hx1 : x ≤ 9223372036854775807) :
    Calls Try.prog 4 #[.slice ao len cap, .int .i64 n, .int .i64 x] w fun e w' => e = .returned (.bool true) ∧ Below w.heap.size w w' := by
  go_enter Try.func4, Try.ntmps4
  go_wp2_with (first
    | (go_at_call 9; refine (cShown _).mono ?_; rintro e w1 ⟨rfl, hb1⟩)
    | (go_at_call 10; refine (oNew _ 2 (by decide) (by decide) hb1).mono ?_; rintro e w2 ⟨b, rfl, o2, hb2⟩))
  clear hb1 hb2
  go_loopw [10] (fun i wr => ∃ (k : Nat) (g : Gr), k ≤ len ∧ k ≤ 40 ∧ i = .int .i64 k ∧ Own w wr b g k ∧ g.ts.length = 2) (fun i _ => 40 - (intOf i).toNat)
  case atStart => exact ⟨0, _, Nat.zero_le _, by decide, rfl, o2, rfl⟩
  case round =>
    clear o2
    obtain ⟨k, g, hk, hk40, rfl, o4, ht2⟩ := hrel
    obtain ⟨wo, rfl⟩ : ∃ wo : World, wo = wr := ⟨_, rfl⟩
    have k0 : (0 : Int) ≤ (k : Int) := by omega
    by_cases hlt : k < len ∧ k < 40
    case pos =>
      obtain ⟨hlt, hl40⟩ := hlt
      have kl : (k : Int) < (len : Int) := by omega
      have kl40 : (k : Int) < 40 := by omega
      rcases hl with hl | ⟨lb, off, rfl, hl⟩
      case inl => omega
      case inr =>
        have lf := hl.fit k hlt
        have ops := hl.on o4.bel
        obtain ⟨q, hq⟩ : ∃ q, z k = q := ⟨_, rfl⟩
        have x0 := ops.c0 k hlt
        have x1 := ops.c1 k hlt
        have x2 := ops.c2 k hlt
        have x3 := ops.c3 k hlt
        have x4 := ops.c4 k hlt
        have x5 := ops.c5 k hlt
        have x6 := ops.c6 k hlt
        have x7 := ops.c7 k hlt
        have x8 := ops.c8 k hlt
        rw [hq] at x0 x1 x2 x3 x4 x5 x6 x7 x8 lf
        clear ops hq
        have vq : (wo.alloc (.cells #[.int .i64 q.k, .int .i64 q.t, .int .i64 q.i, .int .i64 q.f, .int .i64 q.n, .int .i64 q.a, .int .i64 q.b, .int .i64 q.c, .int .i64 q.d] 34)).heap[wo.heap.size]? = some (.cells (opv q) 34 (0, 0)) := heap_alloc_new wo _
        obtain ⟨y0, y1, y2, y3, y4, y5, y6, y7, y8⟩ := opv_cells vq
        have o5 := o4.alloc (.cells #[.int .i64 q.k, .int .i64 q.t, .int .i64 q.i, .int .i64 q.f, .int .i64 q.n, .int .i64 q.a, .int .i64 q.b, .int .i64 q.c, .int .i64 q.d] 34)
        obtain ⟨tt, htt⟩ : ∃ t, kd q.t 2 = t := ⟨_, rfl⟩
        have bk := kd_bounds q.k 4 (by decide)
        have hways : kd q.k 4 = 0 ∨ kd q.k 4 = 1 ∨ kd q.k 4 = 2 ∨ kd q.k 4 = 3 := by omega
        clear bk
        rcases hways with hK | hK | hK | hK
        · go_wp2_with (first
            | (go_at_call_of 12 (Value.int .i64 q.t); refine (cKind _ q.t 2 lf.t0 lf.t1 (by decide)).mono ?_; rintro e w9 ⟨rfl, hw9⟩; rw [hw9, htt]; clear hw9 w9)
            | (go_at_call_of 12 (Value.int .i64 q.k); refine (cKind _ q.k 4 lf.k0 lf.k1 (by decide)).mono ?_; rintro e w9 ⟨rfl, hw9⟩; rw [hw9, hK]; clear hw9 w9)
            | (go_at_call_of 12 (Value.int .i64 q.f); refine (cKind _ q.f 8 lf.f0 lf.f1 (by decide)).mono ?_; rintro e w9 ⟨rfl, hw9⟩; rw [hw9]; clear hw9 w9)
            | (go_at_call 13; refine (oAlloc o5 (by omega) tt (kd q.f 8)).mono ?_; rintro e w6 ⟨rfl, o6, hO6⟩))
          go_roundw
          case rel => exact ⟨k + 1, _, by omega, by omega, by go_num, o6, by rw [Gr.t_alloc]; exact ht2⟩
          case measure => simp [intOf]; omega
        · go_wp2_with (first
            | (go_at_call_of 12 (Value.int .i64 q.t); refine (cKind _ q.t 2 lf.t0 lf.t1 (by decide)).mono ?_; rintro e w9 ⟨rfl, hw9⟩; rw [hw9, htt]; clear hw9 w9)
            | (go_at_call_of 12 (Value.int .i64 q.k); refine (cKind _ q.k 4 lf.k0 lf.k1 (by decide)).mono ?_; rintro e w9 ⟨rfl, hw9⟩; rw [hw9, hK]; clear hw9 w9)
            | (go_at_call 19; refine (oWrite o5 tt q.i q.f q.a q.b).mono ?_; rintro e w6 ⟨rfl, o6, hO6⟩))
          go_roundw
          case rel => exact ⟨k + 1, _, by omega, by omega, by go_num, o6.mono (by omega), by rw [Gr.t_write]; exact ht2⟩
          case measure => simp [intOf]; omega
        · go_wp2_with (first
            | (go_at_call_of 12 (Value.int .i64 q.t); refine (cKind _ q.t 2 lf.t0 lf.t1 (by decide)).mono ?_; rintro e w9 ⟨rfl, hw9⟩; rw [hw9, htt]; clear hw9 w9)
            | (go_at_call_of 12 (Value.int .i64 q.k); refine (cKind _ q.k 4 lf.k0 lf.k1 (by decide)).mono ?_; rintro e w9 ⟨rfl, hw9⟩; rw [hw9, hK]; clear hw9 w9)
            | (go_at_call 25; refine (oDup o5 tt q.i).mono ?_; rintro e w6 ⟨rfl, o6, hO6⟩))
          go_roundw
          case rel => exact ⟨k + 1, _, by omega, by omega, by go_num, o6.mono (by omega), by rw [Gr.t_dup]; exact ht2⟩
          case measure => simp [intOf]; omega
        · go_wp2_with (first
            | (go_at_call_of 12 (Value.int .i64 q.t); refine (cKind _ q.t 2 lf.t0 lf.t1 (by decide)).mono ?_; rintro e w9 ⟨rfl, hw9⟩; rw [hw9, htt]; clear hw9 w9)
            | (go_at_call_of 12 (Value.int .i64 q.k); refine (cKind _ q.k 4 lf.k0 lf.k1 (by decide)).mono ?_; rintro e w9 ⟨rfl, hw9⟩; rw [hw9, hK]; clear hw9 w9)
            | (go_at_call 27; refine (oDrop o5 tt).mono ?_; rintro e w6 ⟨rfl, o6, hO6⟩))
          go_roundw
          case rel => exact ⟨k + 1, _, by omega, by omega, by go_num, o6.mono (by omega), by rw [Gr.t_drop]; exact ht2⟩
          case measure => simp [intOf]; omega
    case neg =>
      have hd : (decide ((k : Int) < (len : Int)) && decide ((k : Int) < 40)) = false := by simp; omega
      have f := o4.fit
      clear hl
      have hkb := kd_bounds n 8 (by decide)
      obtain ⟨n', hkn⟩ : ∃ m, kd n 8 = m := ⟨_, rfl⟩
      obtain ⟨x', hkx⟩ : ∃ m, kd x 1000 = m := ⟨_, rfl⟩
      rw [hkn] at hkb
      have htop := o4.top
      have hg := gone_all f (by omega) ht2 n' x' (by omega)
      have sz := shape_sizes f
      have hr2 : (Sh.roots (g.alloc 0 n')).length = 2 := by unfold Sh.roots; rw [Sh.rruns_len, Gr.t_alloc]; exact ht2
      rcases hg with hE | ⟨hE, hM, j, hj, hj8, hD, o, hO⟩
      case inl =>
        go_wp2_with (first
          | (go_at_call 31; refine (oShape o4).mono ?_; rintro e w5 ⟨vr, vl, rfl, o5, h5, r5, s5⟩; obtain ⟨xr, nr, yr, rfl⟩ : ∃ a n c, vr = .slice a n c := (by obtain ⟨a, c, h⟩ := r5.slice; exact ⟨a, _, c, h⟩); obtain ⟨xl, nl, yl, rfl, hnl⟩ : ∃ a n c, vl = .slice a n c ∧ (Sh.objs g).length = n := (by obtain ⟨a, c, h⟩ := s5.slice; exact ⟨a, _, c, h, by simp⟩); have v6 := heap_alloc_new w5 (.cells #[.slice xr nr yr, .slice xl nl yl] 50); have r6 := r5.on (w' := w5.alloc (.cells #[.slice xr nr yr, .slice xl nl yl] 50)) (q := fun _ => True) (fun j cs T' hb _ _ => ⟨Below.heap_alloc _ _ _ (lt_of_block hb), trivial⟩); have s6 := s5.on (w' := w5.alloc (.cells #[.slice xr nr yr, .slice xl nl yl] 50)) (q := fun _ => True) (fun j cs T' hb _ _ => ⟨Below.heap_alloc _ _ _ (lt_of_block hb), trivial⟩); have o6 := o5.alloc (.cells #[.slice xr nr yr, .slice xl nl yl] 50); obtain ⟨wb, hwb⟩ : ∃ n, n = w5.heap.size := ⟨_, rfl⟩; rw [← hwb] at v6)
          | (go_at_call_of 12 (Value.int .i64 n); refine (cKind _ n 8 hn0 hn1 (by decide)).mono ?_; rintro e w9 ⟨rfl, hw9⟩; rw [hw9, hkn]; clear hw9 w9)
          | (go_at_call 13; refine (oAlloc o6 (by omega) 0 n').mono ?_; rintro e w7 ⟨rfl, o7, hO7⟩; rw [hE]; have v7 := hO7 _ _ _ _ (by decide) v6; have r7 := r6.others hO7 (by decide) (by decide); have s7 := s6.others hO7 (by decide) (by decide)))
        all_goals
          go_ret
          exact ⟨rfl, o7.bel⟩
      case inr =>
        go_wp2_with (first
          | (go_at_call_of 12 (Value.int .i64 n); refine (cKind _ n 8 hn0 hn1 (by decide)).mono ?_; rintro e w9 ⟨rfl, hw9⟩; rw [hw9, hkn]; clear hw9 w9)
          | (go_at_call 13; refine (oAlloc o6 (by omega) 0 n').mono ?_; rintro e w7 ⟨rfl, o7, hO7⟩; rw [hE]; have v7 := hO7 _ _ _ _ (by decide) v6; have r7 := r6.others hO7 (by decide) (by decide); have s7 := s6.others hO7 (by decide) (by decide))
          | (go_at_call 31; refine (oShape o4).mono ?_; rintro e w5 ⟨vr, vl, rfl, o5, h5, r5, s5⟩; obtain ⟨xr, nr, yr, rfl⟩ : ∃ a n c, vr = .slice a n c := (by obtain ⟨a, c, h⟩ := r5.slice; exact ⟨a, _, c, h⟩); obtain ⟨xl, nl, yl, rfl, hnl⟩ : ∃ a n c, vl = .slice a n c ∧ (Sh.objs g).length = n := (by obtain ⟨a, c, h⟩ := s5.slice; exact ⟨a, _, c, h, by simp⟩); have v6 := heap_alloc_new w5 (.cells #[.slice xr nr yr, .slice xl nl yl] 50); have r6 := r5.on (w' := w5.alloc (.cells #[.slice xr nr yr, .slice xl nl yl] 50)) (q := fun _ => True) (fun j cs T' hb _ _ => ⟨Below.heap_alloc _ _ _ (lt_of_block hb), trivial⟩); have s6 := s5.on (w' := w5.alloc (.cells #[.slice xr nr yr, .slice xl nl yl] 50)) (q := fun _ => True) (fun j cs T' hb _ _ => ⟨Below.heap_alloc _ _ _ (lt_of_block hb), trivial⟩); have o6 := o5.alloc (.cells #[.slice xr nr yr, .slice xl nl yl] 50); obtain ⟨wb, hwb⟩ : ∃ n, n = w5.heap.size := ⟨_, rfl⟩; rw [← hwb] at v6))
        all_goals
          rw [← hwb]
          clear hwb v6 r6 s6 o6 o5 h5 r5 s5
          obtain ⟨j1, hj1⟩ : ∃ a, j + 1 = a := ⟨_, rfl⟩
          have hj2 : (1 : Int) ≤ (j1 : Int) := by omega
          have hj3 : (j1 : Int) ≤ 9 := by omega
          have hnlb : nl ≤ 10000 := by omega
          go_wp2_with (first
            | (go_at_call 31; refine (oShape o7).mono ?_; rintro e wa ⟨vr2, vl2, rfl, oa, ha, ra, sa⟩; obtain ⟨xr2, yr2, rfl⟩ := ra.slice; rw [List.length_map, hr2] at ra ⊢; obtain ⟨xl2, nl2, yl2, rfl, hnl2⟩ : ∃ a n c, vl2 = .slice a n c ∧ (Sh.objs (g.alloc 0 n')).length = n := (by obtain ⟨a, c, h⟩ := sa.slice; exact ⟨a, _, c, h, by simp⟩); have hne : ((nl2 : Int) != (nl : Int) + 1) = false := (by simp; omega); obtain ⟨gr, u0, rfl, cr, orow⟩ := ra.at rfl 0 (irow_at (rr := Sh.roots (g.alloc 0 n')) (by omega)); obtain ⟨ao1, cp1, rfl, _⟩ := own_slice orow; simp only [irow] at cr; rw [hj, hj1] at cr; have ca := ((bal (Below.refl wa.heap.size wa) (.cells #[.slice (some ⟨gr, 0, none⟩) 2 yr2, .slice xl2 nl2 yl2] 50)).cell (p := ⟨gr, 0, none⟩) (World.block_lt_of_cell? _ _ cr)).trans cr; have ob := oa.alloc (.cells #[.slice (some ⟨gr, 0, none⟩) 2 yr2, .slice xl2 nl2 yl2] 50); have va := (ha.block wb (lt_of_block v7)).trans v7; have vb := (Below.heap_alloc wa (.cells #[.slice (some ⟨gr, 0, none⟩) 2 yr2, .slice xl2 nl2 yl2] 50) _ (lt_of_block va)).trans va; have vb1 : (wa.alloc (.cells #[.slice (some ⟨gr, 0, none⟩) 2 yr2, .slice xl2 nl2 yl2] 50)).cell? ⟨wb, 1, none⟩ = some (.slice xl nl yl) := (by rw [cell_of_row _ _ _ _ _ _ vb]; rfl); have rb := r7.on (w' := wa.alloc (.cells #[.slice (some ⟨gr, 0, none⟩) 2 yr2, .slice xl2 nl2 yl2] 50)) (q := fun _ => True) (fun j cs T' hb _ _ => ⟨(Below.heap_alloc wa (.cells #[.slice (some ⟨gr, 0, none⟩) 2 yr2, .slice xl2 nl2 yl2] 50) _ (Nat.lt_of_lt_of_le (lt_of_block hb) ha.size)).trans (ha.block j (lt_of_block hb)), trivial⟩); have sb := s7.on (w' := wa.alloc (.cells #[.slice (some ⟨gr, 0, none⟩) 2 yr2, .slice xl2 nl2 yl2] 50)) (q := fun _ => True) (fun j cs T' hb _ _ => ⟨(Below.heap_alloc wa (.cells #[.slice (some ⟨gr, 0, none⟩) 2 yr2, .slice xl2 nl2 yl2] 50) _ (Nat.lt_of_lt_of_le (lt_of_block hb) ha.size)).trans (ha.block j (lt_of_block hb)), trivial⟩))
            | (go_at_call_of 12 (Value.int .i64 x); refine (cKind _ x 1000 hx0 hx1 (by decide)).mono ?_; rintro e w9 ⟨rfl, hw9⟩; rw [hw9, hkx]; clear hw9 w9)
            | (go_at_call 19; refine (oWrite ob 0 ((j1 : Int) - 1) 0 0 x').mono ?_; rintro e wc ⟨rfl, oc, hOc⟩; rw [show ((j1 : Int) - 1) = (j : Int) from by omega] at oc; have vc := hOc _ _ _ _ (by decide) vb; have rc := rb.others hOc (by decide) (by decide); have sc := sb.others hOc (by decide) (by decide))
            | (go_at_call 27; refine (oDrop oc 0).mono ?_; rintro e wd ⟨rfl, od, hOd⟩; rw [hD]; rw [hO] at od; have vd := hOd _ _ _ _ (by decide) vc; have rd := rc.others hOd (by decide) (by decide); have sd := sc.others hOd (by decide) (by decide)))
          have vd0 : wd.cell? ⟨wb, 0, none⟩ = some (.slice xr nr yr) := by rw [cell_of_row wd _ _ _ _ _ vd]; rfl
          have vd1 : wd.cell? ⟨wb, 1, none⟩ = some (.slice xl nl yl) := by rw [cell_of_row wd _ _ _ _ _ vd]; rfl
          have ld := lt_of_block vd
          refine wp_region_held_drew (S := fun w' => w'.cell? ⟨wb, 0, none⟩ = some (.slice xr nr yr) ∧ w'.cell? ⟨wb, 1, none⟩ = some (.slice xl nl yl)) (by kernel_rfl) ⟨vd0, vd1⟩ (fun hHeld => ?_)
          refine takeH (i := 0) 119 (.agg #[.slice xr nr yr, .slice xl nl yl]) rfl rfl (by kernel_rfl) (by kernel_rfl) (by kernel_rfl) (fun _ _ _ h => h) (by rfl) ?_ (by assumption) ?_
          · intro w hSw; (try dsimp only at hSw); go_simp
          simp only [List.setIfInBounds_toArray, List.set_cons_zero, List.set_cons_succ]
          refine takeH (i := 1) 120 (.pointer (some ⟨b, 0, none⟩)) rfl rfl (by kernel_rfl) (by kernel_rfl) (by kernel_rfl) (fun _ _ _ h => h) (by rfl) ?_ (by assumption) ?_
          · intro w hSw; (try dsimp only at hSw); go_simp
          simp only [List.setIfInBounds_toArray, List.set_cons_zero, List.set_cons_succ]
          refine wpAnyH_ready (rs := [2]) (by kernel_rfl) (by simp) ?_
          refine AllReadyH.cons rfl (fun K hK => ?_) AllReadyH.nil
          go_simp
          refine (oShape od.drew).mono ?_; rintro e we ⟨vre, vle, rfl, oe, he, re, se⟩; rw [Sh.objs_same f] at se; have re' : RowsI we vre (Sh.roots g) (fun k => wd.drew.heap.size ≤ k) := re; have rf := rd.on (w' := we) (q := fun _ => True) (fun j cs T' hb _ _ => ⟨he.block j (lt_of_block hb), trivial⟩); have sf := sd.on (w' := we) (q := fun _ => True) (fun j cs T' hb _ _ => ⟨he.block j (lt_of_block hb), trivial⟩); have ce0 := (he.cell (p := ⟨wb, 0, none⟩) ld).trans vd0; have ce1 := (he.cell (p := ⟨wb, 1, none⟩) ld).trans vd1
          refine hK.out _ _ ⟨ce0, ce1⟩ (fun hHeld => ?_)
          clear hK K
          try simp only [Act.put, List.setIfInBounds_toArray, List.set_cons_zero, List.set_cons_succ]
          refine wpAnyH_ready (rs := [3]) (by kernel_rfl) (by simp) ?_
          refine AllReadyH.cons rfl (fun K hK => ?_) AllReadyH.nil
          go_simp
          refine (oSame f _ _ _ _ rf sf re' se).mono ?_; rintro e w8 ⟨rfl, h8⟩
          refine hK.out _ _ ⟨(h8.cell (p := ⟨wb, 0, none⟩) (Nat.lt_of_lt_of_le ld he.size)).trans ce0, (h8.cell (p := ⟨wb, 1, none⟩) (Nat.lt_of_lt_of_le ld he.size)).trans ce1⟩ (fun hHeld => ?_)
          clear hK K
          try simp only [Act.put, List.setIfInBounds_toArray, List.set_cons_zero, List.set_cons_succ]
          refine takeH (i := 4) 18 (.bool true) rfl rfl (by kernel_rfl) (by kernel_rfl) (by kernel_rfl) (fun _ _ _ h => h) (by rfl) ?_ (by assumption) ?_
          · intro w hSw; (try dsimp only at hSw); go_simp
          simp only [List.setIfInBounds_toArray, List.set_cons_zero, List.set_cons_succ]
          refine wpAnyH_done (by kernel_rfl) ?_ _
          go_wp2
          go_ret
          exact ⟨rfl, bt oe.bel h8⟩
end Go.Proofs.Ytbihdkdefopijaa
