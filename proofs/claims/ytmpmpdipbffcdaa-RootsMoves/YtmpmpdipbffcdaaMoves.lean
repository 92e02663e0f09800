/-
  The walk of RootsMoves.
-/
import Derived.Test.YtmpmpdipbffcdaaDups
namespace Go.Proofs.Ytmpmpdipbffcdaa
set_option linter.unusedVariables false
open Go.ChangeShapes Go.WideShapes Go.ChangeAt Go.RowKit
open Plain
theorem two_of {w u : World} {p q : Nat} {n : Int} {l m : Nat → Int} (hb : Below w.heap.size w u) (hp : RAt u p n l) (hq : RAt u q n m) : Below w.heap.size w u ∧ p < u.heap.size ∧ q < u.heap.size ∧ (u.cell? ⟨p, 0, none⟩ = some (.int .i64 n) ∧ u.cell? ⟨p, 1, none⟩ = some (.int .i64 (l 0)) ∧ u.cell? ⟨p, 2, none⟩ = some (.int .i64 (l 1)) ∧ u.cell? ⟨p, 3, none⟩ = some (.int .i64 (l 2)) ∧ u.cell? ⟨p, 4, none⟩ = some (.int .i64 (l 3)) ∧ u.cell? ⟨p, 5, none⟩ = some (.int .i64 (l 4)) ∧ u.cell? ⟨p, 6, none⟩ = some (.int .i64 (l 5)) ∧ u.cell? ⟨p, 7, none⟩ = some (.int .i64 (l 6)) ∧ u.cell? ⟨p, 8, none⟩ = some (.int .i64 (l 7))) ∧ u.cell? ⟨q, 0, none⟩ = some (.int .i64 n) ∧ u.cell? ⟨q, 1, none⟩ = some (.int .i64 (m 0)) ∧ u.cell? ⟨q, 2, none⟩ = some (.int .i64 (m 1)) ∧ u.cell? ⟨q, 3, none⟩ = some (.int .i64 (m 2)) ∧ u.cell? ⟨q, 4, none⟩ = some (.int .i64 (m 3)) ∧ u.cell? ⟨q, 5, none⟩ = some (.int .i64 (m 4)) ∧ u.cell? ⟨q, 6, none⟩ = some (.int .i64 (m 5)) ∧ u.cell? ⟨q, 7, none⟩ = some (.int .i64 (m 6)) ∧ u.cell? ⟨q, 8, none⟩ = some (.int .i64 (m 7)) := ⟨hb, hp.lt, hq.lt, hp.cells, hq.cells⟩
theorem two_on {w u v : World} {p q : Nat} {n : Int} {l m : Nat → Int} (h : Below w.heap.size w u ∧ p < u.heap.size ∧ q < u.heap.size ∧ (u.cell? ⟨p, 0, none⟩ = some (.int .i64 n) ∧ u.cell? ⟨p, 1, none⟩ = some (.int .i64 (l 0)) ∧ u.cell? ⟨p, 2, none⟩ = some (.int .i64 (l 1)) ∧ u.cell? ⟨p, 3, none⟩ = some (.int .i64 (l 2)) ∧ u.cell? ⟨p, 4, none⟩ = some (.int .i64 (l 3)) ∧ u.cell? ⟨p, 5, none⟩ = some (.int .i64 (l 4)) ∧ u.cell? ⟨p, 6, none⟩ = some (.int .i64 (l 5)) ∧ u.cell? ⟨p, 7, none⟩ = some (.int .i64 (l 6)) ∧ u.cell? ⟨p, 8, none⟩ = some (.int .i64 (l 7))) ∧ u.cell? ⟨q, 0, none⟩ = some (.int .i64 n) ∧ u.cell? ⟨q, 1, none⟩ = some (.int .i64 (m 0)) ∧ u.cell? ⟨q, 2, none⟩ = some (.int .i64 (m 1)) ∧ u.cell? ⟨q, 3, none⟩ = some (.int .i64 (m 2)) ∧ u.cell? ⟨q, 4, none⟩ = some (.int .i64 (m 3)) ∧ u.cell? ⟨q, 5, none⟩ = some (.int .i64 (m 4)) ∧ u.cell? ⟨q, 6, none⟩ = some (.int .i64 (m 5)) ∧ u.cell? ⟨q, 7, none⟩ = some (.int .i64 (m 6)) ∧ u.cell? ⟨q, 8, none⟩ = some (.int .i64 (m 7))) (hb : Below u.heap.size u v) : Below w.heap.size w v ∧ p < v.heap.size ∧ q < v.heap.size ∧ (v.cell? ⟨p, 0, none⟩ = some (.int .i64 n) ∧ v.cell? ⟨p, 1, none⟩ = some (.int .i64 (l 0)) ∧ v.cell? ⟨p, 2, none⟩ = some (.int .i64 (l 1)) ∧ v.cell? ⟨p, 3, none⟩ = some (.int .i64 (l 2)) ∧ v.cell? ⟨p, 4, none⟩ = some (.int .i64 (l 3)) ∧ v.cell? ⟨p, 5, none⟩ = some (.int .i64 (l 4)) ∧ v.cell? ⟨p, 6, none⟩ = some (.int .i64 (l 5)) ∧ v.cell? ⟨p, 7, none⟩ = some (.int .i64 (l 6)) ∧ v.cell? ⟨p, 8, none⟩ = some (.int .i64 (l 7))) ∧ v.cell? ⟨q, 0, none⟩ = some (.int .i64 n) ∧ v.cell? ⟨q, 1, none⟩ = some (.int .i64 (m 0)) ∧ v.cell? ⟨q, 2, none⟩ = some (.int .i64 (m 1)) ∧ v.cell? ⟨q, 3, none⟩ = some (.int .i64 (m 2)) ∧ v.cell? ⟨q, 4, none⟩ = some (.int .i64 (m 3)) ∧ v.cell? ⟨q, 5, none⟩ = some (.int .i64 (m 4)) ∧ v.cell? ⟨q, 6, none⟩ = some (.int .i64 (m 5)) ∧ v.cell? ⟨q, 7, none⟩ = some (.int .i64 (m 6)) ∧ v.cell? ⟨q, 8, none⟩ = some (.int .i64 (m 7)) := by
  obtain ⟨h1, h4, h5, ⟨d0, d1, d2, d3, d4, d5, d6, d7, d8⟩, e0, e1, e2, e3, e4, e5, e6, e7, e8⟩ := h
  exact ⟨bt h1 hb, Nat.lt_of_lt_of_le h4 hb.size, Nat.lt_of_lt_of_le h5 hb.size, ⟨(hb.cell h4).trans d0, (hb.cell h4).trans d1, (hb.cell h4).trans d2, (hb.cell h4).trans d3, (hb.cell h4).trans d4, (hb.cell h4).trans d5, (hb.cell h4).trans d6, (hb.cell h4).trans d7, (hb.cell h4).trans d8⟩, (hb.cell h5).trans e0, (hb.cell h5).trans e1, (hb.cell h5).trans e2, (hb.cell h5).trans e3, (hb.cell h5).trans e4, (hb.cell h5).trans e5, (hb.cell h5).trans e6, (hb.cell h5).trans e7, (hb.cell h5).trans e8⟩
/-- moved, and back again -/
theorem moveBack (z : Nat → Int) (k : Nat) (a b : Int) (h : ∀ j, j < k → z j ≠ b) (w : World) :
    Calls Try.prog 18 #[rv k (mv (cut z k) k a b), .int .i64 b, .int .i64 a] w fun e w' => e = .returned (rv k (cut z k)) ∧ Below w.heap.size w w' := by
  have hM := cMove k (mv (cut z k) k a b) b a w
  have e : rv k (mv (mv (cut z k) k a b) k b a) = rv k (cut z k) := by
    refine rv_same k fun j _ => ?_
    unfold mv
    by_cases hj : (j : Int) < k
    · have hz : cut z k j = z j := cut_at z k j (by omega)
      have hne := h j (by omega)
      rw [hz]
      by_cases ha : z j = a
      · simp [hj, ha]
      · simp [hj, ha, hne]
    · simp [hj]
  rw [e] at hM
  exact hM

set_option maxHeartbeats 3200000 in
theorem wMoves (ao : Option Addr) (len cap : Nat) (z : Nat → Int) (fr to : Int) (w : World) (hl : Came w ao len z) :
    Calls Try.prog 5 #[.slice ao len cap, .int .i64 fr, .int .i64 to] w fun e w' => e = .returned (.bool true) ∧ Below w.heap.size w w' := by
  go_enter Try.func5, Try.ntmps5
  go_wp2_with (go_at_call 9; refine (cShown _).mono ?_; rintro e w1 ⟨rfl, hb1⟩)
  go_loopw [9, 10] (fun th q wr => ∃ (k : Nat) (t : Bool), k ≤ 8 ∧ k ≤ len ∧ th = .bool t ∧ q = .int .i64 k ∧ Hid (t = false → ∀ j : Nat, j < k → z j ≠ to) ∧ RAt wr w1.heap.size k (cut z k) ∧ Below w.heap.size w wr) (fun _ q _ => 8 - (intOf q).toNat)
  case atStart => exact ⟨0, false, by omega, by omega, rfl, rfl, fun _ j h => by omega, startR w1 z, bal hb1 _⟩
  case round =>
    obtain ⟨k, t, hk, hkl, rfl, rfl, ht, hR, hB⟩ := hrel
    obtain ⟨wo, rfl⟩ : ∃ wo : World, wo = wr := ⟨_, rfl⟩
    by_cases hlt : k < len ∧ k < 8
    case pos =>
      rcases hl with hl | ⟨b, off, rfl, hbB, hc⟩
      · omega
      have k0 : (0 : Int) ≤ (k : Int) := by omega
      have kl : (k : Int) < (len : Int) := by omega
      have k8 : (k : Int) < 8 := by omega
      have hcell : wo.drew.cell? ⟨b, off + k, none⟩ = some (.int .i64 (z k)) := (hB.cell hbB).trans (hc k hlt.1)
      have ne : b ≠ w1.heap.size := by have := hb1.size; omega
      obtain ⟨c0, c1, c2, c3, c4, c5, c6, c7, c8⟩ := hR.cells
      go_wp2
      refine wp_region_held_drew (S := fun w' => w'.cell? ⟨b, off + k, none⟩ = some (.int .i64 (z k))) (by kernel_rfl) hcell (fun hHeld => ?_)
      refine takeH (i := 1) 28 (.slice (some ⟨b, off, none⟩) len cap) rfl rfl (by kernel_rfl) (by kernel_rfl) (by kernel_rfl) (fun _ _ _ h => h) (by rfl) ?_ (by assumption) ?_
      · intro w hSw; (try dsimp only at hSw); go_simp
      simp only [List.setIfInBounds_toArray, List.set_cons_zero, List.set_cons_succ]
      refine takeH (i := 2) 29 (.int .i64 k) rfl rfl (by kernel_rfl) (by kernel_rfl) (by kernel_rfl) (fun _ _ _ h => h) (by rfl) ?_ (by assumption) ?_
      · intro w hSw; (try dsimp only at hSw); go_simp
      simp only [List.setIfInBounds_toArray, List.set_cons_zero, List.set_cons_succ]
      refine takeH (i := 3) 30 (.pointer (some ⟨b, off + k, none⟩)) rfl rfl (by kernel_rfl) (by kernel_rfl) (by kernel_rfl) (fun _ _ _ h => h) (by rfl) ?_ (by assumption) ?_
      · intro w hSw; (try dsimp only at hSw); go_simp
      simp only [List.setIfInBounds_toArray, List.set_cons_zero, List.set_cons_succ]
      refine takeH (i := 4) 31 (.int .i64 (z k)) rfl rfl (by kernel_rfl) (by kernel_rfl) (by kernel_rfl) (fun _ _ _ h => h) (by rfl) ?_ (by assumption) ?_
      · intro w hSw; (try dsimp only at hSw); go_simp
      simp only [List.setIfInBounds_toArray, List.set_cons_zero, List.set_cons_succ]
      refine wpAnyH_ready (rs := [0]) (by kernel_rfl) (by simp) ?_
      refine AllReadyH.cons rfl (fun K hK => ?_) AllReadyH.nil
      go_simp
      refine hK.out _ _ hcell (fun hHeld => ?_)
      clear hK K
      try simp only [Act.put, List.setIfInBounds_toArray, List.set_cons_zero, List.set_cons_succ]
      refine wpAnyH_ready (rs := [5]) (by kernel_rfl) (by simp) ?_
      refine AllReadyH.cons rfl (fun K hK => ?_) AllReadyH.nil
      go_simp
      refine (pushNext z k hlt.2 _).mono ?_; rintro e w2 ⟨rfl, hb2⟩; have hR2 := RAt.on (RAt.drew hR) hb2; obtain ⟨d0, d1, d2, d3, d4, d5, d6, d7, d8⟩ := hR2.cells; have hf := hR2.free; have hB2 := bt hB.drew hb2
      refine hK.out _ _ ((hb2.cell (World.block_lt_of_cell? _ _ hcell)).trans hcell) (fun hHeld => ?_)
      clear hK K
      try simp only [Act.put, List.setIfInBounds_toArray, List.set_cons_zero, List.set_cons_succ]
      refine takeH (i := 6) 26 (Value.tuple #[rv ((k : Int) + 1) (cut z ((k : Int) + 1)), .int .i64 0]) rfl rfl (by kernel_rfl) (by kernel_rfl) (by kernel_rfl) (fun _ _ _ h => h) (by rfl) ?_ (by assumption) ?_
      · intro w hSw; (try dsimp only at hSw); go_simp
      simp only [List.setIfInBounds_toArray, List.set_cons_zero, List.set_cons_succ]
      refine takeH (i := 7) 33 (rv ((k : Int) + 1) (cut z ((k : Int) + 1))) rfl rfl (by kernel_rfl) (by kernel_rfl) (by kernel_rfl) (fun _ _ _ h => h) (by rfl) ?_ (by assumption) ?_
      · intro w hSw; (try dsimp only at hSw); go_simp
      simp only [List.setIfInBounds_toArray, List.set_cons_zero, List.set_cons_succ]
      refine takeH (i := 8) 34 (.int .i64 0) rfl rfl (by kernel_rfl) (by kernel_rfl) (by kernel_rfl) (fun _ _ _ h => h) (by rfl) ?_ (by assumption) ?_
      · intro w hSw; (try dsimp only at hSw); go_simp
      simp only [List.setIfInBounds_toArray, List.set_cons_zero, List.set_cons_succ]
      refine wpAnyH_ready (rs := [9]) (by kernel_rfl) (by simp) ?_
      refine AllReadyH.cons rfl (fun K hK => ?_) AllReadyH.nil
      go_simp
      refine hK.out _ _ (cell9 hHeld ne) (fun hHeld => ?_)
      clear hK K
      try simp only [Act.put, List.setIfInBounds_toArray, List.set_cons_zero, List.set_cons_succ]
      refine wpAnyH_done (by kernel_rfl) ?_ _
      have ek : ((k + 1 : Nat) : Int) = (k : Int) + 1 := by omega
      clear hcell hc c0 c1 c2 c3 c4 c5 c6 c7 c8 d0 d1 d2 d3 d4 d5 d6 d7 d8 hf
      rcases t with _ | _
      · by_cases hy : z k = to
        · have hy' : (z k == to) = true := by simpa using hy
          clear hy
          go_wp2
          go_roundw
          case rel => exact ⟨k + 1, true, by omega, by omega, rfl, by go_num, (fun h => by cases h), by rw [ek]; exact hR2.put9, b9 hb1.size hB2⟩
          case measure => simp [intOf]; omega
        · have hy' : (z k == to) = false := by simpa using hy
          have HY : Hid (¬ z k = to) := hy
          clear hy
          go_wp2
          go_roundw
          case rel => exact ⟨k + 1, false, by omega, by omega, rfl, by go_num, (fun _ j hj => by
            by_cases e : j = k
            · rw [e]; exact HY.out
            · exact ht.out rfl j (by omega)), by rw [ek]; exact hR2.put9, b9 hb1.size hB2⟩
          case measure => simp [intOf]; omega
      · go_wp2
        go_roundw
        case rel => exact ⟨k + 1, true, by omega, by omega, rfl, by go_num, (fun h => by cases h), by rw [ek]; exact hR2.put9, b9 hb1.size hB2⟩
        case measure => simp [intOf]; omega
    case neg =>
      have hq : ((k : Int) < len ∧ (8 : Int) ≤ k) ∨ (len : Int) ≤ k := by omega
      have k0 : (0 : Int) ≤ (k : Int) := by omega
      have E1 := sameR' k (cut z k)
      have hM := cMove k (cut z k) fr to
      have hM2 : t = false → ∀ v, _ := fun h v => moveBack z k fr to (ht.out h) v
      obtain ⟨ml, hml⟩ : ∃ ml, mv (cut z k) k fr to = ml := ⟨_, rfl⟩
      have hat : ∀ j : Nat, ml j = if (j : Int) < k ∧ cut z k j = fr then to else cut z k j := fun j => by rw [← hml]; rfl
      rw [hml] at hM hM2
      have HA : Hid (∀ j : Nat, ml j = if (j : Int) < k ∧ cut z k j = fr then to else cut z k j) := hat
      obtain ⟨c0, c1, c2, c3, c4, c5, c6, c7, c8⟩ := hR.cells
      clear hl hml hat hlt ht
      have HM : Hid (t = false → ∀ v, Calls Try.prog 18 #[rv k ml, .int .i64 to, .int .i64 fr] v fun e w' => e = .returned (rv k (cut z k)) ∧ Below v.heap.size v w') := hM2
      clear hM2
      rcases hq with ⟨hq, hq8⟩ | hq
      all_goals
        go_wp2_with (go_at_call 18; refine (hM _).mono ?_; rintro e w2 ⟨rfl, hb2⟩; have hR2 := hR.on hb2; have hB2 := bt hB hb2; have z2 := hR2.lt; obtain ⟨d0, d1, d2, d3, d4, d5, d6, d7, d8⟩ := hR2.cells)
        have hRW := hR2.alloc (.cells #[.int .i64 k, .int .i64 (ml 0), .int .i64 (ml 1), .int .i64 (ml 2), .int .i64 (ml 3), .int .i64 (ml 4), .int .i64 (ml 5), .int .i64 (ml 6), .int .i64 (ml 7)] 24)
        have hSW := RAt.new w2 k ml
        have hBW := bal hB2 (.cells #[.int .i64 k, .int .i64 (ml 0), .int .i64 (ml 1), .int .i64 (ml 2), .int .i64 (ml 3), .int .i64 (ml 4), .int .i64 (ml 5), .int .i64 (ml 6), .int .i64 (ml 7)] 24)
        obtain ⟨W, hW⟩ : ∃ W, W = w2.alloc (.cells #[.int .i64 k, .int .i64 (ml 0), .int .i64 (ml 1), .int .i64 (ml 2), .int .i64 (ml 3), .int .i64 (ml 4), .int .i64 (ml 5), .int .i64 (ml 6), .int .i64 (ml 7)] 24) := ⟨_, rfl⟩
        rw [← hW] at hRW hSW hBW ⊢
        clear hW c0 c1 c2 c3 c4 c5 c6 c7 c8 d0 d1 d2 d3 d4 d5 d6 d7 d8 hM
        obtain ⟨c0, c1, c2, c3, c4, c5, c6, c7, c8⟩ := hRW.cells
        obtain ⟨d0, d1, d2, d3, d4, d5, d6, d7, d8⟩ := hSW.cells
        go_loop [12] (fun q => ∃ j : Nat, j ≤ 8 ∧ q = .int .i64 j) (fun q => 8 - (intOf q).toNat)
        case atStart => exact ⟨0, by omega, rfl⟩
        case round =>
          obtain ⟨j, hj, rfl⟩ := hrel
          have j0 : (0 : Int) ≤ (j : Int) := by omega
          by_cases h8 : j < 8
          case pos =>
            have j8 : (j : Int) < 8 := by omega
            have q1 := hRW.cell j h8
            have q2 := hSW.cell j h8
            rw [HA.out j] at q2
            by_cases hjk : (j : Int) < k
            case pos =>
              by_cases hy : cut z k j = fr
              · have hy' : (cut z k j == fr) = true := by simpa using hy
                rw [if_pos ⟨hjk, hy⟩] at q2
                clear hy
                go_wp2
                go_round
                case rel => exact ⟨j + 1, by omega, by go_num⟩
                case measure => simp [intOf]; omega
              · have hy' : (cut z k j == fr) = false := by simpa using hy
                rw [if_neg fun h => hy h.2] at q2
                clear hy
                go_wp2
                go_round
                case rel => exact ⟨j + 1, by omega, by go_num⟩
                case measure => simp [intOf]; omega
            case neg =>
              try (exfalso; omega)
              all_goals
                rw [if_neg fun h => hjk h.1] at q2
                go_wp2
                go_round
                case rel => exact ⟨j + 1, by omega, by go_num⟩
                case measure => simp [intOf]; omega
          case neg =>
            have H : Below w.heap.size w W.drew ∧ w1.heap.size < W.drew.heap.size ∧ w2.heap.size < W.drew.heap.size ∧ (W.drew.cell? ⟨w1.heap.size, 0, none⟩ = some (.int .i64 k) ∧ W.drew.cell? ⟨w1.heap.size, 1, none⟩ = some (.int .i64 (cut z k 0)) ∧ W.drew.cell? ⟨w1.heap.size, 2, none⟩ = some (.int .i64 (cut z k 1)) ∧ W.drew.cell? ⟨w1.heap.size, 3, none⟩ = some (.int .i64 (cut z k 2)) ∧ W.drew.cell? ⟨w1.heap.size, 4, none⟩ = some (.int .i64 (cut z k 3)) ∧ W.drew.cell? ⟨w1.heap.size, 5, none⟩ = some (.int .i64 (cut z k 4)) ∧ W.drew.cell? ⟨w1.heap.size, 6, none⟩ = some (.int .i64 (cut z k 5)) ∧ W.drew.cell? ⟨w1.heap.size, 7, none⟩ = some (.int .i64 (cut z k 6)) ∧ W.drew.cell? ⟨w1.heap.size, 8, none⟩ = some (.int .i64 (cut z k 7))) ∧ W.drew.cell? ⟨w2.heap.size, 0, none⟩ = some (.int .i64 k) ∧ W.drew.cell? ⟨w2.heap.size, 1, none⟩ = some (.int .i64 (ml 0)) ∧ W.drew.cell? ⟨w2.heap.size, 2, none⟩ = some (.int .i64 (ml 1)) ∧ W.drew.cell? ⟨w2.heap.size, 3, none⟩ = some (.int .i64 (ml 2)) ∧ W.drew.cell? ⟨w2.heap.size, 4, none⟩ = some (.int .i64 (ml 3)) ∧ W.drew.cell? ⟨w2.heap.size, 5, none⟩ = some (.int .i64 (ml 4)) ∧ W.drew.cell? ⟨w2.heap.size, 6, none⟩ = some (.int .i64 (ml 5)) ∧ W.drew.cell? ⟨w2.heap.size, 7, none⟩ = some (.int .i64 (ml 6)) ∧ W.drew.cell? ⟨w2.heap.size, 8, none⟩ = some (.int .i64 (ml 7)) := two_of hBW.drew hRW.drew hSW.drew
            rcases t with _ | _
            · have hM := HM.out rfl
              go_wp2
              go_region_held3 (fun w' => Below w.heap.size w w' ∧ w1.heap.size < w'.heap.size ∧ w2.heap.size < w'.heap.size ∧ (w'.cell? ⟨w1.heap.size, 0, none⟩ = some (.int .i64 k) ∧ w'.cell? ⟨w1.heap.size, 1, none⟩ = some (.int .i64 (cut z k 0)) ∧ w'.cell? ⟨w1.heap.size, 2, none⟩ = some (.int .i64 (cut z k 1)) ∧ w'.cell? ⟨w1.heap.size, 3, none⟩ = some (.int .i64 (cut z k 2)) ∧ w'.cell? ⟨w1.heap.size, 4, none⟩ = some (.int .i64 (cut z k 3)) ∧ w'.cell? ⟨w1.heap.size, 5, none⟩ = some (.int .i64 (cut z k 4)) ∧ w'.cell? ⟨w1.heap.size, 6, none⟩ = some (.int .i64 (cut z k 5)) ∧ w'.cell? ⟨w1.heap.size, 7, none⟩ = some (.int .i64 (cut z k 6)) ∧ w'.cell? ⟨w1.heap.size, 8, none⟩ = some (.int .i64 (cut z k 7))) ∧ w'.cell? ⟨w2.heap.size, 0, none⟩ = some (.int .i64 k) ∧ w'.cell? ⟨w2.heap.size, 1, none⟩ = some (.int .i64 (ml 0)) ∧ w'.cell? ⟨w2.heap.size, 2, none⟩ = some (.int .i64 (ml 1)) ∧ w'.cell? ⟨w2.heap.size, 3, none⟩ = some (.int .i64 (ml 2)) ∧ w'.cell? ⟨w2.heap.size, 4, none⟩ = some (.int .i64 (ml 3)) ∧ w'.cell? ⟨w2.heap.size, 5, none⟩ = some (.int .i64 (ml 4)) ∧ w'.cell? ⟨w2.heap.size, 6, none⟩ = some (.int .i64 (ml 5)) ∧ w'.cell? ⟨w2.heap.size, 7, none⟩ = some (.int .i64 (ml 6)) ∧ w'.cell? ⟨w2.heap.size, 8, none⟩ = some (.int .i64 (ml 7))) (first | assumption | exact two_on (by assumption) (by assumption))
                (first | (go_at_call 18; refine (hM _).mono ?_; rintro e wa ⟨rfl, ha⟩))
              go_wp2
              go_ret
              exact ⟨rfl, bt hBW.drew ha⟩
            · go_wp2
              go_quiet (fail)
              go_wp2
              go_ret
              exact ⟨rfl, bdr hBW _⟩
end Go.Proofs.Ytmpmpdipbffcdaa
