/-
  The walk of the law on where everything stands: it returns true, and writes nothing that was there.
-/
import Derived.Test.YtfohcacngmiklaaDoorWalks2
import Derived.Deep.RegionHeld3
namespace Go.Proofs.YtfohcacngmiklaaDoor
set_option linter.unusedVariables false
open Go.ChangeShapes Go.WideShapes Go.ChangeAt Go.RowKit
open Plain

/-- a plan that lies in the block q, while more blocks come -/
theorem held_on {w : World} {q : Nat} {p0 p1 p2 p3 p4 : Int} {u v : World}
    (h : Below w.heap.size w u ∧ q < u.heap.size ∧ u.cell? ⟨q, 0, none⟩ = some (.int .i64 p0) ∧ u.cell? ⟨q, 1, none⟩ = some (.int .i64 p1) ∧ u.cell? ⟨q, 2, none⟩ = some (.int .i64 p2) ∧ u.cell? ⟨q, 3, none⟩ = some (.int .i64 p3) ∧ u.cell? ⟨q, 4, none⟩ = some (.int .i64 p4)) (hb : Below u.heap.size u v) :
    Below w.heap.size w v ∧ q < v.heap.size ∧ v.cell? ⟨q, 0, none⟩ = some (.int .i64 p0) ∧ v.cell? ⟨q, 1, none⟩ = some (.int .i64 p1) ∧ v.cell? ⟨q, 2, none⟩ = some (.int .i64 p2) ∧ v.cell? ⟨q, 3, none⟩ = some (.int .i64 p3) ∧ v.cell? ⟨q, 4, none⟩ = some (.int .i64 p4) :=
  ⟨bt h.1 hb, PAt.on h.2 hb⟩

theorem cs_bounds (c : Int) : 0 ≤ cs c ∧ cs c ≤ 8 := by
  rcases ways3 c with h | h | rfl | rfl | rfl
  · rw [cs_lo h]; decide
  · rw [cs_hi h]; decide
  · decide
  · decide
  · decide

section
variable (T B D H S : Int)
theorem kBlock (F : Fits T B D H S) (w : World) (a : Int) : Calls Tryd.prog 18 #[.agg #[.int .i64 T, .int .i64 B, .int .i64 D, .int .i64 H, .int .i64 S], .int .i64 a] w fun e w' => e = .returned (.int .i64 (bk H S a)) ∧ Below w.heap.size w w' := by
  obtain ⟨t0, t1, b0, b1, d0, d1, g0, g1, g2, s0, s1⟩ := F
  exact (cBlock T B D H S a (by omega) (by omega) (by omega) (by omega) w).mono fun e w' ⟨he, hw⟩ => ⟨he, hw ▸ bal (Below.refl _ _) _⟩
theorem mBlock (F : Fits T B D H S) (w : World) (a : Int) : Calls Tryd.prog 19 #[.agg #[.int .i64 T, .int .i64 B, .int .i64 D, .int .i64 H, .int .i64 S], .int .i64 a] w fun e w' => e = .returned (.int .i64 (bk H S a)) ∧ Below w.heap.size w w' := by
  obtain ⟨t0, t1, b0, b1, d0, d1, g0, g1, g2, s0, s1⟩ := F
  exact (rBlock T B D H S a (by omega) (by omega) (by omega) (by omega) (by omega) w).mono fun e w' ⟨he, hw⟩ => ⟨he, hw ▸ bal (Below.refl _ _) _⟩
theorem kAck (w : World) (i : Int) (h0 : 0 ≤ i) (h1 : i ≤ 1000) : Calls Tryd.prog 20 #[.agg #[.int .i64 T, .int .i64 B, .int .i64 D, .int .i64 H, .int .i64 S], .int .i64 i] w fun e w' => e = .returned (.int .i64 (10 + i)) ∧ Below w.heap.size w w' :=
  (cAck T B D H S i h0 h1 w).mono fun e w' ⟨he, hw⟩ => ⟨he, hw ▸ bal (Below.refl _ _) _⟩
theorem mAck (w : World) (i : Int) (h0 : 0 ≤ i) (h1 : i ≤ 1000) : Calls Tryd.prog 21 #[.agg #[.int .i64 T, .int .i64 B, .int .i64 D, .int .i64 H, .int .i64 S], .int .i64 i] w fun e w' => e = .returned (.int .i64 (10 + i)) ∧ Below w.heap.size w w' :=
  (rAck T B D H S i h0 h1 w).mono fun e w' ⟨he, hw⟩ => ⟨he, hw ▸ bal (Below.refl _ _) _⟩
theorem kEntry (F : Fits T B D H S) (w : World) (i : Int) (h0 : 0 ≤ i) (h1 : i ≤ 1000) : Calls Tryd.prog 22 #[.agg #[.int .i64 T, .int .i64 B, .int .i64 D, .int .i64 H, .int .i64 S], .int .i64 i] w fun e w' => e = .returned (.int .i64 (D + i)) ∧ Below w.heap.size w w' := by
  obtain ⟨t0, t1, b0, b1, d0, d1, g0, g1, g2, s0, s1⟩ := F
  exact (cEntry T B D H S i h0 h1 (by omega) (by omega) w).mono fun e w' ⟨he, hw⟩ => ⟨he, hw ▸ bal (Below.refl _ _) _⟩
theorem mEntry (F : Fits T B D H S) (w : World) (i : Int) (h0 : 0 ≤ i) (h1 : i ≤ 1000) : Calls Tryd.prog 23 #[.agg #[.int .i64 T, .int .i64 B, .int .i64 D, .int .i64 H, .int .i64 S], .int .i64 i] w fun e w' => e = .returned (.int .i64 (D + i)) ∧ Below w.heap.size w w' := by
  obtain ⟨t0, t1, b0, b1, d0, d1, g0, g1, g2, s0, s1⟩ := F
  exact (rEntry T B D H S i h0 h1 (by omega) (by omega) w).mono fun e w' ⟨he, hw⟩ => ⟨he, hw ▸ bal (Below.refl _ _) _⟩
theorem kCell (F : Fits T B D H S) (w : World) (i c k : Int) (i0 : 0 ≤ i) (i1 : i ≤ 100) (k0 : 0 ≤ k) (k1 : k ≤ 100) (W : Wid w) : Calls Tryd.prog 24 #[.agg #[.int .i64 T, .int .i64 B, .int .i64 D, .int .i64 H, .int .i64 S], .int .i64 i, .int .i64 c, .int .i64 k] w fun e w' => e = .returned (.int .i64 (H + 32 * i + k * wd c)) ∧ Below w.heap.size w w' := by
  obtain ⟨t0, t1, b0, b1, d0, d1, g0, g1, g2, s0, s1⟩ := F
  exact cCell T B D H S i c k (by omega) (by omega) i0 i1 k0 k1 w W
theorem mCell (F : Fits T B D H S) (w : World) (i c k : Int) (i0 : 0 ≤ i) (i1 : i ≤ 100) (k0 : 0 ≤ k) (k1 : k ≤ 100) : Calls Tryd.prog 25 #[.agg #[.int .i64 T, .int .i64 B, .int .i64 D, .int .i64 H, .int .i64 S], .int .i64 i, .int .i64 c, .int .i64 k] w fun e w' => e = .returned (.int .i64 (H + 32 * i + k * wd c)) ∧ Below w.heap.size w w' := by
  obtain ⟨t0, t1, b0, b1, d0, d1, g0, g1, g2, s0, s1⟩ := F
  exact rCell T B D H S i c k (by omega) (by omega) i0 i1 k0 k1 w
end

set_option maxRecDepth 100000 in
set_option maxHeartbeats 1600000 in
theorem wPlaces (t b a : Int) (w : World) (W : Wid w) :
    Calls Tryd.prog 5 #[.int .i64 t, .int .i64 b, .int .i64 a] w fun e w' => e = .returned (.bool true) ∧ Below w.heap.size w w' := by
  obtain ⟨x, hx, x0, x1⟩ := mask t
  obtain ⟨y, hy, y0, y1⟩ := mask b
  go_enter Tryd.func5, Tryd.ntmps5
  go_wp2_with (first
    | (go_at_call 9; refine (cShown _ W).mono ?_; rintro e w1 ⟨rfl, hb1⟩)
    | (go_at_call 10; refine (gNew x y x0 x1 y0 y1 _).mono ?_; rintro e w2 ⟨T, B, D, H, S, rfl, F, rfl⟩))
  clear hx hy x0 x1 y0 y1
  have F' := F
  obtain ⟨t0, t1, b0, b1, d0, d1, g0, g1, g2, s0, s1⟩ := F'
  go_region_held3 (fun w' => Below w.heap.size w w' ∧ w1.heap.size + 1 < w'.heap.size ∧ w'.cell? ⟨w1.heap.size + 1, 0, none⟩ = some (.int .i64 T) ∧ w'.cell? ⟨w1.heap.size + 1, 1, none⟩ = some (.int .i64 B) ∧ w'.cell? ⟨w1.heap.size + 1, 2, none⟩ = some (.int .i64 D) ∧ w'.cell? ⟨w1.heap.size + 1, 3, none⟩ = some (.int .i64 H) ∧ w'.cell? ⟨w1.heap.size + 1, 4, none⟩ = some (.int .i64 S)) (first | assumption | exact held_on (by assumption) (by assumption) | exact ⟨(bal (bal hb1 _) _).drew, by simp, by go_cell, by go_cell, by go_cell, by go_cell, by go_cell⟩)
    (first
      | (go_at_call 18; refine (kBlock T B D H S F _ a).mono ?_; rintro e w' ⟨rfl, hb⟩)
      | (go_at_call 19; refine (mBlock T B D H S F _ a).mono ?_; rintro e w' ⟨rfl, hb⟩))
  rename_i hS
  go_wp2
  go_loopw [10] (fun i wr => ∃ k : Nat, (k : Int) ≤ T ∧ i = .int .i64 k ∧ (Below w.heap.size w wr ∧ w1.heap.size + 1 < wr.heap.size ∧ wr.cell? ⟨w1.heap.size + 1, 0, none⟩ = some (.int .i64 T) ∧ wr.cell? ⟨w1.heap.size + 1, 1, none⟩ = some (.int .i64 B) ∧ wr.cell? ⟨w1.heap.size + 1, 2, none⟩ = some (.int .i64 D) ∧ wr.cell? ⟨w1.heap.size + 1, 3, none⟩ = some (.int .i64 H) ∧ wr.cell? ⟨w1.heap.size + 1, 4, none⟩ = some (.int .i64 S))) (fun i _ => T.toNat - (intOf i).toNat)
  case atStart => exact ⟨0, by omega, rfl, hS⟩
  case round =>
    obtain ⟨k, hk, rfl, hR⟩ := hrel
    obtain ⟨wo, rfl⟩ : ∃ wo : World, wo = wr := ⟨_, rfl⟩
    clear hS
    have hR' := hR
    obtain ⟨hR0, hR1, hR2, hR3, hR4, hR5, hR6⟩ := hR'
    by_cases hltk : (k : Int) < T
    case pos =>
      go_wp2
      have hD : Below w.heap.size w wo.drew ∧ w1.heap.size + 1 < wo.drew.heap.size ∧ wo.drew.cell? ⟨w1.heap.size + 1, 0, none⟩ = some (.int .i64 T) ∧ wo.drew.cell? ⟨w1.heap.size + 1, 1, none⟩ = some (.int .i64 B) ∧ wo.drew.cell? ⟨w1.heap.size + 1, 2, none⟩ = some (.int .i64 D) ∧ wo.drew.cell? ⟨w1.heap.size + 1, 3, none⟩ = some (.int .i64 H) ∧ wo.drew.cell? ⟨w1.heap.size + 1, 4, none⟩ = some (.int .i64 S) := ⟨hR.1.drew, hR.2⟩
      go_region_held3 (fun w' => Below w.heap.size w w' ∧ w1.heap.size + 1 < w'.heap.size ∧ w'.cell? ⟨w1.heap.size + 1, 0, none⟩ = some (.int .i64 T) ∧ w'.cell? ⟨w1.heap.size + 1, 1, none⟩ = some (.int .i64 B) ∧ w'.cell? ⟨w1.heap.size + 1, 2, none⟩ = some (.int .i64 D) ∧ w'.cell? ⟨w1.heap.size + 1, 3, none⟩ = some (.int .i64 H) ∧ w'.cell? ⟨w1.heap.size + 1, 4, none⟩ = some (.int .i64 S)) (first | assumption | exact held_on (by assumption) (by assumption))
        (first
          | (go_at_call 20; refine (kAck T B D H S _ k (by omega) (by omega)).mono ?_; rintro e w' ⟨rfl, hb⟩)
          | (go_at_call 21; refine (mAck T B D H S _ k (by omega) (by omega)).mono ?_; rintro e w' ⟨rfl, hb⟩))
      rename_i hS
      go_wp2
      go_roundw
      case rel => exact ⟨k + 1, by omega, by go_num, hS⟩
      case measure => simp [intOf]; omega
    case neg =>
      have hS := hR
      clear hR hR0 hR1 hR2 hR3 hR4 hR5 hR6
      go_wp2
      go_loopw [11] (fun i wr => ∃ k : Nat, (k : Int) ≤ B ∧ i = .int .i64 k ∧ (Below w.heap.size w wr ∧ w1.heap.size + 1 < wr.heap.size ∧ wr.cell? ⟨w1.heap.size + 1, 0, none⟩ = some (.int .i64 T) ∧ wr.cell? ⟨w1.heap.size + 1, 1, none⟩ = some (.int .i64 B) ∧ wr.cell? ⟨w1.heap.size + 1, 2, none⟩ = some (.int .i64 D) ∧ wr.cell? ⟨w1.heap.size + 1, 3, none⟩ = some (.int .i64 H) ∧ wr.cell? ⟨w1.heap.size + 1, 4, none⟩ = some (.int .i64 S))) (fun i _ => B.toNat - (intOf i).toNat)
      case atStart => exact ⟨0, by omega, rfl, hS⟩
      case round =>
        obtain ⟨i, hi, rfl, hR⟩ := hrel
        obtain ⟨wo, rfl⟩ : ∃ wo : World, wo = wr := ⟨_, rfl⟩
        clear hS
        have hR' := hR
        obtain ⟨hR0, hR1, hR2, hR3, hR4, hR5, hR6⟩ := hR'
        by_cases hlti : (i : Int) < B
        case pos =>
          go_wp2
          have hD : Below w.heap.size w wo.drew ∧ w1.heap.size + 1 < wo.drew.heap.size ∧ wo.drew.cell? ⟨w1.heap.size + 1, 0, none⟩ = some (.int .i64 T) ∧ wo.drew.cell? ⟨w1.heap.size + 1, 1, none⟩ = some (.int .i64 B) ∧ wo.drew.cell? ⟨w1.heap.size + 1, 2, none⟩ = some (.int .i64 D) ∧ wo.drew.cell? ⟨w1.heap.size + 1, 3, none⟩ = some (.int .i64 H) ∧ wo.drew.cell? ⟨w1.heap.size + 1, 4, none⟩ = some (.int .i64 S) := ⟨hR.1.drew, hR.2⟩
          go_region_held3 (fun w' => Below w.heap.size w w' ∧ w1.heap.size + 1 < w'.heap.size ∧ w'.cell? ⟨w1.heap.size + 1, 0, none⟩ = some (.int .i64 T) ∧ w'.cell? ⟨w1.heap.size + 1, 1, none⟩ = some (.int .i64 B) ∧ w'.cell? ⟨w1.heap.size + 1, 2, none⟩ = some (.int .i64 D) ∧ w'.cell? ⟨w1.heap.size + 1, 3, none⟩ = some (.int .i64 H) ∧ w'.cell? ⟨w1.heap.size + 1, 4, none⟩ = some (.int .i64 S)) (first | assumption | exact held_on (by assumption) (by assumption))
            (first
              | (go_at_call 22; refine (kEntry T B D H S F _ i (by omega) (by omega)).mono ?_; rintro e w' ⟨rfl, hb⟩)
              | (go_at_call 23; refine (mEntry T B D H S F _ i (by omega) (by omega)).mono ?_; rintro e w' ⟨rfl, hb⟩))
          rename_i hS
          clear hD hR hR0 hR1 hR2 hR3 hR4 hR5 hR6
          go_wp2
          go_loopw [12] (fun i wr => ∃ k : Nat, (k : Int) ≤ 3 ∧ i = .int .i64 k ∧ (Below w.heap.size w wr ∧ w1.heap.size + 1 < wr.heap.size ∧ wr.cell? ⟨w1.heap.size + 1, 0, none⟩ = some (.int .i64 T) ∧ wr.cell? ⟨w1.heap.size + 1, 1, none⟩ = some (.int .i64 B) ∧ wr.cell? ⟨w1.heap.size + 1, 2, none⟩ = some (.int .i64 D) ∧ wr.cell? ⟨w1.heap.size + 1, 3, none⟩ = some (.int .i64 H) ∧ wr.cell? ⟨w1.heap.size + 1, 4, none⟩ = some (.int .i64 S))) (fun i _ => 3 - (intOf i).toNat)
          case atStart => exact ⟨0, by omega, rfl, hS⟩
          case round =>
            obtain ⟨c, hc, rfl, hR⟩ := hrel
            obtain ⟨wo, rfl⟩ : ∃ wo : World, wo = wr := ⟨_, rfl⟩
            clear hS
            have hR' := hR
            obtain ⟨hR0, hR1, hR2, hR3, hR4, hR5, hR6⟩ := hR'
            by_cases hltc : (c : Int) < 3
            case pos =>
              have hS := hR
              clear hR hR0 hR1 hR2 hR3 hR4 hR5 hR6
              have cb0 := (cs_bounds c).1
              have cb1 := (cs_bounds c).2
              go_wp2
              go_loopw [13] (fun i wr => ∃ k : Nat, (k : Int) ≤ cs c ∧ i = .int .i64 k ∧ (Below w.heap.size w wr ∧ w1.heap.size + 1 < wr.heap.size ∧ wr.cell? ⟨w1.heap.size + 1, 0, none⟩ = some (.int .i64 T) ∧ wr.cell? ⟨w1.heap.size + 1, 1, none⟩ = some (.int .i64 B) ∧ wr.cell? ⟨w1.heap.size + 1, 2, none⟩ = some (.int .i64 D) ∧ wr.cell? ⟨w1.heap.size + 1, 3, none⟩ = some (.int .i64 H) ∧ wr.cell? ⟨w1.heap.size + 1, 4, none⟩ = some (.int .i64 S))) (fun i _ => (cs c).toNat - (intOf i).toNat)
              case atStart => exact ⟨0, by omega, rfl, hS⟩
              case round =>
                obtain ⟨j, hj, rfl, hR⟩ := hrel
                obtain ⟨wo, rfl⟩ : ∃ wo : World, wo = wr := ⟨_, rfl⟩
                clear hS
                have hR' := hR
                obtain ⟨hR0, hR1, hR2, hR3, hR4, hR5, hR6⟩ := hR'
                by_cases hltj : (j : Int) < cs c
                case pos =>
                  go_wp2_with (go_at_call 14; refine (cCells c _ (W.on hR0)).mono ?_; rintro e w2 ⟨rfl, hw⟩; rw [hw]; clear hw)
                  have hD : Below w.heap.size w wo.drew ∧ w1.heap.size + 1 < wo.drew.heap.size ∧ wo.drew.cell? ⟨w1.heap.size + 1, 0, none⟩ = some (.int .i64 T) ∧ wo.drew.cell? ⟨w1.heap.size + 1, 1, none⟩ = some (.int .i64 B) ∧ wo.drew.cell? ⟨w1.heap.size + 1, 2, none⟩ = some (.int .i64 D) ∧ wo.drew.cell? ⟨w1.heap.size + 1, 3, none⟩ = some (.int .i64 H) ∧ wo.drew.cell? ⟨w1.heap.size + 1, 4, none⟩ = some (.int .i64 S) := ⟨hR.1.drew, hR.2⟩
                  go_region_held3 (fun w' => Below w.heap.size w w' ∧ w1.heap.size + 1 < w'.heap.size ∧ w'.cell? ⟨w1.heap.size + 1, 0, none⟩ = some (.int .i64 T) ∧ w'.cell? ⟨w1.heap.size + 1, 1, none⟩ = some (.int .i64 B) ∧ w'.cell? ⟨w1.heap.size + 1, 2, none⟩ = some (.int .i64 D) ∧ w'.cell? ⟨w1.heap.size + 1, 3, none⟩ = some (.int .i64 H) ∧ w'.cell? ⟨w1.heap.size + 1, 4, none⟩ = some (.int .i64 S)) (first | assumption | exact held_on (by assumption) (by assumption))
                    (first
                      | (go_at_call 24; refine (kCell T B D H S F _ i c j (by omega) (by omega) (by omega) (by omega) (W.on (by first | assumption | exact hD.1 | exact hR0 | exact And.left (by assumption)))).mono ?_; rintro e w' ⟨rfl, hb⟩)
                      | (go_at_call 25; refine (mCell T B D H S F _ i c j (by omega) (by omega) (by omega) (by omega)).mono ?_; rintro e w' ⟨rfl, hb⟩))
                  rename_i hS
                  go_wp2
                  go_roundw
                  case rel => exact ⟨j + 1, by omega, by go_num, hS⟩
                  case measure => simp [intOf]; omega
                case neg =>
                  go_wp2_with (go_at_call 14; refine (cCells c _ (W.on hR0)).mono ?_; rintro e w2 ⟨rfl, hw⟩; rw [hw]; clear hw)
                  go_roundw
                  case rel => exact ⟨c + 1, by omega, by go_num, hR⟩
                  case measure => simp [intOf]; omega
            case neg =>
              go_wp2
              go_roundw
              case rel => exact ⟨i + 1, by omega, by go_num, hR⟩
              case measure => simp [intOf]; omega
        case neg =>
          go_wp2
          refine wp_loop_rounds 4 ?_
          iterate 4
            rw [rounds_succ]
            go_wp2_with (first
              | (go_at_call 26; refine (cList _ _ (by decide) (by decide) (by decide) (by decide) _).mono ?_; rintro e w2 ⟨rfl, hw⟩; rw [hw]; clear hw)
              | (go_at_call 27; refine (rList _ _ (by decide) (by decide) (by decide) (by decide) _).mono ?_; rintro e w2 ⟨rfl, hw⟩; rw [hw]; clear hw))
          go_ret
          exact ⟨rfl, hR.1⟩
end Go.Proofs.YtfohcacngmiklaaDoor

