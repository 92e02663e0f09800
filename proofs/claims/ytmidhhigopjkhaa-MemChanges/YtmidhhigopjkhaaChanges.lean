/-
  The walk of the law on what changes a word.
-/
import Derived.Test.YtmidhhigopjkhaaHand
namespace Go.Proofs.Ytmidhhigopjkhaa
set_option linter.unusedVariables false
open Go.ChangeShapes Go.WideShapes Go.RowKit

set_option maxHeartbeats 8000000 in
set_option maxRecDepth 100000 in
theorem wChanges (b off len cap : Nat) (z : Nat → Op6) (w : World) (hl : Ops w b off len z) :
    Calls Try.prog 4 #[.slice (some ⟨b, off, none⟩) len cap] w fun e w' => e = .returned (.bool true) ∧ Below w.heap.size w w' := by
  go_enter Try.func4, Try.ntmps4
  go_wp2_with (first
    | (go_at_call 8; refine (cShown w).mono ?_; rintro e w1 ⟨rfl, hb1⟩)
    | (go_at_call 9; refine (oNew _ 8 (by decide) (by decide) hb1).mono ?_; rintro e w2 ⟨mb, rfl, h2⟩))
  go_loopw [7] (fun i wr => ∃ k : Nat, k ≤ 80 ∧ k ≤ len ∧ i = .int .i64 k ∧ ∃ s, Own w wr mb s (100 * k) ∧ s.ws.length = 8 ∧ s.t = 0 ∧ wr.heap[w2.heap.size]? = some (.cells (arr s) 50 (0, 0)))
    (fun i _ => 80 - (intOf i).toNat)
  case atStart => exact ⟨0, by omega, Nat.zero_le _, rfl, St.new 8, h2.alloc _, rfl, rfl, heap_alloc_new _ _⟩
  case round =>
    obtain ⟨k, hk80, hkl, rfl, s, ho, h8, ht, hw⟩ := hrel
    obtain ⟨wo, rfl⟩ : ∃ wo : World, wo = wr := ⟨_, rfl⟩
    have hws : w.heap.size ≤ w2.heap.size := h2.bel.size
    generalize hwb : w2.heap.size = wb at hw hws ⊢
    clear hwb h2 hb1
    by_cases hlt : k < len
    case neg =>
      go_wp2_with (go_at_call 25; refine (oTraps ho).mono ?_; rintro e w3 ⟨rfl, hw3⟩; rw [hw3]; clear hw3 w3)
      go_ret
      exact ⟨rfl, ho.bel⟩
    by_cases h80 : k < 80
    case neg =>
      go_wp2_with (go_at_call 25; refine (oTraps ho).mono ?_; rintro e w3 ⟨rfl, hw3⟩; rw [hw3]; clear hw3 w3)
      go_ret
      exact ⟨rfl, ho.bel⟩
    have L := hl.on ho.bel
    have l0 := L.c0 k hlt
    have l1 := L.c1 k hlt
    have l2 := L.c2 k hlt
    have l3 := L.c3 k hlt
    have l4 := L.c4 k hlt
    have l5 := L.c5 k hlt
    have lf := L.fit k hlt
    generalize z k = q at l0 l1 l2 l3 l4 l5 lf
    clear L hl z
    obtain ⟨ka, hka, hka8⟩ : ∃ n : Nat, kd q.a 8 = n ∧ n < 8 := ⟨(kd q.a 8).toNat, by have := kd_bounds q.a 8 (by decide); omega, by have := kd_bounds q.a 8 (by decide); omega⟩
    have hkb := kd_bounds q.k 8 (by decide)
    have i1 := is1_of h8 hka8
    obtain ⟨na, hna, hna8, i2⟩ : ∃ na : Nat, ((ka : Int) / 2 * 2 = na) ∧ na + 1 < 8 ∧ s.is2 na = true := ⟨ka / 2 * 2, by omega, by omega, by simp [St.is2]; omega⟩
    have hcase : kd q.k 8 = 2 ∨ kd q.k 8 = 0 ∨ kd q.k 8 = 1 ∨ kd q.k 8 = 7 ∨ kd q.k 8 = 3 ∨ kd q.k 8 = 4 ∨ kd q.k 8 = 5 ∨ kd q.k 8 = 6 := by omega
    clear hkb
    rcases hcase with hK | hK | hK | hK | hK | hK | hK | hK
    · go_wp2_with (first
        | (go_at_call_of 11 (Value.int .i64 q.a); refine (kHand (q := q) ho q.a lf.a0 lf.a1 (by decide) hw).mono ?_; rintro e w3 ⟨rfl, o3, a3, v3⟩; rw [hka]; have v3c := opv_cells v3; obtain ⟨d0, d1, d2, d3, d4, d5⟩ := v3c)
        | (go_at_call_of 11 (Value.int .i64 q.k); refine (cKind w3 q.k 8 lf.k0 lf.k1 (by decide)).mono ?_; rintro e w4 ⟨rfl, hw4⟩; rw [hw4, hK]; clear hw4 w4)
        | (go_at_call 14; refine (oStore o3 (by omega) ka q.x).mono ?_; rintro e w5 ⟨rfl, o5, t5⟩; have a5 := t5 _ _ _ _ (by decide) a3; have v5 := t5 _ _ _ _ (by decide) v3; have v5c := opv_cells v5; obtain ⟨e0, e1, e2, e3, e4, e5⟩ := v5c; have x5 := arr_cell a5 (j := ka) (by omega); have f5 := frozen_of_row _ _ ka _ _ a5))
      have A := (arr_set (j := ka) (x := q.x) a5)
      rw [← arr_store i1] at A
      have O := o5.setCell (j := ka) a5 (by decide) hws (.int .u64 q.x)
      go_loopw [12] (fun v wr2 => ∃ j : Nat, j ≤ 8 ∧ v = .int .i64 j ∧ ∃ s2, Own w wr2 mb s2 (100 * k + 1 + j) ∧ s2.ws.length = 8 ∧ s2.t = 0 ∧ wr2.heap[wb]? = some (.cells (arr s2) 50 (0, 0))) (fun v _ => 8 - (intOf v).toNat)
      case atStart => exact ⟨0, Nat.zero_le _, rfl, _, O, by rw [St.n_store]; exact h8, (t_store i1).trans ht, A⟩
      case round =>
        obtain ⟨j, hj, rfl, s2, p1, p2, p3, p4⟩ := hrel
        by_cases hj8 : j < 8
        case neg =>
          go_wp2
          go_roundw
          case rel => exact ⟨k + 1, by omega, by omega, by go_num, s2, p1.mono (by omega), p2, p3, p4⟩
          case measure => simp [intOf]; omega
        case pos =>
          have cw : wr.cell? ⟨wb, j, none⟩ = some (.int .u64 (s2.got j)) := arr_cell p4 (by omega)
          go_wp2
          have cwD : wr.drew.cell? ⟨wb, j, none⟩ = some (.int .u64 (s2.got j)) := cw
          go_region_held3 (fun w' => w'.cell? ⟨wb, j, none⟩ = some (.int .u64 (s2.got j))) (first | assumption)
            (first
              | (go_at_call 12; refine (oLoad p1.drew (by omega) j).mono ?_; rintro e w7 ⟨rfl, p5, p6⟩; have p7 := p6 _ _ _ _ (by decide) p4; have p8 : w7.cell? ⟨wb, j, none⟩ = some (.int .u64 (s2.got j)) := arr_cell p7 (by omega)))
          all_goals go_wp2
          all_goals go_roundw
          case rel => exact ⟨j + 1, by omega, by go_num, s2.load j, p5, p2, (t_load (is1_of p2 hj8)).trans p3, p7⟩
          case measure => simp [intOf]; omega
    · go_wp2_with (first
        | (go_at_call_of 11 (Value.int .i64 q.a); refine (kHand (q := q) ho q.a lf.a0 lf.a1 (by decide) hw).mono ?_; rintro e w3 ⟨rfl, o3, a3, v3⟩; rw [hka]; have v3c := opv_cells v3; obtain ⟨d0, d1, d2, d3, d4, d5⟩ := v3c)
        | (go_at_call_of 11 (Value.int .i64 q.k); refine (cKind w3 q.k 8 lf.k0 lf.k1 (by decide)).mono ?_; rintro e w4 ⟨rfl, hw4⟩; rw [hw4, hK]; clear hw4 w4))
      go_loopw [12] (fun v wr2 => ∃ j : Nat, j ≤ 8 ∧ v = .int .i64 j ∧ ∃ s2, Own w wr2 mb s2 (100 * k + 1 + j) ∧ s2.ws.length = 8 ∧ s2.t = 0 ∧ wr2.heap[wb]? = some (.cells (arr s2) 50 (0, 0))) (fun v _ => 8 - (intOf v).toNat)
      case atStart => exact ⟨0, Nat.zero_le _, rfl, _, o3.mono (by omega), h8, ht, a3⟩
      case round =>
        obtain ⟨j, hj, rfl, s2, p1, p2, p3, p4⟩ := hrel
        by_cases hj8 : j < 8
        case neg =>
          go_wp2
          go_roundw
          case rel => exact ⟨k + 1, by omega, by omega, by go_num, s2, p1.mono (by omega), p2, p3, p4⟩
          case measure => simp [intOf]; omega
        case pos =>
          have cw : wr.cell? ⟨wb, j, none⟩ = some (.int .u64 (s2.got j)) := arr_cell p4 (by omega)
          go_wp2
          have cwD : wr.drew.cell? ⟨wb, j, none⟩ = some (.int .u64 (s2.got j)) := cw
          go_region_held3 (fun w' => w'.cell? ⟨wb, j, none⟩ = some (.int .u64 (s2.got j))) (first | assumption)
            (first
              | (go_at_call 12; refine (oLoad p1.drew (by omega) j).mono ?_; rintro e w7 ⟨rfl, p5, p6⟩; have p7 := p6 _ _ _ _ (by decide) p4; have p8 : w7.cell? ⟨wb, j, none⟩ = some (.int .u64 (s2.got j)) := arr_cell p7 (by omega)))
          all_goals go_wp2
          all_goals go_roundw
          case rel => exact ⟨j + 1, by omega, by go_num, s2.load j, p5, p2, (t_load (is1_of p2 hj8)).trans p3, p7⟩
          case measure => simp [intOf]; omega
    · go_wp2_with (first
        | (go_at_call_of 11 (Value.int .i64 q.a); refine (kHand (q := q) ho q.a lf.a0 lf.a1 (by decide) hw).mono ?_; rintro e w3 ⟨rfl, o3, a3, v3⟩; rw [hka]; have v3c := opv_cells v3; obtain ⟨d0, d1, d2, d3, d4, d5⟩ := v3c)
        | (go_at_call_of 11 (Value.int .i64 q.k); refine (cKind w3 q.k 8 lf.k0 lf.k1 (by decide)).mono ?_; rintro e w4 ⟨rfl, hw4⟩; rw [hw4, hK]; clear hw4 w4))
      go_loopw [12] (fun v wr2 => ∃ j : Nat, j ≤ 8 ∧ v = .int .i64 j ∧ ∃ s2, Own w wr2 mb s2 (100 * k + 1 + j) ∧ s2.ws.length = 8 ∧ s2.t = 0 ∧ wr2.heap[wb]? = some (.cells (arr s2) 50 (0, 0))) (fun v _ => 8 - (intOf v).toNat)
      case atStart => exact ⟨0, Nat.zero_le _, rfl, _, o3.mono (by omega), h8, ht, a3⟩
      case round =>
        obtain ⟨j, hj, rfl, s2, p1, p2, p3, p4⟩ := hrel
        by_cases hj8 : j < 8
        case neg =>
          go_wp2
          go_roundw
          case rel => exact ⟨k + 1, by omega, by omega, by go_num, s2, p1.mono (by omega), p2, p3, p4⟩
          case measure => simp [intOf]; omega
        case pos =>
          have cw : wr.cell? ⟨wb, j, none⟩ = some (.int .u64 (s2.got j)) := arr_cell p4 (by omega)
          go_wp2
          have cwD : wr.drew.cell? ⟨wb, j, none⟩ = some (.int .u64 (s2.got j)) := cw
          go_region_held3 (fun w' => w'.cell? ⟨wb, j, none⟩ = some (.int .u64 (s2.got j))) (first | assumption)
            (first
              | (go_at_call 12; refine (oLoad p1.drew (by omega) j).mono ?_; rintro e w7 ⟨rfl, p5, p6⟩; have p7 := p6 _ _ _ _ (by decide) p4; have p8 : w7.cell? ⟨wb, j, none⟩ = some (.int .u64 (s2.got j)) := arr_cell p7 (by omega)))
          all_goals go_wp2
          all_goals go_roundw
          case rel => exact ⟨j + 1, by omega, by go_num, s2.load j, p5, p2, (t_load (is1_of p2 hj8)).trans p3, p7⟩
          case measure => simp [intOf]; omega
    · go_wp2_with (first
        | (go_at_call_of 11 (Value.int .i64 q.a); refine (kHand (q := q) ho q.a lf.a0 lf.a1 (by decide) hw).mono ?_; rintro e w3 ⟨rfl, o3, a3, v3⟩; rw [hka]; have v3c := opv_cells v3; obtain ⟨d0, d1, d2, d3, d4, d5⟩ := v3c)
        | (go_at_call_of 11 (Value.int .i64 q.k); refine (cKind w3 q.k 8 lf.k0 lf.k1 (by decide)).mono ?_; rintro e w4 ⟨rfl, hw4⟩; rw [hw4, hK]; clear hw4 w4))
      go_loopw [12] (fun v wr2 => ∃ j : Nat, j ≤ 8 ∧ v = .int .i64 j ∧ ∃ s2, Own w wr2 mb s2 (100 * k + 1 + j) ∧ s2.ws.length = 8 ∧ s2.t = 0 ∧ wr2.heap[wb]? = some (.cells (arr s2) 50 (0, 0))) (fun v _ => 8 - (intOf v).toNat)
      case atStart => exact ⟨0, Nat.zero_le _, rfl, _, o3.mono (by omega), h8, ht, a3⟩
      case round =>
        obtain ⟨j, hj, rfl, s2, p1, p2, p3, p4⟩ := hrel
        by_cases hj8 : j < 8
        case neg =>
          go_wp2
          go_roundw
          case rel => exact ⟨k + 1, by omega, by omega, by go_num, s2, p1.mono (by omega), p2, p3, p4⟩
          case measure => simp [intOf]; omega
        case pos =>
          have cw : wr.cell? ⟨wb, j, none⟩ = some (.int .u64 (s2.got j)) := arr_cell p4 (by omega)
          go_wp2
          have cwD : wr.drew.cell? ⟨wb, j, none⟩ = some (.int .u64 (s2.got j)) := cw
          go_region_held3 (fun w' => w'.cell? ⟨wb, j, none⟩ = some (.int .u64 (s2.got j))) (first | assumption)
            (first
              | (go_at_call 12; refine (oLoad p1.drew (by omega) j).mono ?_; rintro e w7 ⟨rfl, p5, p6⟩; have p7 := p6 _ _ _ _ (by decide) p4; have p8 : w7.cell? ⟨wb, j, none⟩ = some (.int .u64 (s2.got j)) := arr_cell p7 (by omega)))
          all_goals go_wp2
          all_goals go_roundw
          case rel => exact ⟨j + 1, by omega, by go_num, s2.load j, p5, p2, (t_load (is1_of p2 hj8)).trans p3, p7⟩
          case measure => simp [intOf]; omega
    · rcases hok : s.ok1 ka q.x with _ | _
      · have g1 : (s.got ka == q.x) = false := (ok1_got i1).symm.trans hok
        go_wp2_with (first
            | (go_at_call_of 11 (Value.int .i64 q.a); refine (kHand (q := q) ho q.a lf.a0 lf.a1 (by decide) hw).mono ?_; rintro e w3 ⟨rfl, o3, a3, v3⟩; rw [hka]; have v3c := opv_cells v3; obtain ⟨d0, d1, d2, d3, d4, d5⟩ := v3c)
            | (go_at_call_of 11 (Value.int .i64 q.k); refine (cKind w3 q.k 8 lf.k0 lf.k1 (by decide)).mono ?_; rintro e w4 ⟨rfl, hw4⟩; rw [hw4, hK]; clear hw4 w4)
            | (go_at_call 16; refine (oCAS o3 (by omega) ka q.x q.y).mono ?_; rintro e w5 ⟨rfl, o5, t5⟩; rw [hok]; have a5 := t5 _ _ _ _ (by decide) a3; have v5 := t5 _ _ _ _ (by decide) v3; have v5c := opv_cells v5; obtain ⟨e0, e1, e2, e3, e4, e5⟩ := v5c; have x5 := arr_cell a5 (j := ka) (by omega); have f5 := frozen_of_row _ _ ka _ _ a5))
        go_region
        go_wp2
        rw [← arr_cas' (x := q.y) hok] at a5
        go_loopw [12] (fun v wr2 => ∃ j : Nat, j ≤ 8 ∧ v = .int .i64 j ∧ ∃ s2, Own w wr2 mb s2 (100 * k + 1 + j) ∧ s2.ws.length = 8 ∧ s2.t = 0 ∧ wr2.heap[wb]? = some (.cells (arr s2) 50 (0, 0))) (fun v _ => 8 - (intOf v).toNat)
        case atStart => exact ⟨0, Nat.zero_le _, rfl, _, o5.drew, by rw [St.n_cas]; exact h8, (t_cas i1).trans ht, a5⟩
        case round =>
          obtain ⟨j, hj, rfl, s2, p1, p2, p3, p4⟩ := hrel
          by_cases hj8 : j < 8
          case neg =>
            go_wp2
            go_roundw
            case rel => exact ⟨k + 1, by omega, by omega, by go_num, s2, p1.mono (by omega), p2, p3, p4⟩
            case measure => simp [intOf]; omega
          case pos =>
            have cw : wr.cell? ⟨wb, j, none⟩ = some (.int .u64 (s2.got j)) := arr_cell p4 (by omega)
            go_wp2
            have cwD : wr.drew.cell? ⟨wb, j, none⟩ = some (.int .u64 (s2.got j)) := cw
            go_region_held3 (fun w' => w'.cell? ⟨wb, j, none⟩ = some (.int .u64 (s2.got j))) (first | assumption)
              (first
                | (go_at_call 12; refine (oLoad p1.drew (by omega) j).mono ?_; rintro e w7 ⟨rfl, p5, p6⟩; have p7 := p6 _ _ _ _ (by decide) p4; have p8 : w7.cell? ⟨wb, j, none⟩ = some (.int .u64 (s2.got j)) := arr_cell p7 (by omega)))
            all_goals go_wp2
            all_goals go_roundw
            case rel => exact ⟨j + 1, by omega, by go_num, s2.load j, p5, p2, (t_load (is1_of p2 hj8)).trans p3, p7⟩
            case measure => simp [intOf]; omega
      · have g1 : (s.got ka == q.x) = true := (ok1_got i1).symm.trans hok
        go_wp2_with (first
            | (go_at_call_of 11 (Value.int .i64 q.a); refine (kHand (q := q) ho q.a lf.a0 lf.a1 (by decide) hw).mono ?_; rintro e w3 ⟨rfl, o3, a3, v3⟩; rw [hka]; have v3c := opv_cells v3; obtain ⟨d0, d1, d2, d3, d4, d5⟩ := v3c)
            | (go_at_call_of 11 (Value.int .i64 q.k); refine (cKind w3 q.k 8 lf.k0 lf.k1 (by decide)).mono ?_; rintro e w4 ⟨rfl, hw4⟩; rw [hw4, hK]; clear hw4 w4)
            | (go_at_call 16; refine (oCAS o3 (by omega) ka q.x q.y).mono ?_; rintro e w5 ⟨rfl, o5, t5⟩; rw [hok]; have a5 := t5 _ _ _ _ (by decide) a3; have v5 := t5 _ _ _ _ (by decide) v3; have v5c := opv_cells v5; obtain ⟨e0, e1, e2, e3, e4, e5⟩ := v5c; have x5 := arr_cell a5 (j := ka) (by omega); have f5 := frozen_of_row _ _ ka _ _ a5))
        go_region
        go_wp2
        have A := arr_set (w := w5.drew) (j := ka) (x := q.y) a5
        rw [← arr_cas hok] at A
        have O := o5.drew.setCell (w := w5.drew) (j := ka) a5 (by decide) hws (.int .u64 q.y)
        go_loopw [12] (fun v wr2 => ∃ j : Nat, j ≤ 8 ∧ v = .int .i64 j ∧ ∃ s2, Own w wr2 mb s2 (100 * k + 1 + j) ∧ s2.ws.length = 8 ∧ s2.t = 0 ∧ wr2.heap[wb]? = some (.cells (arr s2) 50 (0, 0))) (fun v _ => 8 - (intOf v).toNat)
        case atStart => exact ⟨0, Nat.zero_le _, rfl, _, O, by rw [St.n_cas]; exact h8, (t_cas i1).trans ht, A⟩
        case round =>
          obtain ⟨j, hj, rfl, s2, p1, p2, p3, p4⟩ := hrel
          by_cases hj8 : j < 8
          case neg =>
            go_wp2
            go_roundw
            case rel => exact ⟨k + 1, by omega, by omega, by go_num, s2, p1.mono (by omega), p2, p3, p4⟩
            case measure => simp [intOf]; omega
          case pos =>
            have cw : wr.cell? ⟨wb, j, none⟩ = some (.int .u64 (s2.got j)) := arr_cell p4 (by omega)
            go_wp2
            have cwD : wr.drew.cell? ⟨wb, j, none⟩ = some (.int .u64 (s2.got j)) := cw
            go_region_held3 (fun w' => w'.cell? ⟨wb, j, none⟩ = some (.int .u64 (s2.got j))) (first | assumption)
              (first
                | (go_at_call 12; refine (oLoad p1.drew (by omega) j).mono ?_; rintro e w7 ⟨rfl, p5, p6⟩; have p7 := p6 _ _ _ _ (by decide) p4; have p8 : w7.cell? ⟨wb, j, none⟩ = some (.int .u64 (s2.got j)) := arr_cell p7 (by omega)))
            all_goals go_wp2
            all_goals go_roundw
            case rel => exact ⟨j + 1, by omega, by go_num, s2.load j, p5, p2, (t_load (is1_of p2 hj8)).trans p3, p7⟩
            case measure => simp [intOf]; omega
    · rcases hok : s.ok1 ka q.x with _ | _
      · have g1 : (s.got ka == q.x) = false := (ok1_got i1).symm.trans hok
        go_wp2_with (first
            | (go_at_call_of 11 (Value.int .i64 q.a); refine (kHand (q := q) ho q.a lf.a0 lf.a1 (by decide) hw).mono ?_; rintro e w3 ⟨rfl, o3, a3, v3⟩; rw [hka]; have v3c := opv_cells v3; obtain ⟨d0, d1, d2, d3, d4, d5⟩ := v3c)
            | (go_at_call_of 11 (Value.int .i64 q.k); refine (cKind w3 q.k 8 lf.k0 lf.k1 (by decide)).mono ?_; rintro e w4 ⟨rfl, hw4⟩; rw [hw4, hK]; clear hw4 w4)
            | (go_at_call 16; refine (oCAS o3 (by omega) ka q.x q.y).mono ?_; rintro e w5 ⟨rfl, o5, t5⟩; rw [hok]; have a5 := t5 _ _ _ _ (by decide) a3; have v5 := t5 _ _ _ _ (by decide) v3; have v5c := opv_cells v5; obtain ⟨e0, e1, e2, e3, e4, e5⟩ := v5c; have x5 := arr_cell a5 (j := ka) (by omega); have f5 := frozen_of_row _ _ ka _ _ a5))
        go_region
        go_wp2
        rw [← arr_cas' (x := q.y) hok] at a5
        go_loopw [12] (fun v wr2 => ∃ j : Nat, j ≤ 8 ∧ v = .int .i64 j ∧ ∃ s2, Own w wr2 mb s2 (100 * k + 1 + j) ∧ s2.ws.length = 8 ∧ s2.t = 0 ∧ wr2.heap[wb]? = some (.cells (arr s2) 50 (0, 0))) (fun v _ => 8 - (intOf v).toNat)
        case atStart => exact ⟨0, Nat.zero_le _, rfl, _, o5.drew, by rw [St.n_cas]; exact h8, (t_cas i1).trans ht, a5⟩
        case round =>
          obtain ⟨j, hj, rfl, s2, p1, p2, p3, p4⟩ := hrel
          by_cases hj8 : j < 8
          case neg =>
            go_wp2
            go_roundw
            case rel => exact ⟨k + 1, by omega, by omega, by go_num, s2, p1.mono (by omega), p2, p3, p4⟩
            case measure => simp [intOf]; omega
          case pos =>
            have cw : wr.cell? ⟨wb, j, none⟩ = some (.int .u64 (s2.got j)) := arr_cell p4 (by omega)
            go_wp2
            have cwD : wr.drew.cell? ⟨wb, j, none⟩ = some (.int .u64 (s2.got j)) := cw
            go_region_held3 (fun w' => w'.cell? ⟨wb, j, none⟩ = some (.int .u64 (s2.got j))) (first | assumption)
              (first
                | (go_at_call 12; refine (oLoad p1.drew (by omega) j).mono ?_; rintro e w7 ⟨rfl, p5, p6⟩; have p7 := p6 _ _ _ _ (by decide) p4; have p8 : w7.cell? ⟨wb, j, none⟩ = some (.int .u64 (s2.got j)) := arr_cell p7 (by omega)))
            all_goals go_wp2
            all_goals go_roundw
            case rel => exact ⟨j + 1, by omega, by go_num, s2.load j, p5, p2, (t_load (is1_of p2 hj8)).trans p3, p7⟩
            case measure => simp [intOf]; omega
      · have g1 : (s.got ka == q.x) = true := (ok1_got i1).symm.trans hok
        go_wp2_with (first
            | (go_at_call_of 11 (Value.int .i64 q.a); refine (kHand (q := q) ho q.a lf.a0 lf.a1 (by decide) hw).mono ?_; rintro e w3 ⟨rfl, o3, a3, v3⟩; rw [hka]; have v3c := opv_cells v3; obtain ⟨d0, d1, d2, d3, d4, d5⟩ := v3c)
            | (go_at_call_of 11 (Value.int .i64 q.k); refine (cKind w3 q.k 8 lf.k0 lf.k1 (by decide)).mono ?_; rintro e w4 ⟨rfl, hw4⟩; rw [hw4, hK]; clear hw4 w4)
            | (go_at_call 16; refine (oCAS o3 (by omega) ka q.x q.y).mono ?_; rintro e w5 ⟨rfl, o5, t5⟩; rw [hok]; have a5 := t5 _ _ _ _ (by decide) a3; have v5 := t5 _ _ _ _ (by decide) v3; have v5c := opv_cells v5; obtain ⟨e0, e1, e2, e3, e4, e5⟩ := v5c; have x5 := arr_cell a5 (j := ka) (by omega); have f5 := frozen_of_row _ _ ka _ _ a5))
        go_region
        go_wp2
        have A := arr_set (w := w5.drew) (j := ka) (x := q.y) a5
        rw [← arr_cas hok] at A
        have O := o5.drew.setCell (w := w5.drew) (j := ka) a5 (by decide) hws (.int .u64 q.y)
        go_loopw [12] (fun v wr2 => ∃ j : Nat, j ≤ 8 ∧ v = .int .i64 j ∧ ∃ s2, Own w wr2 mb s2 (100 * k + 1 + j) ∧ s2.ws.length = 8 ∧ s2.t = 0 ∧ wr2.heap[wb]? = some (.cells (arr s2) 50 (0, 0))) (fun v _ => 8 - (intOf v).toNat)
        case atStart => exact ⟨0, Nat.zero_le _, rfl, _, O, by rw [St.n_cas]; exact h8, (t_cas i1).trans ht, A⟩
        case round =>
          obtain ⟨j, hj, rfl, s2, p1, p2, p3, p4⟩ := hrel
          by_cases hj8 : j < 8
          case neg =>
            go_wp2
            go_roundw
            case rel => exact ⟨k + 1, by omega, by omega, by go_num, s2, p1.mono (by omega), p2, p3, p4⟩
            case measure => simp [intOf]; omega
          case pos =>
            have cw : wr.cell? ⟨wb, j, none⟩ = some (.int .u64 (s2.got j)) := arr_cell p4 (by omega)
            go_wp2
            have cwD : wr.drew.cell? ⟨wb, j, none⟩ = some (.int .u64 (s2.got j)) := cw
            go_region_held3 (fun w' => w'.cell? ⟨wb, j, none⟩ = some (.int .u64 (s2.got j))) (first | assumption)
              (first
                | (go_at_call 12; refine (oLoad p1.drew (by omega) j).mono ?_; rintro e w7 ⟨rfl, p5, p6⟩; have p7 := p6 _ _ _ _ (by decide) p4; have p8 : w7.cell? ⟨wb, j, none⟩ = some (.int .u64 (s2.got j)) := arr_cell p7 (by omega)))
            all_goals go_wp2
            all_goals go_roundw
            case rel => exact ⟨j + 1, by omega, by go_num, s2.load j, p5, p2, (t_load (is1_of p2 hj8)).trans p3, p7⟩
            case measure => simp [intOf]; omega
    · rcases hok : s.ok2 na q.x q.x1 with _ | _
      · rcases g1 : (s.got na == q.x) with _ | _
        · go_wp2_with (first
              | (go_at_call_of 11 (Value.int .i64 q.a); refine (kHand (q := q) ho q.a lf.a0 lf.a1 (by decide) hw).mono ?_; rintro e w3 ⟨rfl, o3, a3, v3⟩; rw [hka]; have v3c := opv_cells v3; obtain ⟨d0, d1, d2, d3, d4, d5⟩ := v3c)
              | (go_at_call_of 11 (Value.int .i64 q.k); refine (cKind w3 q.k 8 lf.k0 lf.k1 (by decide)).mono ?_; rintro e w4 ⟨rfl, hw4⟩; rw [hw4, hK]; clear hw4 w4)
              | (go_at_call 18; refine (oCAS2 o3 (by omega) na q.x q.x1 q.y q.y1).mono ?_; rintro e w5 ⟨rfl, o5, t5⟩; rw [hok]; have a5 := t5 _ _ _ _ (by decide) a3; have v5 := t5 _ _ _ _ (by decide) v3; have v5c := opv_cells v5; obtain ⟨e0, e1, e2, e3, e4, e5⟩ := v5c; have x5 := arr_cell a5 (j := na) (by omega); have x6 := arr_cell a5 (j := na + 1) (by omega); have f5 := frozen_of_row _ _ na _ _ a5; have f6 := frozen_of_row _ _ (na + 1) _ _ a5))
          go_region
          go_wp2
          rw [← arr_cas2' (x0 := q.y) (x1 := q.y1) hok] at a5
          go_loopw [12] (fun v wr2 => ∃ j : Nat, j ≤ 8 ∧ v = .int .i64 j ∧ ∃ s2, Own w wr2 mb s2 (100 * k + 1 + j) ∧ s2.ws.length = 8 ∧ s2.t = 0 ∧ wr2.heap[wb]? = some (.cells (arr s2) 50 (0, 0))) (fun v _ => 8 - (intOf v).toNat)
          case atStart => exact ⟨0, Nat.zero_le _, rfl, _, o5.drew, by rw [St.n_cas2]; exact h8, (t_cas2 i2).trans ht, a5⟩
          case round =>
            obtain ⟨j, hj, rfl, s2, p1, p2, p3, p4⟩ := hrel
            by_cases hj8 : j < 8
            case neg =>
              go_wp2
              go_roundw
              case rel => exact ⟨k + 1, by omega, by omega, by go_num, s2, p1.mono (by omega), p2, p3, p4⟩
              case measure => simp [intOf]; omega
            case pos =>
              have cw : wr.cell? ⟨wb, j, none⟩ = some (.int .u64 (s2.got j)) := arr_cell p4 (by omega)
              go_wp2
              have cwD : wr.drew.cell? ⟨wb, j, none⟩ = some (.int .u64 (s2.got j)) := cw
              go_region_held3 (fun w' => w'.cell? ⟨wb, j, none⟩ = some (.int .u64 (s2.got j))) (first | assumption)
                (first
                  | (go_at_call 12; refine (oLoad p1.drew (by omega) j).mono ?_; rintro e w7 ⟨rfl, p5, p6⟩; have p7 := p6 _ _ _ _ (by decide) p4; have p8 : w7.cell? ⟨wb, j, none⟩ = some (.int .u64 (s2.got j)) := arr_cell p7 (by omega)))
              all_goals go_wp2
              all_goals go_roundw
              case rel => exact ⟨j + 1, by omega, by go_num, s2.load j, p5, p2, (t_load (is1_of p2 hj8)).trans p3, p7⟩
              case measure => simp [intOf]; omega
        · have g2 : (s.got ((na : Int) + 1) == q.x1) = false := by rw [ok2_got i2, g1] at hok; simpa using hok
          go_wp2_with (first
              | (go_at_call_of 11 (Value.int .i64 q.a); refine (kHand (q := q) ho q.a lf.a0 lf.a1 (by decide) hw).mono ?_; rintro e w3 ⟨rfl, o3, a3, v3⟩; rw [hka]; have v3c := opv_cells v3; obtain ⟨d0, d1, d2, d3, d4, d5⟩ := v3c)
              | (go_at_call_of 11 (Value.int .i64 q.k); refine (cKind w3 q.k 8 lf.k0 lf.k1 (by decide)).mono ?_; rintro e w4 ⟨rfl, hw4⟩; rw [hw4, hK]; clear hw4 w4)
              | (go_at_call 18; refine (oCAS2 o3 (by omega) na q.x q.x1 q.y q.y1).mono ?_; rintro e w5 ⟨rfl, o5, t5⟩; rw [hok]; have a5 := t5 _ _ _ _ (by decide) a3; have v5 := t5 _ _ _ _ (by decide) v3; have v5c := opv_cells v5; obtain ⟨e0, e1, e2, e3, e4, e5⟩ := v5c; have x5 := arr_cell a5 (j := na) (by omega); have x6 := arr_cell a5 (j := na + 1) (by omega); have f5 := frozen_of_row _ _ na _ _ a5; have f6 := frozen_of_row _ _ (na + 1) _ _ a5))
          go_region
          go_wp2
          rw [← arr_cas2' (x0 := q.y) (x1 := q.y1) hok] at a5
          go_loopw [12] (fun v wr2 => ∃ j : Nat, j ≤ 8 ∧ v = .int .i64 j ∧ ∃ s2, Own w wr2 mb s2 (100 * k + 1 + j) ∧ s2.ws.length = 8 ∧ s2.t = 0 ∧ wr2.heap[wb]? = some (.cells (arr s2) 50 (0, 0))) (fun v _ => 8 - (intOf v).toNat)
          case atStart => exact ⟨0, Nat.zero_le _, rfl, _, o5.drew, by rw [St.n_cas2]; exact h8, (t_cas2 i2).trans ht, a5⟩
          case round =>
            obtain ⟨j, hj, rfl, s2, p1, p2, p3, p4⟩ := hrel
            by_cases hj8 : j < 8
            case neg =>
              go_wp2
              go_roundw
              case rel => exact ⟨k + 1, by omega, by omega, by go_num, s2, p1.mono (by omega), p2, p3, p4⟩
              case measure => simp [intOf]; omega
            case pos =>
              have cw : wr.cell? ⟨wb, j, none⟩ = some (.int .u64 (s2.got j)) := arr_cell p4 (by omega)
              go_wp2
              have cwD : wr.drew.cell? ⟨wb, j, none⟩ = some (.int .u64 (s2.got j)) := cw
              go_region_held3 (fun w' => w'.cell? ⟨wb, j, none⟩ = some (.int .u64 (s2.got j))) (first | assumption)
                (first
                  | (go_at_call 12; refine (oLoad p1.drew (by omega) j).mono ?_; rintro e w7 ⟨rfl, p5, p6⟩; have p7 := p6 _ _ _ _ (by decide) p4; have p8 : w7.cell? ⟨wb, j, none⟩ = some (.int .u64 (s2.got j)) := arr_cell p7 (by omega)))
              all_goals go_wp2
              all_goals go_roundw
              case rel => exact ⟨j + 1, by omega, by go_num, s2.load j, p5, p2, (t_load (is1_of p2 hj8)).trans p3, p7⟩
              case measure => simp [intOf]; omega
      · have g1 : (s.got na == q.x) = true := by rw [ok2_got i2] at hok; exact (Bool.and_eq_true_iff.1 hok).1
        have g2 : (s.got ((na : Int) + 1) == q.x1) = true := by rw [ok2_got i2] at hok; exact (Bool.and_eq_true_iff.1 hok).2
        go_wp2_with (first
            | (go_at_call_of 11 (Value.int .i64 q.a); refine (kHand (q := q) ho q.a lf.a0 lf.a1 (by decide) hw).mono ?_; rintro e w3 ⟨rfl, o3, a3, v3⟩; rw [hka]; have v3c := opv_cells v3; obtain ⟨d0, d1, d2, d3, d4, d5⟩ := v3c)
            | (go_at_call_of 11 (Value.int .i64 q.k); refine (cKind w3 q.k 8 lf.k0 lf.k1 (by decide)).mono ?_; rintro e w4 ⟨rfl, hw4⟩; rw [hw4, hK]; clear hw4 w4)
            | (go_at_call 18; refine (oCAS2 o3 (by omega) na q.x q.x1 q.y q.y1).mono ?_; rintro e w5 ⟨rfl, o5, t5⟩; rw [hok]; have a5 := t5 _ _ _ _ (by decide) a3; have v5 := t5 _ _ _ _ (by decide) v3; have v5c := opv_cells v5; obtain ⟨e0, e1, e2, e3, e4, e5⟩ := v5c; have x5 := arr_cell a5 (j := na) (by omega); have x6 := arr_cell a5 (j := na + 1) (by omega); have f5 := frozen_of_row _ _ na _ _ a5; have f6 := frozen_of_row _ _ (na + 1) _ _ a5))
        go_region
        go_wp2
        have A0 := arr_set (w := w5.drew) (j := na) (x := q.y) a5
        have A := arr_set (j := na + 1) (x := q.y1) A0
        rw [show ((na + 1 : Nat) : Int) = (na : Int) + 1 from rfl, ← arr_cas2 hok] at A
        have O := (o5.drew.setCell (w := w5.drew) (j := na) a5 (by decide) hws (.int .u64 q.y)).setCell (j := na + 1) A0 (by decide) hws (.int .u64 q.y1)
        go_loopw [12] (fun v wr2 => ∃ j : Nat, j ≤ 8 ∧ v = .int .i64 j ∧ ∃ s2, Own w wr2 mb s2 (100 * k + 1 + j) ∧ s2.ws.length = 8 ∧ s2.t = 0 ∧ wr2.heap[wb]? = some (.cells (arr s2) 50 (0, 0))) (fun v _ => 8 - (intOf v).toNat)
        case atStart => exact ⟨0, Nat.zero_le _, rfl, _, O, by rw [St.n_cas2]; exact h8, (t_cas2 i2).trans ht, A⟩
        case round =>
          obtain ⟨j, hj, rfl, s2, p1, p2, p3, p4⟩ := hrel
          by_cases hj8 : j < 8
          case neg =>
            go_wp2
            go_roundw
            case rel => exact ⟨k + 1, by omega, by omega, by go_num, s2, p1.mono (by omega), p2, p3, p4⟩
            case measure => simp [intOf]; omega
          case pos =>
            have cw : wr.cell? ⟨wb, j, none⟩ = some (.int .u64 (s2.got j)) := arr_cell p4 (by omega)
            go_wp2
            have cwD : wr.drew.cell? ⟨wb, j, none⟩ = some (.int .u64 (s2.got j)) := cw
            go_region_held3 (fun w' => w'.cell? ⟨wb, j, none⟩ = some (.int .u64 (s2.got j))) (first | assumption)
              (first
                | (go_at_call 12; refine (oLoad p1.drew (by omega) j).mono ?_; rintro e w7 ⟨rfl, p5, p6⟩; have p7 := p6 _ _ _ _ (by decide) p4; have p8 : w7.cell? ⟨wb, j, none⟩ = some (.int .u64 (s2.got j)) := arr_cell p7 (by omega)))
            all_goals go_wp2
            all_goals go_roundw
            case rel => exact ⟨j + 1, by omega, by go_num, s2.load j, p5, p2, (t_load (is1_of p2 hj8)).trans p3, p7⟩
            case measure => simp [intOf]; omega
    · rcases hok : s.ok2 na q.x q.x1 with _ | _
      · rcases g1 : (s.got na == q.x) with _ | _
        · go_wp2_with (first
              | (go_at_call_of 11 (Value.int .i64 q.a); refine (kHand (q := q) ho q.a lf.a0 lf.a1 (by decide) hw).mono ?_; rintro e w3 ⟨rfl, o3, a3, v3⟩; rw [hka]; have v3c := opv_cells v3; obtain ⟨d0, d1, d2, d3, d4, d5⟩ := v3c)
              | (go_at_call_of 11 (Value.int .i64 q.k); refine (cKind w3 q.k 8 lf.k0 lf.k1 (by decide)).mono ?_; rintro e w4 ⟨rfl, hw4⟩; rw [hw4, hK]; clear hw4 w4)
              | (go_at_call 18; refine (oCAS2 o3 (by omega) na q.x q.x1 q.y q.y1).mono ?_; rintro e w5 ⟨rfl, o5, t5⟩; rw [hok]; have a5 := t5 _ _ _ _ (by decide) a3; have v5 := t5 _ _ _ _ (by decide) v3; have v5c := opv_cells v5; obtain ⟨e0, e1, e2, e3, e4, e5⟩ := v5c; have x5 := arr_cell a5 (j := na) (by omega); have x6 := arr_cell a5 (j := na + 1) (by omega); have f5 := frozen_of_row _ _ na _ _ a5; have f6 := frozen_of_row _ _ (na + 1) _ _ a5))
          go_region
          go_wp2
          rw [← arr_cas2' (x0 := q.y) (x1 := q.y1) hok] at a5
          go_loopw [12] (fun v wr2 => ∃ j : Nat, j ≤ 8 ∧ v = .int .i64 j ∧ ∃ s2, Own w wr2 mb s2 (100 * k + 1 + j) ∧ s2.ws.length = 8 ∧ s2.t = 0 ∧ wr2.heap[wb]? = some (.cells (arr s2) 50 (0, 0))) (fun v _ => 8 - (intOf v).toNat)
          case atStart => exact ⟨0, Nat.zero_le _, rfl, _, o5.drew, by rw [St.n_cas2]; exact h8, (t_cas2 i2).trans ht, a5⟩
          case round =>
            obtain ⟨j, hj, rfl, s2, p1, p2, p3, p4⟩ := hrel
            by_cases hj8 : j < 8
            case neg =>
              go_wp2
              go_roundw
              case rel => exact ⟨k + 1, by omega, by omega, by go_num, s2, p1.mono (by omega), p2, p3, p4⟩
              case measure => simp [intOf]; omega
            case pos =>
              have cw : wr.cell? ⟨wb, j, none⟩ = some (.int .u64 (s2.got j)) := arr_cell p4 (by omega)
              go_wp2
              have cwD : wr.drew.cell? ⟨wb, j, none⟩ = some (.int .u64 (s2.got j)) := cw
              go_region_held3 (fun w' => w'.cell? ⟨wb, j, none⟩ = some (.int .u64 (s2.got j))) (first | assumption)
                (first
                  | (go_at_call 12; refine (oLoad p1.drew (by omega) j).mono ?_; rintro e w7 ⟨rfl, p5, p6⟩; have p7 := p6 _ _ _ _ (by decide) p4; have p8 : w7.cell? ⟨wb, j, none⟩ = some (.int .u64 (s2.got j)) := arr_cell p7 (by omega)))
              all_goals go_wp2
              all_goals go_roundw
              case rel => exact ⟨j + 1, by omega, by go_num, s2.load j, p5, p2, (t_load (is1_of p2 hj8)).trans p3, p7⟩
              case measure => simp [intOf]; omega
        · have g2 : (s.got ((na : Int) + 1) == q.x1) = false := by rw [ok2_got i2, g1] at hok; simpa using hok
          go_wp2_with (first
              | (go_at_call_of 11 (Value.int .i64 q.a); refine (kHand (q := q) ho q.a lf.a0 lf.a1 (by decide) hw).mono ?_; rintro e w3 ⟨rfl, o3, a3, v3⟩; rw [hka]; have v3c := opv_cells v3; obtain ⟨d0, d1, d2, d3, d4, d5⟩ := v3c)
              | (go_at_call_of 11 (Value.int .i64 q.k); refine (cKind w3 q.k 8 lf.k0 lf.k1 (by decide)).mono ?_; rintro e w4 ⟨rfl, hw4⟩; rw [hw4, hK]; clear hw4 w4)
              | (go_at_call 18; refine (oCAS2 o3 (by omega) na q.x q.x1 q.y q.y1).mono ?_; rintro e w5 ⟨rfl, o5, t5⟩; rw [hok]; have a5 := t5 _ _ _ _ (by decide) a3; have v5 := t5 _ _ _ _ (by decide) v3; have v5c := opv_cells v5; obtain ⟨e0, e1, e2, e3, e4, e5⟩ := v5c; have x5 := arr_cell a5 (j := na) (by omega); have x6 := arr_cell a5 (j := na + 1) (by omega); have f5 := frozen_of_row _ _ na _ _ a5; have f6 := frozen_of_row _ _ (na + 1) _ _ a5))
          go_region
          go_wp2
          rw [← arr_cas2' (x0 := q.y) (x1 := q.y1) hok] at a5
          go_loopw [12] (fun v wr2 => ∃ j : Nat, j ≤ 8 ∧ v = .int .i64 j ∧ ∃ s2, Own w wr2 mb s2 (100 * k + 1 + j) ∧ s2.ws.length = 8 ∧ s2.t = 0 ∧ wr2.heap[wb]? = some (.cells (arr s2) 50 (0, 0))) (fun v _ => 8 - (intOf v).toNat)
          case atStart => exact ⟨0, Nat.zero_le _, rfl, _, o5.drew, by rw [St.n_cas2]; exact h8, (t_cas2 i2).trans ht, a5⟩
          case round =>
            obtain ⟨j, hj, rfl, s2, p1, p2, p3, p4⟩ := hrel
            by_cases hj8 : j < 8
            case neg =>
              go_wp2
              go_roundw
              case rel => exact ⟨k + 1, by omega, by omega, by go_num, s2, p1.mono (by omega), p2, p3, p4⟩
              case measure => simp [intOf]; omega
            case pos =>
              have cw : wr.cell? ⟨wb, j, none⟩ = some (.int .u64 (s2.got j)) := arr_cell p4 (by omega)
              go_wp2
              have cwD : wr.drew.cell? ⟨wb, j, none⟩ = some (.int .u64 (s2.got j)) := cw
              go_region_held3 (fun w' => w'.cell? ⟨wb, j, none⟩ = some (.int .u64 (s2.got j))) (first | assumption)
                (first
                  | (go_at_call 12; refine (oLoad p1.drew (by omega) j).mono ?_; rintro e w7 ⟨rfl, p5, p6⟩; have p7 := p6 _ _ _ _ (by decide) p4; have p8 : w7.cell? ⟨wb, j, none⟩ = some (.int .u64 (s2.got j)) := arr_cell p7 (by omega)))
              all_goals go_wp2
              all_goals go_roundw
              case rel => exact ⟨j + 1, by omega, by go_num, s2.load j, p5, p2, (t_load (is1_of p2 hj8)).trans p3, p7⟩
              case measure => simp [intOf]; omega
      · have g1 : (s.got na == q.x) = true := by rw [ok2_got i2] at hok; exact (Bool.and_eq_true_iff.1 hok).1
        have g2 : (s.got ((na : Int) + 1) == q.x1) = true := by rw [ok2_got i2] at hok; exact (Bool.and_eq_true_iff.1 hok).2
        go_wp2_with (first
            | (go_at_call_of 11 (Value.int .i64 q.a); refine (kHand (q := q) ho q.a lf.a0 lf.a1 (by decide) hw).mono ?_; rintro e w3 ⟨rfl, o3, a3, v3⟩; rw [hka]; have v3c := opv_cells v3; obtain ⟨d0, d1, d2, d3, d4, d5⟩ := v3c)
            | (go_at_call_of 11 (Value.int .i64 q.k); refine (cKind w3 q.k 8 lf.k0 lf.k1 (by decide)).mono ?_; rintro e w4 ⟨rfl, hw4⟩; rw [hw4, hK]; clear hw4 w4)
            | (go_at_call 18; refine (oCAS2 o3 (by omega) na q.x q.x1 q.y q.y1).mono ?_; rintro e w5 ⟨rfl, o5, t5⟩; rw [hok]; have a5 := t5 _ _ _ _ (by decide) a3; have v5 := t5 _ _ _ _ (by decide) v3; have v5c := opv_cells v5; obtain ⟨e0, e1, e2, e3, e4, e5⟩ := v5c; have x5 := arr_cell a5 (j := na) (by omega); have x6 := arr_cell a5 (j := na + 1) (by omega); have f5 := frozen_of_row _ _ na _ _ a5; have f6 := frozen_of_row _ _ (na + 1) _ _ a5))
        go_region
        go_wp2
        have A0 := arr_set (w := w5.drew) (j := na) (x := q.y) a5
        have A := arr_set (j := na + 1) (x := q.y1) A0
        rw [show ((na + 1 : Nat) : Int) = (na : Int) + 1 from rfl, ← arr_cas2 hok] at A
        have O := (o5.drew.setCell (w := w5.drew) (j := na) a5 (by decide) hws (.int .u64 q.y)).setCell (j := na + 1) A0 (by decide) hws (.int .u64 q.y1)
        go_loopw [12] (fun v wr2 => ∃ j : Nat, j ≤ 8 ∧ v = .int .i64 j ∧ ∃ s2, Own w wr2 mb s2 (100 * k + 1 + j) ∧ s2.ws.length = 8 ∧ s2.t = 0 ∧ wr2.heap[wb]? = some (.cells (arr s2) 50 (0, 0))) (fun v _ => 8 - (intOf v).toNat)
        case atStart => exact ⟨0, Nat.zero_le _, rfl, _, O, by rw [St.n_cas2]; exact h8, (t_cas2 i2).trans ht, A⟩
        case round =>
          obtain ⟨j, hj, rfl, s2, p1, p2, p3, p4⟩ := hrel
          by_cases hj8 : j < 8
          case neg =>
            go_wp2
            go_roundw
            case rel => exact ⟨k + 1, by omega, by omega, by go_num, s2, p1.mono (by omega), p2, p3, p4⟩
            case measure => simp [intOf]; omega
          case pos =>
            have cw : wr.cell? ⟨wb, j, none⟩ = some (.int .u64 (s2.got j)) := arr_cell p4 (by omega)
            go_wp2
            have cwD : wr.drew.cell? ⟨wb, j, none⟩ = some (.int .u64 (s2.got j)) := cw
            go_region_held3 (fun w' => w'.cell? ⟨wb, j, none⟩ = some (.int .u64 (s2.got j))) (first | assumption)
              (first
                | (go_at_call 12; refine (oLoad p1.drew (by omega) j).mono ?_; rintro e w7 ⟨rfl, p5, p6⟩; have p7 := p6 _ _ _ _ (by decide) p4; have p8 : w7.cell? ⟨wb, j, none⟩ = some (.int .u64 (s2.got j)) := arr_cell p7 (by omega)))
            all_goals go_wp2
            all_goals go_roundw
            case rel => exact ⟨j + 1, by omega, by go_num, s2.load j, p5, p2, (t_load (is1_of p2 hj8)).trans p3, p7⟩
            case measure => simp [intOf]; omega
end Go.Proofs.Ytmidhhigopjkhaa
