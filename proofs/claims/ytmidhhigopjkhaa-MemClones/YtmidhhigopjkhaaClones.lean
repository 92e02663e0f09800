/-
  The walk of the law on clones.
-/
import Derived.Test.YtmidhhigopjkhaaPair
namespace Go.Proofs.Ytmidhhigopjkhaa
set_option linter.unusedVariables false
open Go.ChangeShapes Go.WideShapes Go.RowKit

/-- an array that is filled up to a place -/
def part (l : List Int) (j : Nat) : St := ⟨l.take j ++ List.replicate (8 - j) 0, 0, 0, []⟩
theorem part_len {l : List Int} {j : Nat} (h : l.length = 8) (hj : j ≤ 8) : (part l j).ws.length = 8 := by simp [part]; omega
theorem part_set {w : World} {wb j : Nat} {l : List Int} {T : TypeId} (h : w.heap[wb]? = some (.cells (arr (part l j)) T (0, 0))) (hl : l.length = 8) (hj : j < 8) :
    (w.setCell ⟨wb, j, none⟩ (.int .u64 (l.getD j 0))).heap[wb]? = some (.cells (arr (part l (j + 1))) T (0, 0)) := by
  rw [arr_set h]
  have : ((part l j).put j (l.getD j 0)).ws = (part l (j + 1)).ws := fill_step l j 8 hj hl
  simp only [arr, this]
theorem got_in {s : St} {j : Nat} (h : s.ws.length = 8) (hj : j < 8) : s.got j = s.ws.getD j 0 := by simp [St.got, is1_of h hj, St.word]
theorem arr_part (l : List Int) (h : l.length = 8) : part l 8 = ⟨l, 0, 0, []⟩ := by simp [part, List.take_of_length_le (show l.length ≤ 8 by omega)]

set_option maxHeartbeats 8000000 in
set_option maxRecDepth 100000 in
theorem wMemClones (ao : Option Addr) (len cap : Nat) (z : Nat → Op6) (ao' : Option Addr) (len' cap' : Nat) (z' : Nat → Op6) (w : World) (hl : Came w ao len z) (hl' : Came w ao' len' z') :
    Calls Try.prog 6 #[.slice ao len cap, .slice ao' len' cap'] w fun e w' => e = .returned (.bool true) ∧ Below w.heap.size w w' := by
  go_enter Try.func6, Try.ntmps6
  go_wp2_with (first
    | (go_at_call 8; refine (cShown w).mono ?_; rintro e w1 ⟨rfl, hb1⟩)
    | (go_at_call 9; refine (oNew _ 8 (by decide) (by decide) hb1).mono ?_; rintro e w2 ⟨mb, rfl, h2⟩)
    | (go_at_call 27; refine (oSome h2 (by decide) ao len cap z hl).mono ?_; rintro e w3 ⟨rfl, s, h3, hs8, _⟩))
  have h8 : s.ws.length = 8 := hs8
  clear h2 hb1 hs8
  obtain ⟨l, hl8⟩ : ∃ l, s.ws = l := ⟨_, rfl⟩
  have hlen : l.length = 8 := hl8 ▸ h8
  have hws : w.heap.size ≤ w3.heap.size := h3.bel.size
  go_loopw [9] (fun i wr => ∃ j : Nat, j ≤ 8 ∧ i = .int .i64 j ∧ ∃ s2, Own w wr mb s2 (40 + j) ∧ s2.ws = l ∧ wr.heap[w3.heap.size]? = some (.cells (arr (part l j)) 50 (0, 0))) (fun i _ => 8 - (intOf i).toNat)
  case atStart => exact ⟨0, Nat.zero_le _, rfl, s, (h3.mono (by omega)).alloc _, hl8, heap_alloc_new _ _⟩
  case round =>
    obtain ⟨j, hj, rfl, s2, p1, p2, p4⟩ := hrel
    obtain ⟨wo, rfl⟩ : ∃ wo : World, wo = wr := ⟨_, rfl⟩
    generalize hwb : w3.heap.size = wb at p4 hws ⊢
    have p2' : s2.ws.length = 8 := by rw [p2]; exact hlen
    by_cases hj8 : j < 8
    case pos =>
      go_wp2_with (go_at_call 12; refine (oLoad p1 (by omega) j).mono ?_; rintro e w7 ⟨rfl, p5, p6⟩; have p7 := p6 _ _ _ _ (by decide) p4; have x7 := arr_cell p7 (j := j) (by rw [part_len hlen hj]; omega); have f7 := frozen_of_row _ _ j _ _ p7)
      go_roundw
      case rel =>
        refine ⟨j + 1, by omega, by go_num, s2.load j, p5.setCell (j := j) p7 (by decide) hws _, p2, ?_⟩
        rw [got_in p2' hj8, p2]
        exact part_set p7 hlen hj8
      case measure => simp [intOf]; omega
    case neg =>
      have hj8' : j = 8 := by omega
      subst hj8'
      rw [arr_part l hlen] at p4
      clear hl8 h8 hwb h3
      have hc2 := p1.fit.tc
      have hc3 := p1.fit.t0
      have hc4 := p1.fit.c1
      go_wp2_with (first
        | (go_at_call_of 24 (Value.pointer (some ⟨mb, 0, none⟩)); refine (oCount p1).mono ?_; rintro e w4 ⟨rfl, hw4⟩; rw [hw4]; clear hw4 w4)
        | (go_at_call 20; refine (oClone p1).mono ?_; rintro e w5 ⟨cb, rfl, q5, t5, hne⟩; have a5 := t5 _ _ _ _ (by decide) p4)
        | (go_at_call_of 24 (Value.pointer (some ⟨cb, 0, none⟩)); refine (oCount q5.two).mono ?_; rintro e w4 ⟨rfl, hw4⟩; rw [hw4]; clear hw4 w4)
        | (go_at_call_of 25 (Value.pointer (some ⟨cb, 0, none⟩)); refine (oTraps q5.two).mono ?_; rintro e w4 ⟨rfl, hw4⟩; rw [hw4]; clear hw4 w4)
        | (go_at_call_of 25 (Value.pointer (some ⟨mb, 0, none⟩)); refine (oTraps q5.one).mono ?_; rintro e w4 ⟨rfl, hw4⟩; rw [hw4]; clear hw4 w4))
      go_loopw [12] (fun v wr2 => ∃ j : Nat, j ≤ 8 ∧ v = .int .i64 j ∧ ∃ sc, Pair w wr2 mb s2 48 56 cb sc (48 + j) ∧ sc.ws = l ∧ wr2.heap[wb]? = some (.cells (arr ⟨l, 0, 0, []⟩) 50 (0, 0))) (fun v _ => 8 - (intOf v).toNat)
      case atStart => exact ⟨0, Nat.zero_le _, rfl, s2, q5, p2, a5⟩
      case round =>
        obtain ⟨i, hi, rfl, sc, q1, q2, q4⟩ := hrel
        have q2' : sc.ws.length = 8 := by rw [q2]; exact hlen
        by_cases hi8 : i < 8
        case pos =>
          have cw : wr.cell? ⟨wb, i, none⟩ = some (.int .u64 (sc.got i)) := by rw [got_in q2' hi8, q2]; have := arr_cell q4 (j := i) (by show i < l.length; omega); rwa [got_in (s := ⟨l, 0, 0, []⟩) hlen hi8] at this
          go_wp2
          have cwD : wr.drew.cell? ⟨wb, i, none⟩ = some (.int .u64 (sc.got i)) := cw
          go_region_held3 (fun w' => w'.cell? ⟨wb, i, none⟩ = some (.int .u64 (sc.got i))) (first | assumption)
            (first
              | (go_at_call 12; refine (p2Load q1.drew (by omega) i).mono ?_; rintro e w7 ⟨rfl, q5', q6⟩; have q7 := q6 _ _ _ _ (by decide) q4; have q8 : w7.cell? ⟨wb, i, none⟩ = some (.int .u64 (sc.got i)) := (by rw [got_in q2' hi8, q2]; have := arr_cell q7 (j := i) (by show i < l.length; omega); rwa [got_in (s := ⟨l, 0, 0, []⟩) hlen hi8] at this)))
          all_goals go_wp2
          all_goals go_roundw
          case rel => exact ⟨i + 1, by omega, by go_num, sc.load i, q5', q2, q7⟩
          case measure => simp [intOf]; omega
        case neg =>
          go_wp2_with (first
            | (go_at_call 27; refine (p2Some q1 (by omega) ao' len' cap' z' hl').mono ?_; rintro e w8 ⟨rfl, sd, r8, _, t8⟩; have a8 := t8 _ _ _ _ (by decide) q4)
            | (go_at_call 24; refine (oCount r8.one).mono ?_; rintro e w4 ⟨rfl, hw4⟩; rw [hw4]; clear hw4 w4))
          have hcs : s2.c ≤ 100 := by have := r8.top1; omega
          clear q5 a5 q1 q4 t8
          go_loopw [14] (fun v wr3 => ∃ j : Nat, j ≤ 8 ∧ v = .int .i64 j ∧ ∃ sm, Own w wr3 mb sm (48 + j) ∧ sm.ws = l ∧ sm.c = s2.c + j ∧ wr3.heap[wb]? = some (.cells (arr ⟨l, 0, 0, []⟩) 50 (0, 0))) (fun v _ => 8 - (intOf v).toNat)
          case atStart => exact ⟨0, Nat.zero_le _, rfl, s2, r8.one, p2, by simp, a8⟩
          case round =>
            obtain ⟨n, hn, rfl, sm, r1, r2, r3, r4⟩ := hrel
            have r2' : sm.ws.length = 8 := by rw [r2]; exact hlen
            by_cases hn8 : n < 8
            case pos =>
              have cw : wr.cell? ⟨wb, n, none⟩ = some (.int .u64 (sm.got n)) := by rw [got_in r2' hn8, r2]; have := arr_cell r4 (j := n) (by show n < l.length; omega); rwa [got_in (s := ⟨l, 0, 0, []⟩) hlen hn8] at this
              go_wp2
              have cwD : wr.drew.cell? ⟨wb, n, none⟩ = some (.int .u64 (sm.got n)) := cw
              go_region_held3 (fun w' => w'.cell? ⟨wb, n, none⟩ = some (.int .u64 (sm.got n))) (first | assumption)
                (first
                  | (go_at_call 12; refine (oLoad r1.drew (by omega) n).mono ?_; rintro e w7 ⟨rfl, r5, r6⟩; have r7 := r6 _ _ _ _ (by decide) r4; have r9 : w7.cell? ⟨wb, n, none⟩ = some (.int .u64 (sm.got n)) := (by rw [got_in r2' hn8, r2]; have := arr_cell r7 (j := n) (by show n < l.length; omega); rwa [got_in (s := ⟨l, 0, 0, []⟩) hlen hn8] at this)))
              all_goals go_wp2
              all_goals go_roundw
              case rel => exact ⟨n + 1, by omega, by go_num, sm.load n, r5, r2, by rw [St.c_load, r3]; push_cast; omega, r7⟩
              case measure => simp [intOf]; omega
            case neg =>
              have hn8' : n = 8 := by omega
              subst hn8'
              have r3' : sm.c = s2.c + 8 := r3
              clear r3
              go_wp2_with (go_at_call 24; refine (oCount r1).mono ?_; rintro e w4 ⟨rfl, hw4⟩; rw [hw4]; clear hw4 w4)
              go_ret
              exact ⟨by simp, r1.bel⟩
end Go.Proofs.Ytmidhhigopjkhaa
