/-
  The walk of the law on steps in any order.
-/
import Derived.Test.YteclgafdflmioaaDoorLw
import Derived.Test.YteclgafdflmioaaDoorWo
import Derived.Test.YteclgafdflmioaaDoorOi
import Derived.Test.YteclgafdflmioaaDoorZa
import Derived.Deep.Cut
namespace Go.Proofs.YteclgafdflmioaaDoor
set_option linter.unusedVariables false
set_option maxRecDepth 100000
open Go.ChangeShapes Go.WideShapes Go.RowKit
open S.Plain (t0 t1 tw nx)
open H.Plain (hw pL)

def Wk.zero : Wk := ⟨.idle, 0, 0, .pointer none, .pointer none, .slice none 0 0, []⟩
theorem team_zero {w0 w : World} (h : w0.heap.size ≤ w.heap.size) : Team w0 (w.alloc (.cells #[.pointer none, .pointer none, .pointer none, .pointer none, .slice none 0 0, .pointer none, .pointer none, .pointer none, .pointer none, .slice none 0 0, .pointer none, .pointer none, .pointer none, .pointer none, .slice none 0 0, .pointer none, .pointer none, .pointer none, .pointer none, .slice none 0 0] 35)) w.heap.size (fun _ => Wk.zero) 0 where
  arr := ⟨_, Blk.new h _ (by decide), rfl, fun k hk i hi => by
    match k, hk with
    | 0, _ => match i, hi with | 0, _ => rfl | 1, _ => rfl | 2, _ => rfl | 3, _ => rfl | 4, _ => rfl
    | 1, _ => match i, hi with | 0, _ => rfl | 1, _ => rfl | 2, _ => rfl | 3, _ => rfl | 4, _ => rfl
    | 2, _ => match i, hi with | 0, _ => rfl | 1, _ => rfl | 2, _ => rfl | 3, _ => rfl | 4, _ => rfl
    | 3, _ => match i, hi with | 0, _ => rfl | 1, _ => rfl | 2, _ => rfl | 3, _ => rfl | 4, _ => rfl⟩
  is := fun k hk => ⟨trivial, RowI.nil _ _⟩
  apart := fun j hj k hk hjk x hx => by simp [Wk.zero, Wk.fp, Wk.mps, Value.ownBlock] at hx
  len := fun k hk => Nat.le_refl _

set_option maxHeartbeats 4000000 in
theorem wListPlays (n : Int) (ao : Option Addr) (len cap : Nat) (z : Nat → Int) (hn : -9223372036854775808 ≤ n) (hn' : n ≤ 9223372036854775807) (w : World) (W : H.Wid w) (hl : CameI w ao len z) :
    Calls Tryd.prog 3 #[.int .i64 n, .slice ao len cap] w fun e w' => e = .returned (.bool true) ∧ Below w.heap.size w w' := by
  obtain ⟨m, hm, hm13⟩ : ∃ m : Nat, kd n 13 = m ∧ m < 13 := kd_nat n 13 (by decide)
  obtain ⟨hL, hT, hC⟩ := laid_lst (n := m) (by omega) m (Nat.le_refl _)
  have h160 := hL.len
  clear hL hT hC
  go_enter Tryd.func3, Tryd.ntmps3
  go_upto_region 6 with (first
    | (go_at_call 7; refine (cShown w W).mono ?_; rintro e w1 ⟨rfl, hb1⟩)
    | (go_at_call 9; refine (cKind _ n 13 hn hn' (by decide)).mono ?_; rintro e w2 ⟨rfl, hw2⟩; rw [hw2, hm]; clear hw2 w2)
    | (go_at_call 8; refine (cLaid m (by omega) w1 (W.on hb1)).mono ?_; rintro e w3 ⟨b, rfl, h3⟩; have h3' := h3.lift hb1 W; clear h3)
    | (go_at_call 10; refine (cRef h3' m (by omega) (by omega)).mono ?_; rintro e w4 ⟨y, rfl, h4⟩))
  refine wp_region_lit ?_
  refine wpList_zeros rfl rfl rfl 35 28 8 rfl rfl rfl rfl rfl rfl #[.pointer none, .pointer none, .pointer none, .pointer none, .slice none 0 0, .pointer none, .pointer none, .pointer none, .pointer none, .slice none 0 0, .pointer none, .pointer none, .pointer none, .pointer none, .slice none 0 0, .pointer none, .pointer none, .pointer none, .pointer none, .slice none 0 0] 20 (by kernel_rfl) (by kernel_rfl) rfl (by kernel_rfl) rfl rfl ?_
  refine wpList_nil ?_
  have T5 : Team w (w4.alloc (.cells #[.pointer none, .pointer none, .pointer none, .pointer none, .slice none 0 0, .pointer none, .pointer none, .pointer none, .pointer none, .slice none 0 0, .pointer none, .pointer none, .pointer none, .pointer none, .slice none 0 0, .pointer none, .pointer none, .pointer none, .pointer none, .slice none 0 0] 35)) w4.heap.size (fun _ => Wk.zero) 0 := team_zero h4.bel.size
  have h5 := h4.alloc (.cells #[.pointer none, .pointer none, .pointer none, .pointer none, .slice none 0 0, .pointer none, .pointer none, .pointer none, .pointer none, .slice none 0 0, .pointer none, .pointer none, .pointer none, .pointer none, .slice none 0 0, .pointer none, .pointer none, .pointer none, .pointer none, .slice none 0 0] 35)
  generalize w4.alloc (.cells #[.pointer none, .pointer none, .pointer none, .pointer none, .slice none 0 0, .pointer none, .pointer none, .pointer none, .pointer none, .slice none 0 0, .pointer none, .pointer none, .pointer none, .pointer none, .slice none 0 0, .pointer none, .pointer none, .pointer none, .pointer none, .slice none 0 0] 35) = w5 at T5 h5 ⊢
  go_wp2
  have h160' : (laidTo m m).ws.length = 160 := h160
  have lw5 : w.heap.size ≤ w5.heap.size := h5.bel.size
  generalize w4.heap.size = B at T5 ⊢
  clear h4 hb1 h3' h160
  go_loopw [9] (fun i wr => ∃ j : Nat, j ≤ 200 ∧ j ≤ len ∧ i = .int .i64 j ∧ ∃ s wk, Two w wr b y s s (100 + 2 * j) ∧ s.ws.length = 160 ∧ Team w wr B wk j) (fun i _ => 200 - (intOf i).toNat)
  case atStart => exact ⟨0, Nat.zero_le _, Nat.zero_le _, rfl, _, _, h5.mono (by omega), h160', T5⟩
  case round =>
    obtain ⟨j, hj, hjl, rfl, s, wk, q1, q2, q3⟩ := hrel
    clear h5 T5 h160'
    by_cases hjn : j < len ∧ j < 200
    case pos =>
      obtain ⟨hj1, hj2⟩ := hjn
      obtain ⟨c, off, rfl, hcb, hcell⟩ := hl.resolve_left (by omega)
      obtain ⟨hcj, hz1, hz2⟩ := hcell j hj1
      have hcj' : wr.cell? ⟨c, off + j, none⟩ = some (.int .i64 (z j)) := (q1.bel.cell hcb).trans hcj
      obtain ⟨q, hq, hq8⟩ : ∃ q : Nat, kd (z j) 8 = q ∧ q < 8 := kd_nat (z j) 8 (by decide)
      clear hcell hcj
      have hq4 : q % 4 < 4 := by omega
      go_wp2_with (first
        | (go_at_call 9; refine (cKind _ (z j) 8 hz1 hz2 (by decide)).mono ?_; rintro e w6 ⟨rfl, hw6⟩; rw [hw6, hq]; clear hw6 w6)
        | (go_at_call 11; refine (cBegin q1 q3 hq4 (by omega) _).mono ?_; rintro e w6 ⟨rfl, q4, wk1, q5⟩)
        | (go_at_call 12; refine (cStep q4 (by omega) q5 hq4 (by omega)).mono ?_; rintro e w7 ⟨rfl, s1, wk2, q6, q7, q8⟩; rw [q2] at q7)
        | (go_at_call 13; refine (cSame q6 q7 (by omega)).mono ?_; rintro e w8 ⟨rfl, hb8⟩; have q9 := q6.below hb8; have q10 := q8.below hb8; clear hb8))
      · go_roundw
        case rel => exact ⟨j + 1, by omega, by omega, by go_num, s1, wk2, q9, q7, q10⟩
        case measure => simp [intOf]; omega
      · go_roundw
        case rel => exact ⟨j + 1, by omega, by omega, by go_num, s1, wk2, q6, q7, q8⟩
        case measure => simp [intOf]; omega
    case neg =>
      by_cases hj1 : j < len
      · have hj2 : ¬ j < 200 := fun h => hjn ⟨hj1, h⟩
        go_wp2_with (go_at_call 13; refine (cSame q1 q2 (by omega)).mono ?_; rintro e w8 ⟨rfl, hb8⟩; have q9 := q1.below hb8; clear hb8)
        go_ret
        exact ⟨rfl, q9.bel⟩
      · go_wp2_with (go_at_call 13; refine (cSame q1 q2 (by omega)).mono ?_; rintro e w8 ⟨rfl, hb8⟩; have q9 := q1.below hb8; clear hb8)
        go_ret
        exact ⟨rfl, q9.bel⟩
end Go.Proofs.YteclgafdflmioaaDoor
