/-
  The walk of the law on the order of one worker.
-/
import Derived.Test.YteclgafdflmioaaDoorLsh
namespace Go.Proofs.YteclgafdflmioaaDoor
set_option linter.unusedVariables false
set_option maxRecDepth 100000
open Go.ChangeShapes Go.WideShapes Go.RowKit

theorem kd_nat (n : Int) (m : Nat) (h : 0 < m) : ∃ k : Nat, kd n m = k ∧ k < m := by
  obtain ⟨h0, h1⟩ := kd_bounds n m (by omega)
  exact ⟨(kd n m).toNat, by omega, by omega⟩
theorem lst_cons {s : St} {j m v : Nat} {a : Int} (h : Lst s (cel j (m - j)) v) (hj : j < m) (ha : 96 + 4 * (j : Int) = a) : Lst s (a :: cel (j + 1) (m - (j + 1))) v := by
  obtain ⟨k, hk⟩ : ∃ k, m - j = k + 1 := ⟨m - j - 1, by omega⟩
  rw [hk, cel, ha] at h
  rw [show m - (j + 1) = k by omega]
  exact h

set_option maxHeartbeats 4000000 in
theorem wListOrder (n : Int) (hn : -9223372036854775808 ≤ n) (hn' : n ≤ 9223372036854775807) (w : World) (W : H.Wid w) :
    Calls Tryd.prog 5 #[.int .i64 n] w fun e w' => e = .returned (.bool true) ∧ Below w.heap.size w w' := by
  obtain ⟨m, hm, hm13⟩ : ∃ m : Nat, kd n 13 = m ∧ m < 13 := kd_nat n 13 (by decide)
  obtain ⟨hL, hT, hC⟩ := laid_lst (n := m) (by omega) m (Nat.le_refl _)
  rw [Nat.sub_self] at hL
  have k0 := PopS.ok_new 3
  go_enter Tryd.func5, Tryd.ntmps5
  go_wp2_with (first
    | (go_at_call 7; refine (cShown w W).mono ?_; rintro e w1 ⟨rfl, hb1⟩)
    | (go_at_call 9; refine (cKind _ n 13 hn hn' (by decide)).mono ?_; rintro e w2 ⟨rfl, hw2⟩; rw [hw2, hm]; clear hw2 w2)
    | (go_at_call 8; refine (cLaid m (by omega) w1 (W.on hb1)).mono ?_; rintro e w3 ⟨b, rfl, h3⟩; have h3' := h3.lift hb1 W; clear h3))
  go_loopw [6] (fun i wr => ∃ j : Nat, j ≤ m ∧ i = .int .i64 j ∧ ∃ s, Hand w wr b s (36 + 3 * j) ∧ Lst s (cel j (m - j)) (m + j) ∧ s.t = 0) (fun i _ => m - (intOf i).toNat)
  case atStart => exact ⟨0, Nat.zero_le _, rfl, _, h3'.mono (by omega), hL, hT⟩
  case round =>
    obtain ⟨j, hj, rfl, s, q1, q2, q3⟩ := hrel
    by_cases hjm : j < m
    case pos =>
      obtain ⟨a, ha⟩ : ∃ a : Int, 96 + 4 * (j : Int) = a := ⟨_, rfl⟩
      have q4 := lst_cons q2 hjm ha
      obtain ⟨x1, x2, x3, s1, s2, s3, e1, e2, e3, e4, e5, e6, p1, p2, p3, a1, a2, a3, _, q5, q6, _⟩ := pop_alone q4 (by omega) q3
      have k1 := k0.next q1.rng
      rw [e1] at k1
      have r1 := PopS.rng k0 q1.rng
      rw [e2] at r1
      have k2 := k1.next r1
      rw [e3] at k2
      have r2 := PopS.rng k1 r1
      rw [e4] at r2
      have k3 := k2.next r2
      rw [e5] at k3
      have y1 : (x1.pc == 0) = false := by rw [p1]; rfl
      have y2 : (x2.pc == 0) = false := by rw [p2]; rfl
      have y3 : (x3.pc == 0) = true := by rw [p3]; rfl
      clear hL hT hC h3' hb1 q2 q4 r1 r2
      go_wp2_with (go_at_call 14; refine (cNewPop 3 wr).mono ?_; rintro e w4 ⟨rfl, hw4⟩; have h4 : Hand w w4 b s (36 + 3 * j) := (hw4 ▸ q1.alloc _); have B4 : Blk w w4 wr.heap.size 79 (PopS.new 3).cells := (by rw [hw4]; exact Blk.new q1.bel.size _ (by decide)); obtain ⟨p, hp⟩ : ∃ p, wr.heap.size = p := ⟨_, rfl⟩; rw [hp] at B4 ⊢; clear hp hw4)
      go_wp2_with (go_at_call 16; refine (oPop h4 B4 k0 (by omega)).mono ?_; rintro e w5 ⟨rfl, h5, B5, _⟩; rw [e1] at B5 ⊢; rw [e2] at h5; rw [y1])
      go_wp2_with (go_at_call 16; refine (oPop h5 B5 k1 (by omega)).mono ?_; rintro e w6 ⟨rfl, h6, B6, _⟩; rw [e3] at B6 ⊢; rw [e4] at h6; rw [y2])
      go_wp2_with (go_at_call 17; refine (oResult B6 k2).mono ?_; rintro e w7 ⟨rfl, hb7⟩; rw [a2]; have h7 := h6.below hb7; have B7 := B6.below hb7; clear hb7)
      go_wp2_with (go_at_call 16; refine (oPop h7 B7 k2 (by omega)).mono ?_; rintro e w8 ⟨rfl, h8, B8, _⟩; rw [e5] at B8 ⊢; rw [e6] at h8; rw [y3])
      go_wp2_with (go_at_call 17; refine (oResult B8 k3).mono ?_; rintro e w9 ⟨rfl, hb9⟩; rw [a3]; have h9 := h8.below hb9; have B9 := B8.below hb9; clear hb9)
      go_wp2_with (first
        | (go_at_call 20; refine (hCount h9).mono ?_; rintro e wx ⟨rfl, hwx⟩; rw [hwx]; clear hwx wx)
        | (go_at_call 16; refine (oPop0 h9 B9 p3).mono ?_; rintro e wx ⟨rfl, hwx⟩; rw [hwx]; clear hwx wx))
      go_roundw
      case rel => exact ⟨j + 1, by omega, by go_num, s3, h9, q5, q6⟩
      case measure => simp [intOf]; omega
    case neg =>
      have e : j = m := by omega
      have q4 : Lst s [] (m + j) := by rw [e, Nat.sub_self] at q2; rw [e]; exact q2
      obtain ⟨x1, e1, e2, p1, a1, a2, q5, q6⟩ := pop_none q4 q3
      have k1 := k0.next q1.rng
      rw [e1] at k1
      have y1 : (x1.pc == 0) = true := by rw [p1]; rfl
      have g3 : (s.load 3).got 3 = s.word 3 := (In3.got q5.len).trans rfl
      obtain ⟨v, hv⟩ : ∃ v, s.word 3 = v := ⟨_, rfl⟩
      rw [hv] at a2 g3
      clear hL hT hC h3' hb1 q2 q4 q3
      go_wp2_with (go_at_call 14; refine (cNewPop 3 wr).mono ?_; rintro e w4 ⟨rfl, hw4⟩; have h4 : Hand w w4 b s (36 + 3 * j) := (hw4 ▸ q1.alloc _); have B4 : Blk w w4 wr.heap.size 79 (PopS.new 3).cells := (by rw [hw4]; exact Blk.new q1.bel.size _ (by decide)); obtain ⟨p, hp⟩ : ∃ p, wr.heap.size = p := ⟨_, rfl⟩; rw [hp] at B4 ⊢; clear hp hw4)
      go_wp2_with (first
        | (go_at_call 16; refine (oPop h4 B4 k0 (by omega)).mono ?_; rintro e w5 ⟨rfl, h5, B5, _⟩; rw [e1] at B5 ⊢; rw [e2] at h5; rw [y1])
        | (go_at_call 17; refine (oResult B5 k1).mono ?_; rintro e w6 ⟨rfl, hb6⟩; rw [a1, a2]; have h6 := h5.below hb6; clear hb6)
        | (go_at_call 21; refine (hLoad h6 (by omega) 3).mono ?_; rintro e w7 ⟨rfl, h7, _⟩; rw [g3]))
      go_ret
      exact ⟨by simp, h7.bel⟩
end Go.Proofs.YteclgafdflmioaaDoor
