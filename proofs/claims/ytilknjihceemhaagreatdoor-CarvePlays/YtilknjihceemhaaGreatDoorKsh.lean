/-
  The document's examples.
-/
import Derived.Test.YtilknjihceemhaaGreatDoorKg
namespace Go.Proofs.YtilknjihceemhaaGreatDoor
set_option linter.unusedVariables false
set_option maxRecDepth 100000
open Go.ChangeShapes Go.WideShapes Go.RowKit
open S.Plain (t0 t1 tw nx bw b0 b1 b2 b3)
open H.Plain (hw pL)

theorem fresh_hand {t n : Nat} {w w' : World} {b y N : Nat} (ht : t ≤ 64) (h1 : 1 ≤ n) (hn : n ≤ 64) (h : Two w w' b y (laidTo (frSt t n).ws (szN t n)) (frSt t n) N) :
    ∃ s, Hand w w' b s N ∧ s.ws = (frSt t n).ws ∧ Fr t n s (upto 0 n) 0 ∧ ∀ a : Nat, 3 ≤ a → a ≤ 9 → s.word (a : Int) = 0 := by
  have e := laidTo_all (frSt t n).ws
  rw [frSt_len] at e
  have F := fresh_fr ht h1 hn e.1 e.2.1
  exact ⟨_, h.one, e.1, F.1, F.2⟩
set_option maxHeartbeats 2000000 in
theorem cShown (w : World) (W : Laid w) :
    Calls Tryz.prog 4 #[] w fun e w' => e = .returned (.bool true) ∧ Below w.heap.size w w' := by
  have hc1 : P.Plain.cs 1 = 4 := rfl
  go_enter Tryz.func4, Tryz.ntmps4
  go_wp2_with (first
    | (go_at_call 5; refine (kRNew 1 2 (by decide) (by decide) (by decide) (by decide) _).mono ?_; rintro e w1 ⟨rfl, hb1⟩)
    | (go_at_call 7; refine (cFr (t := 1) (n := 2) (by decide) (by decide) (by decide) _ ((W.on hb1).on (S.bal (Below.refl _ _) _))).mono ?_; rintro e w2 ⟨b, y, rfl, h2⟩; obtain ⟨s, h3, hws, F, hz⟩ := fresh_hand (by decide) (by decide) (by decide) h2; have hB0 : PBox (w1.alloc (.cells (mkPl 1 2).cells 25)) w1.heap.size (mkPl 1 2) := heap_alloc_new _ _; have hB : PBox w2 w1.heap.size (mkPl 1 2) := hB0.below h3.bel; have c0 := hB.c0; have c1 := hB.c1; have c2 := hB.c2; have c3 := hB.c3; have c4 := hB.c4)
    | (go_at_call 11; refine (hNewTake h3 (mkPl 1 2) 1 0).mono ?_; rintro e w3 ⟨p, rfl, h4, B4, hb4, hp4⟩))
  have hbw : Below w.heap.size w (w1.alloc (.cells (mkPl 1 2).cells 25)) := S.bal hb1 _
  change Hand (w1.alloc (.cells (mkPl 1 2).cells 25)) _ _ _ _ at h4
  change Blk (w1.alloc (.cells (mkPl 1 2).cells 25)) _ _ _ _ at B4
  obtain ⟨o, ho⟩ : ∃ o, w1.heap.size = o := ⟨_, rfl⟩
  generalize w1.alloc (.cells (mkPl 1 2).cells 25) = wa at hbw h4 B4
  clear hB0 hB c0 c1 c2 c3 c4 h2 h3 hb4 hp4
  rw [ho]
  clear ho
  have F' : Fr 1 2 s (0 :: upto 1 2) 0 := F
  obtain ⟨P1, P2⟩ := take_solo (m := 10) F' (by decide) (c := 1) (e := 0) (by decide) (by decide) (by decide) (by decide) (by rw [hc1]; decide)
  have ok := it_ok (TakeS.ok_new (mkPl_ok (t := 1) (n := 2) (by decide) (by decide)) (c := 1) (e := 0) (by decide) (by decide) (by decide) (by decide)) h4.rng
  obtain ⟨x0, hx0⟩ : ∃ x0, TakeS.new (mkPl 1 2) 1 0 = x0 := ⟨_, rfl⟩
  rw [hx0] at P1 P2 ok B4
  have z4 : s.word (3 + 3 * 0 + 1) = 0 := hz 4 (by decide) (by decide)
  have cell := P2.cell
  have fr := P2.fr
  have hd := P2.hd
  rw [z4, show cel 1 2 0 1 1 = 40 by decide, show nx 0 40 = tw 40 ((1 : Nat) : Int) by decide, show (3 + 3 * 0 + 1 : Int) = 4 by decide] at hd
  rw [show cel 1 2 0 1 0 = 32 by decide] at cell
  have e10 : ((it x0 s 10).1.pc == 0) = true := by rw [P2.pc]; rfl
  have len := fr.len
  rw [show szN 1 2 = 96 by decide] at len
  obtain ⟨y1, y2, y3, u1, u2, u3, f1, f2, f3, f4, f5, f6, g1, g2, g3, g4, _⟩ := pop_solo (s := (it x0 s 10).2) (hd := 4) (a := 40) ⟨by decide, by rw [len]; decide⟩ ⟨by decide, by rw [len]; decide⟩ (by decide) hd (by decide) (by decide) rfl
  have k0 := PopS.ok_new 4
  have k1 := k0.next (ok 10).2
  rw [f1] at k1
  have r1 := PopS.rng k0 (ok 10).2
  rw [f2] at r1
  have k2 := k1.next r1
  rw [f3] at k2
  have r2 := PopS.rng k1 r1
  rw [f4] at r2
  have k3 := k2.next r2
  rw [f5] at k3
  clear hc1 z4 hd len P2 hz F F' hws
  go_loopw [6] (fun i wr => ∃ j : Nat, j ≤ 9 ∧ i = .int .i64 j ∧ Hand wa wr b (it x0 s j).2 (szN 1 2 + j) ∧ Blk wa wr p 79 (it x0 s j).1.cells) (fun i _ => 9 - (intOf i).toNat)
  case atStart => exact ⟨0, by omega, rfl, h4, B4⟩
  case round =>
    obtain ⟨j, hj, rfl, q1, q2⟩ := hrel
    by_cases hl : j < 9
    case pos =>
      have e1 : ((it x0 s (j + 1)).1.pc == 0) = false := by simpa using P1 (j + 1) (by omega)
      go_wp2_with (go_at_call 12; refine (hIt q1 q2 (ok j).1 (by rw [show szN 1 2 = 96 by decide]; omega)).mono ?_; rintro e w4 ⟨rfl, q5, q6, q7⟩; rw [e1])
      go_roundw
      case rel => exact ⟨j + 1, by omega, by go_num, q5, q6⟩
      case measure => simp [intOf]; omega
    case neg =>
      obtain rfl : j = 9 := by omega
      have r4 : (3 + 3 * 0 + 1 : Int) = 4 := by decide
      go_wp2_with (first
        | (go_at_call 12; refine (hIt q1 q2 (ok 9).1 (by rw [show szN 1 2 = 96 by decide]; omega)).mono ?_; rintro e w4 ⟨rfl, q5, q6, q7⟩; rw [e10])
        | (go_at_call 14; refine (P.rList 0 1 (by decide) (by decide) (by decide) (by decide) _).mono ?_; rintro e wx ⟨rfl, hwx⟩; rw [hwx, r4]; clear hwx wx)
        | (go_at_call 13; refine (hNewPop q5 4).mono ?_; rintro e w5 ⟨p2, rfl, q8, B8, hb8, hp8⟩; have q6' := q6.below hb8))
      have hne : p ≠ p2 := by have := q6.lt; omega
      go_wp2_with (go_at_call 15; refine (oPop q8 B8 k0 (by rw [show szN 1 2 = 96 by decide]; omega)).mono ?_; rintro e w6 ⟨rfl, q9, B9, o9⟩; rw [f1] at B9 ⊢; rw [f2] at q9; rw [g1]; have q6a := q6'.oth o9 (by simpa using hne))
      go_wp2_with (go_at_call 15; refine (oPop q9 B9 k1 (by rw [show szN 1 2 = 96 by decide]; omega)).mono ?_; rintro e w7 ⟨rfl, q10, B10, o10⟩; rw [f3] at B10 ⊢; rw [f4] at q10; rw [g2]; have q6b := q6a.oth o10 (by simpa using hne))
      go_wp2_with (go_at_call 15; refine (oPop q10 B10 k2 (by rw [show szN 1 2 = 96 by decide]; omega)).mono ?_; rintro e w8 ⟨rfl, q11, B11, o11⟩; rw [f5] at B11 ⊢; rw [f6] at q11; rw [g3]; have q6c := q6b.oth o11 (by simpa using hne))
      go_wp2_with (first
        | (go_at_call 16; refine (oResult B11 k3).mono ?_; rintro e w9 ⟨rfl, hb9⟩; rw [g4]; have q12 := q11.below hb9; have q6d := q6c.below hb9)
        | (go_at_call 17; refine (oCell q6d (ok 10).1 q12.widw).mono ?_; rintro e w10 ⟨rfl, hb10⟩; rw [cell]; have q13 := q12.below hb10))
      go_ret
      exact ⟨rfl, hbw.trans (q13.bel.mono hbw.size)⟩
end Go.Proofs.YtilknjihceemhaaGreatDoor
