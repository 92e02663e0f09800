/-
  The document's examples.
-/
import Derived.Test.YtbojljkdpebheaaDoorAh
namespace Go.Proofs.YtbojljkdpebheaaDoor
set_option linter.unusedVariables false
set_option maxRecDepth 100000
open Go.ChangeShapes Go.WideShapes Go.RowKit
open S.Plain (t0 t1 tw nx bw b0 b1 b2 b3)
open H.Plain (hw pL)

theorem fresh_hand {t n : Nat} {w w' : World} {b y N : Nat} (h : Two w w' b y (laidTo (frSt t n).ws (szN t n)) (frSt t n) N) :
    ∃ s, Hand w w' b s N ∧ s.ws = (frSt t n).ws ∧ s.t = 0 := by
  have e := laidTo_all (frSt t n).ws
  rw [frSt_len] at e
  exact ⟨_, h.one, e.1, e.2.1⟩
theorem hNewPush {w0 w : World} {b N : Nat} {s : St} (h : Hand w0 w b s N) (hd f l c : Int) :
    Calls Tryd.prog 24 #[.int .i64 hd, .int .i64 f, .int .i64 l, .int .i64 c] w fun v w' => ∃ p, v = .returned (.pointer (some ⟨p, 0, none⟩)) ∧ Hand w0 w' b s N ∧ Blk w0 w' p 79 (PushS.new hd f l c).cells ∧ Below w.heap.size w w' ∧ w.heap.size ≤ p := by
  refine (cNewPush hd f l c w).mono ?_
  rintro v w' ⟨rfl, rfl⟩
  exact ⟨_, rfl, h.alloc _, Blk.new h.bel.size _ (by decide), S.bal (Below.refl _ _) _, Nat.le_refl _⟩
set_option maxHeartbeats 2000000 in
theorem cShown (w : World) (W : Laid w) :
    Calls Tryd.prog 7 #[] w fun e w' => e = .returned (.bool true) ∧ Below w.heap.size w w' := by
  go_enter Tryd.func7, Tryd.ntmps7
  go_wp2_with (first
    | (go_at_call 8; refine (kRNew 1 1 (by decide) (by decide) (by decide) (by decide) _).mono ?_; rintro e w1 ⟨rfl, hb1⟩)
    | (go_at_call 10; refine (cFr (t := 1) (n := 1) (by decide) (by decide) (by decide) _ ((W.on hb1).on (S.bal (Below.refl _ _) _))).mono ?_; rintro e w2 ⟨b, y, rfl, h2⟩; obtain ⟨s, h3, hws, ht⟩ := fresh_hand h2; have hB0 : PBox (w1.alloc (.cells (mkPl 1 1).cells 25)) w1.heap.size (mkPl 1 1) := heap_alloc_new _ _; have hB : PBox w2 w1.heap.size (mkPl 1 1) := hB0.below h3.bel; have c0 := hB.c0; have c1 := hB.c1; have c2 := hB.c2; have c3 := hB.c3; have c4 := hB.c4)
    | (go_at_call 11; refine (hNewAll h3 (mkPl 1 1) (n := 3) (m := 1) (e := 0) (by decide) (by decide) (by decide) (by decide)).mono ?_; rintro e w3 ⟨p, rfl, h4, B4, hb4, hp4⟩; have hB4 := hB.below hb4; have d0 := hB4.c0; have d1 := hB4.c1; have d2 := hB4.c2; have d3 := hB4.c3; have d4 := hB4.c4)
    | (go_at_call 29; refine (hNewRes h4 (mkPl 1 1) (c := 1) (e := 0) (by decide) (by decide) (by decide) (by decide)).mono ?_; rintro e w4 ⟨p2, rfl, h5, C5, hb5, hp5⟩; have B5 := B4.below hb5; have hne : p ≠ p2 := (by have := B4.lt; omega)))
  have hbw : Below w.heap.size w (w1.alloc (.cells (mkPl 1 1).cells 25)) := S.bal hb1 _
  change Hand (w1.alloc (.cells (mkPl 1 1).cells 25)) _ _ _ _ at h5
  change Blk (w1.alloc (.cells (mkPl 1 1).cells 25)) _ _ _ _ at B5 C5
  obtain ⟨o, ho⟩ : ∃ o, w1.heap.size = o := ⟨_, rfl⟩
  generalize w1.alloc (.cells (mkPl 1 1).cells 25) = wa at hbw h5 B5 C5
  clear hB0 hB hB4 c0 c1 c2 c3 c4 d0 d1 d2 d3 d4 h2 h3 h4 B4 hb4 hp4 hb5 hp5
  rw [ho]
  clear ho
  have okA : (AllS.new (mkPl 1 1) 3 1 0).Ok := AllS.ok_new (mkPl_ok (by decide) (by decide)) (by decide) (by decide) (by decide) (by decide)
  have okR : (ResS.new (mkPl 1 1) 1 0).Ok := ResS.ok_new (mkPl_ok (by decide) (by decide)) (by decide) (by decide) (by decide) (by decide)
  have RA : rnA 60 (AllS.new (mkPl 1 1) 3 1 0) s.ws = shA := by rw [hws]; rfl
  have RR : rnR 60 (ResS.new (mkPl 1 1) 1 0) shA.2 = shR := rfl
  obtain ⟨f1, f2, f3, f4, f5, f6, f7⟩ := sh_facts
  have sz : szN 1 1 = 64 := by decide
  rw [sz] at h5
  generalize AllS.new (mkPl 1 1) 3 1 0 = x0 at B5 okA RA
  generalize ResS.new (mkPl 1 1) 1 0 = y0 at C5 okR RR
  generalize shA = RA0 at RA RR f1 f2
  generalize shR = RR0 at RR f3 f4 f5 f6 f7
  go_loopw [7, 9] (fun a i wr => ∃ (j : Nat) (x : AllS) (s : St), j ≤ 60 ∧ i = .int .i64 j ∧ (1 ≤ j → a = .bool (x.pc == 0)) ∧ Hand wa wr b s (64 + j) ∧ Blk wa wr p 85 x.cells ∧ x.Ok ∧ Blk wa wr p2 83 y0.cells ∧ rnA (60 - j) x s.ws = RA0) (fun _ i _ => 60 - (intOf i).toNat)
  case atStart => exact ⟨0, x0, s, by omega, rfl, fun h => by omega, h5, B5, okA, C5, RA⟩
  case round =>
    clear RA h5 B5 C5 okA hws ht s
    obtain ⟨j, x, s, hj, rfl, ha, q1, q2, q3, q4, q5⟩ := hrel
    by_cases hl : j < 60
    case pos =>
      obtain ⟨k, hk⟩ : ∃ k, 60 - j = k + 1 := ⟨59 - j, by omega⟩
      rw [hk, rnA_step] at q5
      go_wp2_with (go_at_call 12; refine (oAll q1 q2 q3 (by omega)).mono ?_; rintro e w5 ⟨rfl, q6, q7, q8⟩)
      go_roundw
      case rel => exact ⟨j + 1, x.next s, x.mem s, by omega, by go_num, fun _ => rfl, q6, q7, q3.next q1.rng, q4.oth q8 (by simpa using Ne.symm hne), by rw [show 60 - (j + 1) = k by omega]; exact q5⟩
      case measure => simp [intOf]; omega
    case neg =>
      have hj60 : 60 - j = 0 := by omega
      rw [hj60] at q5
      have e1 : x = RA0.1 := by rw [← q5]; rfl
      have e2 : s.ws = RA0.2 := by rw [← q5]; rfl
      have ea : u7 = .bool true := by rw [ha (by omega), e1, f1]; rfl
      have ec : x.cell = 32 := by rw [e1, f2]
      rw [ea]
      rw [← e2] at RR
      clear ea ha q5 hj60 e1 e2
      go_wp2
      go_loopw [8, 10] (fun a i wr => ∃ (m : Nat) (y : ResS) (s : St), m ≤ 60 ∧ i = .int .i64 m ∧ (1 ≤ m → a = .bool (y.pc == 0)) ∧ Hand wa wr b s (130 + m) ∧ Blk wa wr p2 83 y.cells ∧ y.Ok ∧ Blk wa wr p 85 x.cells ∧ rnR (60 - m) y s.ws = RR0) (fun _ i _ => 60 - (intOf i).toNat)
      case atStart => exact ⟨0, y0, s, by omega, rfl, fun h => by omega, q1.mono (by omega), q4, okR, q2, RR⟩
      case round =>
        clear RR q1 q2 q4 s
        obtain ⟨m, y, s, hm, rfl, ha, q1, q2, q4, q6, q5⟩ := hrel
        by_cases hl : m < 60
        case pos =>
          obtain ⟨k, hk⟩ : ∃ k, 60 - m = k + 1 := ⟨59 - m, by omega⟩
          rw [hk, rnR_step] at q5
          go_wp2_with (go_at_call 30; refine (oRes q1 q2 q4 (by omega)).mono ?_; rintro e w5 ⟨rfl, r6, r7, r8⟩)
          go_roundw
          case rel => exact ⟨m + 1, y.next s, y.mem s, by omega, by go_num, fun _ => rfl, r6, r7, q4.next q1.rng, q6.oth r8 (by simpa using hne), by rw [show 60 - (m + 1) = k by omega]; exact q5⟩
          case measure => simp [intOf]; omega
        case neg =>
          have hm60 : 60 - m = 0 := by omega
          rw [hm60] at q5
          have e1 : y = RR0.1 := by rw [← q5]; rfl
          have e2 : s.ws = RR0.2 := by rw [← q5]; rfl
          have ea : u8 = .bool true := by rw [ha (by omega), e1, f3]; rfl
          have ed : y.cell = 0 := by rw [e1, f4]
          rw [ea]
          have g1 : s.got 32 = 177 := by rw [← f5]; exact got_ws (s := bare RR0.2) e2 _
          have g2 : (s.load 32).got 33 = 0 := by rw [← f6]; exact got_ws (s := bare RR0.2) e2 _
          have g3 : ((s.load 32).load 33).got 35 = 0 := by rw [← f7]; exact got_ws (s := bare RR0.2) e2 _
          go_wp2_with (first
            | (go_at_call 18; refine (oAllCell q6).mono ?_; rintro e w6 ⟨rfl, hw6⟩; rw [hw6, ec]; clear hw6 w6)
            | (go_at_call 31; refine (oResCell ((q2.oth o7 (by simp)).oth o8 (by simp) |>.oth o9 (by simp))).mono ?_; rintro e w6 ⟨rfl, hw6⟩; rw [hw6, ed]; clear hw6 w6)
            | (go_at_call_of 15 (Value.int .i64 32); refine (hLoad q1 (by omega) 32).mono ?_; rintro e w7 ⟨rfl, q7, o7⟩; rw [g1])
            | (go_at_call_of 15 (Value.int .i64 33); refine (hLoad q7 (by omega) 33).mono ?_; rintro e w8 ⟨rfl, q8, o8⟩; rw [g2])
            | (go_at_call_of 15 (Value.int .i64 35); refine (hLoad q8 (by omega) 35).mono ?_; rintro e w9 ⟨rfl, q9, o9⟩; rw [g3]))
          go_ret
          exact ⟨rfl, hbw.trans (q9.bel.mono hbw.size)⟩
end Go.Proofs.YtbojljkdpebheaaDoor
