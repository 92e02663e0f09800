/-
  Contracts of the reference: New, Put, Named, Look.
-/
import Derived.Test.YtbihdkdefopijaaYc1
import Derived.Test.YtbihdkdefopijaaGc4
import Derived.Test.YtbihdkdefopijaaSt
namespace Go.Proofs.Ytbihdkdefopijaa
set_option linter.unusedVariables false
set_option linter.unusedSimpArgs false
open Go.ChangeShapes Go.WideShapes Go.ChangeAt Go.RowKit

theorem ynew_at {w w1 : World} {n : Nat} (hown : w1.ownsRow 0 72 9 (.slice (some ⟨w.heap.size, 0, none⟩) n n) n (madeCells (rv 0 Plain.nil).cells (n * 9)).toList) (hg : w.grownBy w1 none) :
    YAt (w1.alloc (.cells #[.slice (some ⟨w.heap.size, 0, none⟩) n n, .slice none 0 0] 67)) ⟨w1.heap.size, w.heap.size, n, .slice none 0 0, []⟩ (Gr.new n) ∧
    Below w.heap.size w (w1.alloc (.cells #[.slice (some ⟨w.heap.size, 0, none⟩) n n, .slice none 0 0] 67)) ∧ ∀ k ∈ (⟨w1.heap.size, w.heap.size, n, .slice none 0 0, []⟩ : YLoc).fp, w.heap.size ≤ k := by
  rw [tcells_new] at hown
  have hl : (List.replicate n ([] : List Int)).length = n := by simp
  refine ⟨⟨?_, ?_, rfl, World.ownsRow_nil _ _ _ _, fun i o hi => by simp [Gr.new] at hi, fun i j u v k hi => by simp at hi, fun _ => rfl⟩, ?_, ?_⟩
  · rw [heap_alloc_new]; simp [Gr.new]
  · simp only [Gr.new, hl]; exact hown.alloc _
  · exact ((Below.refl _ _).grown hg (Nat.le_refl _) fun k hk => by cases hk).alloc hg.size _
  · intro k hk
    simp [YLoc.fp, Value.ownBlock] at hk
    have := hg.size
    rcases hk with rfl | rfl <;> omega
set_option maxRecDepth 100000 in
theorem yNew (w : World) (n : Nat) (h1 : 1 ≤ n) (h4 : n ≤ 64) :
    Calls Try.prog 11 #[.int .i64 n] w fun e w' => ∃ L : YLoc, e = .returned (.tuple #[.pointer (some ⟨L.b, 0, none⟩), .int .i64 0]) ∧ YAt w' L (Gr.new n) ∧ Below w.heap.size w w' ∧ ∀ k ∈ L.fp, w.heap.size ≤ k := by
  obtain ⟨i0, hi, hz0, hz1, hz2⟩ := info_parts infoRoots
  go_enter Try.func11, Try.ntmps11
  go_wp2_with (at_make; refine wpList_make_full _ rfl _ _ 62 rfl 0 72 i0 _ 9 Try.underlying62 hi hz0 hz1 .i64 .i64 n n n rfl rfl rfl rfl ?b2 ?b3 ?b4 ?_)
  case b2 => rw [hz2]; omega
  case b3 => unfold maxLen; omega
  case b4 => omega
  intro w1 hown hg
  have R := ynew_at hown hg
  clear hown hg
  go_wp2
  go_ret2
  exact ⟨⟨w1.heap.size, w.heap.size, n, .slice none 0 0, []⟩, rfl, R⟩
theorem yNewBad (w : World) (n : Int) (h : n < 1 ∨ 64 < n) :
    Calls Try.prog 11 #[.int .i64 n] w fun e w' => e = .returned (.tuple #[.pointer none, .int .i64 1]) ∧ w' = w := by
  rcases h with h | h
  all_goals
    go_enter Try.func11, Try.ntmps11
    go_wp2
    go_ret2
    exact ⟨rfl, rfl⟩

set_option maxHeartbeats 400000 in
theorem yPut {w : World} {L : YLoc} {g : Gr} (hg : YAt w L g) (f : g.Fit) (t a : Int) :
    Calls Try.prog 18 #[.pointer (some ⟨L.b, 0, none⟩), .int .i64 t, .int .i64 a] w fun e w' => e = .returned (.int .i64 (g.putE t a)) ∧ YAt w' L (g.put t a) ∧ YStep w L w' L := by
  have ob := f.ob
  obtain ⟨ao, cp, hv, _⟩ := own_slice hg.row
  have c1 := hg.cell1
  rw [hv] at c1
  clear hv
  by_cases hA : g.isT t = true ∧ 0 ≤ a ∧ a ≤ g.os.length
  case neg =>
    have e1 : g.putE t a = 1 := by unfold Gr.putE; rw [if_neg hA]
    have e2 : g.put t a = g := by unfold Gr.put; rw [e1]; rfl
    rw [e1, e2]
    clear e1 e2
    rcases hT : g.isT t with _ | _
    case false =>
      go_enter Try.func18, Try.ntmps18
      go_wp2_with (go_at_call 38; refine (yIs hg f t).mono ?_; rintro e w1 ⟨rfl, hw⟩; rw [hw, hT]; clear hw w1)
      go_ret
      exact ⟨rfl, hg, YStep.refl _ _⟩
    case true =>
      by_cases h0 : a < 0
      case pos =>
        have hd : decide (a < 0) = true := decide_eq_true h0
        go_enter Try.func18, Try.ntmps18
        go_wp2_with (go_at_call 38; refine (yIs hg f t).mono ?_; rintro e w1 ⟨rfl, hw⟩; rw [hw, hT]; clear hw w1)
        go_ret
        exact ⟨rfl, hg, YStep.refl _ _⟩
      case neg =>
        have hd : decide (a < 0) = false := decide_eq_false h0
        have h1 : (g.os.length : Int) < a := by
          by_cases h : (g.os.length : Int) < a
          · exact h
          · exact absurd ⟨hT, by omega, by omega⟩ hA
        have hd2 : decide ((g.os.length : Int) < a) = true := decide_eq_true h1
        clear hA
        go_enter Try.func18, Try.ntmps18
        go_wp2_with (go_at_call 38; refine (yIs hg f t).mono ?_; rintro e w1 ⟨rfl, hw⟩; rw [hw, hT]; clear hw w1)
        go_ret
        exact ⟨rfl, hg, YStep.refl _ _⟩
  case pos =>
    obtain ⟨hT, ha0, ha1⟩ := hA
    obtain ⟨n, rfl, h⟩ := isT_nat hT
    have c0 := hg.cell0
    have t64 := f.t64
    have h8 := f.rs8 n
    have er : g.rs n = g.ts.getD n [] := rfl
    obtain ⟨d0, d1, d2, d3, d4, d5, d6, d7, d8⟩ := hg.t9 n h
    have e1 : g.putE n a = Rw.pushE (g.ts.getD n []) := by unfold Gr.putE; rw [if_pos ⟨hT, ha0, ha1⟩, er]
    have e2 : g.put n a = g.chg n (Rw.push (g.ts.getD n []) a) (Rw.pushE (g.ts.getD n [])) := by
      unfold Gr.put Gr.chg
      rw [e1, er]
      split
      · next h0 =>
        have : (g.ts.getD n []).length < 8 := by
          unfold Rw.pushE at h0
          split at h0
          · assumption
          · omega
        unfold Rw.push
        rw [if_pos this]
      · rfl
    rw [e1, e2]
    rw [er] at h8
    clear e1 e2 er
    have hd : decide (a < 0) = false := decide_eq_false (by omega)
    have hd2 : decide ((g.os.length : Int) < a) = false := decide_eq_false (by omega)
    generalize hr : g.ts.getD n [] = r at d0 d1 d2 d3 d4 d5 d6 d7 d8 h8 ⊢
    generalize hR : Rw.push r a = R
    generalize hE : Rw.pushE r = E
    by_cases h0 : E = 0
    case neg =>
      have h0' : (E == 0) = false := by simpa using h0
      have e3 : g.chg n R E = g := by simp [Gr.chg, h0]
      rw [e3]
      clear e3 h0
      go_enter Try.func18, Try.ntmps18
      go_wp2_with (first
        | (go_at_call 38; refine (yIs hg f n).mono ?_; rintro e w1 ⟨rfl, hw⟩; rw [hw, hT]; clear hw w1)
        | (go_at_call 39; refine (rPushR r a h8 _).mono ?_; rintro e w1 ⟨rfl, hb⟩; rw [hR, hE]))
      go_ret
      have R1 := bt hb (bal (Below.refl _ _) (.cells #[.int .i64 R.length, .int .i64 (rl R 0), .int .i64 (rl R 1), .int .i64 (rl R 2), .int .i64 (rl R 3), .int .i64 (rl R 4), .int .i64 (rl R 5), .int .i64 (rl R 6), .int .i64 (rl R 7)] 72))
      exact ⟨rfl, hg.below R1, YStep.of_below R1⟩
    case pos =>
      subst h0
      go_enter Try.func18, Try.ntmps18
      go_wp2_with (first
        | (go_at_call 38; refine (yIs hg f n).mono ?_; rintro e w1 ⟨rfl, hw⟩; rw [hw, hT]; clear hw w1)
        | (go_at_call 39; refine (rPushR r a h8 _).mono ?_; rintro e w1 ⟨rfl, hb⟩; rw [hR, hE]; have hgA := (hg.below hb).alloc (.cells #[.int .i64 R.length, .int .i64 (rl R 0), .int .i64 (rl R 1), .int .i64 (rl R 2), .int .i64 (rl R 3), .int .i64 (rl R 4), .int .i64 (rl R 5), .int .i64 (rl R 6), .int .i64 (rl R 7)] 72); have q0 := hgA.cell0; have hff := hgA.tfree; obtain ⟨p0, p1, p2, p3, p4, p5, p6, p7, p8⟩ := hgA.t9 n h; have RR := ychg_end hg hb n h R (.cells #[.int .i64 R.length, .int .i64 (rl R 0), .int .i64 (rl R 1), .int .i64 (rl R 2), .int .i64 (rl R 3), .int .i64 (rl R 4), .int .i64 (rl R 5), .int .i64 (rl R 6), .int .i64 (rl R 7)] 72); rw [hr] at p0 p1 p2 p3 p4 p5 p6 p7 p8; clear hgA))
      go_region
      go_wp2
      go_ret
      exact ⟨rfl, RR⟩
end Go.Proofs.Ytbihdkdefopijaa
