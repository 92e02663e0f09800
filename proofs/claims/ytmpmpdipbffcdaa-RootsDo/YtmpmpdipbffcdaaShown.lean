/-
  The document's examples, at the head of all statements.
-/
import Derived.Test.YtmpmpdipbffcdaaCalls2
namespace Go.Proofs.Ytmpmpdipbffcdaa
set_option linter.unusedVariables false
open Go.ChangeShapes Go.WideShapes Go.ChangeAt Go.RowKit
open Plain

theorem shownParts : ∃ R S : Nat → Int, S 1 = 5 ∧
    (∀ w, Calls Try.prog 10 #[.agg #[.int .i64 0, .int .i64 0, .int .i64 0, .int .i64 0, .int .i64 0, .int .i64 0, .int .i64 0, .int .i64 0, .int .i64 0], .int .i64 5] w fun e w' => e = .returned (.tuple #[rv 1 R, .int .i64 0]) ∧ Below w.heap.size w w') ∧
    (∀ i v E w, (i = 0 ∧ v = 5 ∧ E = 0) ∨ (i = 1 ∧ v = 0 ∧ E = 12) → Calls Try.prog 14 #[rv 1 R, .int .i64 i] w fun e w' => e = .returned (.tuple #[.int .i64 v, .int .i64 E]) ∧ Below w.heap.size w w') ∧
    (∀ w, Calls Try.prog 16 #[rv 1 R, .int .i64 0] w fun e w' => e = .returned (.tuple #[rv 2 S, .int .i64 0]) ∧ Below w.heap.size w w') ∧
    (∀ w, Calls Try.prog 12 #[.agg #[.int .i64 0, .int .i64 0, .int .i64 0, .int .i64 0, .int .i64 0, .int .i64 0, .int .i64 0, .int .i64 0, .int .i64 0]] w fun e w' => e = .returned (.tuple #[.agg #[.int .i64 0, .int .i64 0, .int .i64 0, .int .i64 0, .int .i64 0, .int .i64 0, .int .i64 0, .int .i64 0, .int .i64 0], .int .i64 12]) ∧ Below w.heap.size w w') := by
  refine ⟨pushL 0 nil 5, dupL 1 (pushL 0 nil 5) 0, rfl, fun w => ?_, fun i v E w h => ?_, fun w => ?_, fun w => ?_⟩
  · have h := cPush 0 nil 5 w
    rw [show pushN 0 nil = 1 from rfl, show pushE 0 nil = 0 from rfl] at h
    exact h
  · have h1 := cGet 1 (pushL 0 nil 5) i w
    rcases h with ⟨rfl, rfl, rfl⟩ | ⟨rfl, rfl, rfl⟩
    · rw [show getV 1 (pushL 0 nil 5) 0 = 5 from rfl, show getE 1 (pushL 0 nil 5) 0 = 0 from rfl] at h1
      exact h1
    · rw [show getV 1 (pushL 0 nil 5) 1 = 0 from rfl, show getE 1 (pushL 0 nil 5) 1 = 12 from rfl] at h1
      exact h1
  · have h := cDup 1 (pushL 0 nil 5) 0 w
    rw [show dupN 1 (pushL 0 nil 5) 0 = 2 from rfl, show dupE 1 (pushL 0 nil 5) 0 = 0 from rfl] at h
    exact h
  · have h := cDrop 0 nil w
    rw [show dropN 0 nil = 0 from rfl, show dropE 0 nil = 12 from rfl, show dropL 0 nil = nil from rfl] at h
    exact h

set_option maxHeartbeats 800000 in
theorem cShown (w : World) :
    Calls Try.prog 9 #[] w fun e w' => e = .returned (.bool true) ∧ Below w.heap.size w w' := by
  obtain ⟨R, S, hS, hP, hG, hU, hD⟩ := shownParts
  have HS : Hid (S 1 = 5) := hS
  clear hS
  go_enter Try.func9, Try.ntmps9
  go_wp2_with (first
    | (go_at_call 10; refine (hP _).mono ?_; rintro e w1 ⟨rfl, hb1⟩)
    | (go_at_call_of 14 (Value.int .i64 0); refine (hG 0 5 0 _ (.inl ⟨rfl, rfl, rfl⟩)).mono ?_; rintro e w2 ⟨rfl, hb2⟩; have r2 := RAt.on (RAt.new w1 1 R) hb2; obtain ⟨a0, a1, a2, a3, a4, a5, a6, a7, a8⟩ := r2.cells)
    | (go_at_call_of 14 (Value.int .i64 1); refine (hG 1 0 12 _ (.inr ⟨rfl, rfl, rfl⟩)).mono ?_; rintro e w3 ⟨rfl, hb3⟩; have r3 := r2.on hb3; obtain ⟨b0, b1, b2, b3, b4, b5, b6, b7, b8⟩ := r3.cells)
    | (go_at_call 16; refine (hU _).mono ?_; rintro e w4 ⟨rfl, hb4⟩; have r4 := r3.on hb4)
    | (go_at_call 12; refine (hD _).mono ?_; rintro e w5 ⟨rfl, hb5⟩; have r5 := RAt.on (RAt.alloc r4 _) hb5; have s5 := RAt.on (RAt.new w4 2 S) hb5; obtain ⟨c0, c1, c2, c3, c4, c5, c6, c7, c8⟩ := r5.cells; obtain ⟨d0, d1, d2, d3, d4, d5, d6, d7, d8⟩ := s5.cells; have z1 := r5.lt; have z2 := s5.lt; rw [HS.out] at d2))
  go_ret
  exact ⟨rfl, bal (bt (bal (bt (bt (bt (bal hb1 _) hb2) hb3) hb4) _) hb5) _⟩
end Go.Proofs.Ytmpmpdipbffcdaa
