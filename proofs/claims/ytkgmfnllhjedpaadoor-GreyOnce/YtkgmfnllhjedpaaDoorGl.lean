/-
  The laws' own helpers: two memories that are laid, the document's examples.
-/
import Derived.Test.YtkgmfnllhjedpaaDoorG2
namespace Go.Proofs.YtkgmfnllhjedpaaDoor
set_option linter.unusedVariables false
set_option maxRecDepth 100000
open Go.ChangeShapes Go.WideShapes Go.RowKit
open S.Plain (t0 t1 tw nx)
open H.Plain (hw pS pC pN pM pG pT pL)

/-- the first j objects are laid -/
def laidSt : Nat → St
  | 0 => St.new 160
  | j + 1 => (laidSt j).store (96 + 4 * (j : Int)) 17
theorem laid_len : (laidSt 16).ws.length = 160 := by decide +kernel
theorem laid_one : (laidSt 16).word 1 = 0 := by decide +kernel
theorem laid_t : (laidSt 16).t = 0 := by decide +kernel
theorem laid_objs (i : Nat) (h : i < 16) : (laidSt 16).word (96 + 4 * (i : Int)) = 17 :=
  (show ∀ i : Fin 16, (laidSt 16).word (96 + 4 * (i.val : Int)) = 17 by decide +kernel) ⟨i, h⟩
set_option maxHeartbeats 4000000 in
theorem cLaid (w : World) (W : H.Wid w) :
    Calls Tryd.prog 9 #[] w fun e w' => ∃ b y, e = .returned (.tuple #[.pointer (some ⟨b, 0, none⟩), .pointer (some ⟨y, 0, none⟩)]) ∧ Two w w' b y (laidSt 16) (laidSt 16) 32 := by
  have e17 : hw 1 0 1 0 0 0 0 = 17 := by decide
  have hU17 : U64 17 := ⟨by omega, by omega⟩
  go_enter Tryd.func9, Tryd.ntmps9
  go_wp2_with (first
    | (go_at_call 22; refine (hNew _ 160 (by decide) (by decide) (Below.refl _ _) W).mono ?_; rintro e w1 ⟨b, rfl, h1⟩)
    | (go_at_call 29; refine (yNew h1 160 (by decide) (by decide)).mono ?_; rintro e w2 ⟨y, rfl, h2⟩))
  go_loopw [6] (fun i wr => ∃ j : Nat, j ≤ 16 ∧ i = .int .i64 j ∧ Two w wr b y (laidSt j) (laidSt j) (2 * j)) (fun i _ => 16 - (intOf i).toNat)
  case atStart => exact ⟨0, Nat.zero_le _, rfl, h2⟩
  case round =>
    obtain ⟨j, hj, rfl, q1⟩ := hrel
    by_cases hj8 : j < 16
    case pos =>
      obtain ⟨a, ha⟩ : ∃ a : Int, 96 + 4 * (j : Int) = a := ⟨_, rfl⟩
      go_wp2_with (first
        | (go_at_call 23; refine (H.rWord _ _ _ _ _ _ _ _).mono ?_; rintro e w3 ⟨rfl, hw3⟩; rw [e17]; have hb3 : Below wr.heap.size wr w3 := (by rw [hw3]; go_grown); have q2 := q1.below hb3; clear hw3 hb3)
        | (go_at_call 25; refine (tStore q2 (by omega) a hU17).mono ?_; rintro e w4 ⟨rfl, q3, _⟩)
        | (go_at_call 30; refine (yStore q3 (by omega) a hU17).mono ?_; rintro e w5 ⟨rfl, q4, _⟩))
      go_roundw
      case rel => exact ⟨j + 1, by omega, by go_num, (by rw [← ha] at q4; exact q4)⟩
      case measure => simp [intOf]; omega
    case neg =>
      have e : j = 16 := by omega
      subst e
      go_wp2
      go_ret2
      exact ⟨b, y, rfl, q1⟩
end Go.Proofs.YtkgmfnllhjedpaaDoor
