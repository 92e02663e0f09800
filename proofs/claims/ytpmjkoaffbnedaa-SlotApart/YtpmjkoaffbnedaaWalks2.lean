/-
  The walks of the laws of layer 1 that take what a field has: each returns true, and writes nothing that was there.
-/
import Derived.Test.YtpmjkoaffbnedaaCalls
import Derived.Deep.RegionHeld3
namespace Go.Proofs.Ytpmjkoaffbnedaa
open Go.ChangeShapes Go.WideShapes Go.ChangeAt Go.RowKit
open Plain

/-- of old memory all cells read as they did -/
theorem bcell {W w1 : World} (hb : Below W.heap.size W w1) : ∀ b o, b < W.heap.size → w1.cell? ⟨b, o, none⟩ = W.cell? ⟨b, o, none⟩ :=
  fun _ _ h => hb.cell h

theorem gWord (k n : Int) (w : World) :
    Calls Try.prog 10 #[.agg #[.int .i64 k, .int .i64 n]] w fun e w' => e = .returned (.int .u64 (word k n)) ∧ Below w.heap.size w w' :=
  (cWord k n w).mono fun _ _ ⟨he, hw⟩ => ⟨he, hw ▸ bal (Below.refl _ _) _⟩
theorem gOf (a : Int) (h : 0 ≤ a) (h' : a ≤ 18446744073709551615) (w : World) :
    Calls Try.prog 12 #[.int .u64 a] w fun e w' => e = .returned (.agg #[.int .i64 (kind a), .int .i64 (num a)]) ∧ Below w.heap.size w w' :=
  (cOf a h h' w).mono fun _ _ ⟨he, hw⟩ => ⟨he, hw ▸ bal (Below.refl _ _) _⟩
theorem gFrozen (a : Int) (h : 0 ≤ a) (h' : a ≤ 18446744073709551615) (w : World) :
    Calls Try.prog 14 #[.int .u64 a] w fun e w' => e = .returned (.bool (froz a)) ∧ Below w.heap.size w w' :=
  (cFrozen a h h' w).mono fun _ _ ⟨he, hw⟩ => ⟨he, hw ▸ Below.refl _ _⟩
theorem hWord (k n : Int) (w : World) :
    Calls Try.prog 11 #[.agg #[.int .i64 k, .int .i64 n]] w fun e w' => e = .returned (.int .u64 (word k n)) ∧ Below w.heap.size w w' :=
  (rWord k n w).mono fun _ _ ⟨he, m, hw⟩ => ⟨he, hw ▸ bdr (bal (Below.refl _ _) _) m⟩

/-- a Val that lies in the first new block, while more blocks come -/
def Held (w : World) (b : Nat) (k n : Int) (w' : World) : Prop :=
  Below w.heap.size w w' ∧ b < w'.heap.size ∧ w'.cell? ⟨b, 0, none⟩ = some (.int .i64 k) ∧ w'.cell? ⟨b, 1, none⟩ = some (.int .i64 n)
theorem held_on {w : World} {b : Nat} {k n : Int} {u v : World} (h : Below w.heap.size w u ∧ b < u.heap.size ∧ u.cell? ⟨b, 0, none⟩ = some (.int .i64 k) ∧ u.cell? ⟨b, 1, none⟩ = some (.int .i64 n)) (hb : Below u.heap.size u v) :
    Below w.heap.size w v ∧ b < v.heap.size ∧ v.cell? ⟨b, 0, none⟩ = some (.int .i64 k) ∧ v.cell? ⟨b, 1, none⟩ = some (.int .i64 n) :=
  ⟨h.1.trans (hb.mono h.1.size), Nat.lt_of_lt_of_le h.2.1 hb.size, (hb.cell h.2.1).trans h.2.2.1, (hb.cell h.2.1).trans h.2.2.2⟩

theorem wPacks (k n : Int) (w : World) :
    Calls Try.prog 3 #[.agg #[.int .i64 k, .int .i64 n]] w fun e w' => e = .returned (.bool true) ∧ Below w.heap.size w w' := by
  go_enter Try.func3, Try.ntmps3
  go_wp2_with (go_at_call 9; refine (cShown _).mono ?_; rintro e w1 ⟨rfl, hb⟩)
  have hH : Below w.heap.size w w1 ∧ w.heap.size < w1.heap.size ∧ w1.cell? ⟨w.heap.size, 0, none⟩ = some (.int .i64 k) ∧ w1.cell? ⟨w.heap.size, 1, none⟩ = some (.int .i64 n) :=
    held_on (u := w.alloc (.cells #[.int .i64 k, .int .i64 n] 23)) ⟨bal (Below.refl _ _) _, by simp, by simp [go_sem], by simp [go_sem]⟩ hb
  clear hb
  have hD : Below w.heap.size w w1.drew ∧ w.heap.size < w1.drew.heap.size ∧ w1.drew.cell? ⟨w.heap.size, 0, none⟩ = some (.int .i64 k) ∧ w1.drew.cell? ⟨w.heap.size, 1, none⟩ = some (.int .i64 n) := ⟨hH.1.drew, hH.2⟩
  go_region_held3 (fun w' => Below w.heap.size w w' ∧ w.heap.size < w'.heap.size ∧ w'.cell? ⟨w.heap.size, 0, none⟩ = some (.int .i64 k) ∧ w'.cell? ⟨w.heap.size, 1, none⟩ = some (.int .i64 n)) (first | assumption | exact held_on (by assumption) (by assumption))
    (first
      | (go_at_call 10; refine (gWord k n _).mono ?_; rintro e w' ⟨rfl, hb⟩)
      | (go_at_call 11; refine (hWord k n _).mono ?_; rintro e w' ⟨rfl, hb⟩))
  go_wp2
  go_ret
  exact ⟨rfl, by rename_i h; exact h.1⟩

theorem wBack (k n : Int) (w : World) :
    Calls Try.prog 6 #[.agg #[.int .i64 k, .int .i64 n]] w fun e w' => e = .returned (.bool true) ∧ Below w.heap.size w w' := by
  have ways : k < 0 ∨ (0 ≤ k ∧ 3 < k) ∨ (0 ≤ k ∧ k ≤ 3 ∧ n < 0) ∨ (0 ≤ k ∧ k ≤ 3 ∧ 0 ≤ n ∧ 2305843009213693952 ≤ n) ∨ (0 ≤ k ∧ k ≤ 3 ∧ 0 ≤ n ∧ n < 2305843009213693952) := by omega
  rcases ways with g1 | ⟨g1, g2⟩ | ⟨g1, g2, g3⟩ | ⟨g1, g2, g3, g4⟩ | ⟨g1, g2, g3, g4⟩
  case inr.inr.inr.inr =>
    have b0 : 0 ≤ word k n := by unfold word; omega
    have b1 : word k n ≤ 18446744073709551615 := by unfold word; omega
    have e1 : kind (word k n) = k := by unfold kind word; omega
    have e2 : num (word k n) = n := by unfold num word; omega
    have e3 : froz (word k n) = false := by unfold froz word; simp; omega
    go_enter Try.func6, Try.ntmps6
    go_wp2_with (go_at_call 9; refine (cShown _).mono ?_; rintro e w1 ⟨rfl, hb⟩; have hH := held_on (w := w) (b := w.heap.size) (k := k) (n := n) (u := w.alloc (.cells #[.int .i64 k, .int .i64 n] 23)) ⟨bal (Below.refl _ _) _, by simp, by simp [go_sem], by simp [go_sem]⟩ hb; clear hb; obtain ⟨hH1, hH2, hH3, hH4⟩ := hH)
    have hD : Below w.heap.size w w1.drew ∧ w.heap.size < w1.drew.heap.size ∧ w1.drew.cell? ⟨w.heap.size, 0, none⟩ = some (.int .i64 k) ∧ w1.drew.cell? ⟨w.heap.size, 1, none⟩ = some (.int .i64 n) := ⟨hH1.drew, hH2, hH3, hH4⟩
    go_region_held3 (fun w' => Below w.heap.size w w' ∧ w.heap.size < w'.heap.size ∧ w'.cell? ⟨w.heap.size, 0, none⟩ = some (.int .i64 k) ∧ w'.cell? ⟨w.heap.size, 1, none⟩ = some (.int .i64 n)) (first | assumption | exact ⟨hH1, hH2, hH3, hH4⟩ | exact held_on (by assumption) (by assumption))
      (first
        | (go_at_call 10; refine (gWord k n _).mono ?_; rintro e w' ⟨rfl, hb⟩)
        | (go_at_call 12; refine (gOf _ b0 b1 _).mono ?_; rintro e w' ⟨rfl, hb⟩)
        | (go_at_call 14; refine (gFrozen _ b0 b1 _).mono ?_; rintro e w' ⟨rfl, hb⟩))
    all_goals go_wp2
    all_goals go_ret
    all_goals exact ⟨rfl, by rename_i h; exact h.1⟩
  all_goals
    go_enter Try.func6, Try.ntmps6
    go_wp2_with (go_at_call 9; refine (cShown _).mono ?_; rintro e w1 ⟨rfl, hb⟩; have hH := held_on (w := w) (b := w.heap.size) (k := k) (n := n) (u := w.alloc (.cells #[.int .i64 k, .int .i64 n] 23)) ⟨bal (Below.refl _ _) _, by simp, by simp [go_sem], by simp [go_sem]⟩ hb; clear hb; obtain ⟨hH1, hH2, hH3, hH4⟩ := hH)
    go_ret
    exact ⟨rfl, hH1⟩
end Go.Proofs.Ytpmjkoaffbnedaa
