/-
  Roots that grow out of a row of numbers: the first k of it.
-/
import Derived.Test.YtmpmpdipbffcdaaDo
import Derived.Test.YtmpmpdipbffcdaaHand
import Derived.Test.YtmpmpdipbffcdaaOpens
namespace Go.Proofs.Ytmpmpdipbffcdaa
set_option linter.unusedVariables false
open Go.ChangeShapes Go.WideShapes Go.ChangeAt Go.RowKit
open Plain

theorem may_cut (z : Nat → Int) (k : Nat) (hk : k ≤ 8) : may k (cut z k) = true := (may_iff _ _).2 ⟨by omega, by omega, fun j _ h => by simp [cut]; omega⟩
theorem cut_at (z : Nat → Int) (k j : Nat) (h : j < k) : cut z k j = z j := by simp [cut, h]
theorem cut_out (z : Nat → Int) (k j : Nat) (h : k ≤ j) : cut z k j = 0 := by simp [cut]; omega
theorem put_cut (z : Nat → Int) (k : Nat) : put (cut z k) k (z k) = cut z ((k : Int) + 1) := by
  funext j
  unfold put cut
  by_cases e : j = k
  · subst e; simp; omega
  · have : ((j : Int) < (k : Int) + 1) ↔ (j : Int) < (k : Int) := by omega
    simp only [e, if_false, this]
/-- a Push of the next number -/
theorem pushNext (z : Nat → Int) (k : Nat) (hk : k < 8) (w : World) :
    Calls Try.prog 10 #[rv k (cut z k), .int .i64 (z k)] w fun e w' => e = .returned (.tuple #[rv ((k : Int) + 1) (cut z ((k : Int) + 1)), .int .i64 0]) ∧ Below w.heap.size w w' := by
  have h := cPushGood k k (cut z k) (z k) hk rfl (may_cut z k (by omega)) w
  rw [put_cut] at h
  exact h
theorem pushFull (z : Nat → Int) (k : Nat) (hk : k = 8) (w : World) :
    Calls Try.prog 10 #[rv k (cut z k), .int .i64 (z k)] w fun e w' => e = .returned (.tuple #[.agg #[.int .i64 0, .int .i64 0, .int .i64 0, .int .i64 0, .int .i64 0, .int .i64 0, .int .i64 0, .int .i64 0, .int .i64 0], .int .i64 13]) ∧ Below w.heap.size w w' :=
  cPushFull k (cut z k) (z k) (may_cut z k (by omega)) (by omega) w
/-- a Drop of the last number -/
theorem dropLast (z : Nat → Int) (k : Nat) (hk : k < 8) (w : World) :
    Calls Try.prog 12 #[rv ((k : Int) + 1) (cut z ((k : Int) + 1))] w fun e w' => e = .returned (.tuple #[rv k (cut z k), .int .i64 0]) ∧ Below w.heap.size w w' := by
  have h := cDropGood ((k : Int) + 1) (cut z ((k : Int) + 1)) (by have := may_cut z (k + 1) (by omega); simpa using this) (by omega) (by omega) w
  have e : rv ((k : Int) + 1 - 1) (cut (cut z ((k : Int) + 1)) ((k : Int) + 1 - 1)) = rv k (cut z k) := by
    rw [show (k : Int) + 1 - 1 = k by omega]
    refine rv_same _ fun j _ => ?_
    unfold cut
    by_cases hj : (j : Int) < k
    · rw [if_pos hj, if_pos hj, if_pos (by omega)]
    · rw [if_neg hj, if_neg hj]
  rw [e] at h
  exact h
/-- a Get of one of them -/
theorem getOne (z : Nat → Int) (n : Int) (k j : Nat) (e : n = k) (hk : k ≤ 8) (hj : j < k) (w : World) :
    Calls Try.prog 14 #[rv n (cut z n), .int .i64 j] w fun e w' => e = .returned (.tuple #[.int .i64 (z j), .int .i64 0]) ∧ Below w.heap.size w w' := by
  subst e
  have h := cGetGood k (cut z k) j (may_cut z k hk) (by omega) (by omega) w
  rw [cut_at z k j hj] at h
  exact h
/-- roots are laid over roots -/
theorem RAt.put9 {u : World} {g : Nat} {n m : Int} {l k : Nat → Int} (h : RAt u g n l) : RAt (((((((((u.setCell ⟨g, 0, none⟩ (.int .i64 m)).setCell ⟨g, 1, none⟩ (.int .i64 (k 0))).setCell ⟨g, 2, none⟩ (.int .i64 (k 1))).setCell ⟨g, 3, none⟩ (.int .i64 (k 2))).setCell ⟨g, 4, none⟩ (.int .i64 (k 3))).setCell ⟨g, 5, none⟩ (.int .i64 (k 4))).setCell ⟨g, 6, none⟩ (.int .i64 (k 5))).setCell ⟨g, 7, none⟩ (.int .i64 (k 6))).setCell ⟨g, 8, none⟩ (.int .i64 (k 7))) g m k := by
  have s := (((((((((h.setN m).set 0 (by decide) (k 0)).set 1 (by decide) (k 1)).set 2 (by decide) (k 2)).set 3 (by decide) (k 3)).set 4 (by decide) (k 4)).set 5 (by decide) (k 5)).set 6 (by decide) (k 6)).set 7 (by decide) (k 7))
  refine RAt.same s fun j hj => ?_
  match j, hj with
  | 0, _ => rfl
  | 1, _ => rfl
  | 2, _ => rfl
  | 3, _ => rfl
  | 4, _ => rfl
  | 5, _ => rfl
  | 6, _ => rfl
  | 7, _ => rfl

theorem cell_other {u : World} (a : Addr) (p : Addr) (x : Value) (hn : a.block ≠ p.block) : (u.setCell p x).cell? a = u.cell? a := World.cell?_of_block (w := u) (heap_setCell_other u p a.block x hn)
/-- a cell of another block stays -/
theorem cell9 {u : World} {g b j : Nat} {m : Int} {k : Nat → Int} {x : Value} (h : u.cell? ⟨b, j, none⟩ = some x) (hn : b ≠ g) : (((((((((u.setCell ⟨g, 0, none⟩ (.int .i64 m)).setCell ⟨g, 1, none⟩ (.int .i64 (k 0))).setCell ⟨g, 2, none⟩ (.int .i64 (k 1))).setCell ⟨g, 3, none⟩ (.int .i64 (k 2))).setCell ⟨g, 4, none⟩ (.int .i64 (k 3))).setCell ⟨g, 5, none⟩ (.int .i64 (k 4))).setCell ⟨g, 6, none⟩ (.int .i64 (k 5))).setCell ⟨g, 7, none⟩ (.int .i64 (k 6))).setCell ⟨g, 8, none⟩ (.int .i64 (k 7))).cell? ⟨b, j, none⟩ = some x := by
  rw [cell_other _ _ _ hn, cell_other _ _ _ hn, cell_other _ _ _ hn, cell_other _ _ _ hn, cell_other _ _ _ hn, cell_other _ _ _ hn, cell_other _ _ _ hn, cell_other _ _ _ hn, cell_other _ _ _ hn]
  exact h
end Go.Proofs.Ytmpmpdipbffcdaa
