/-
  What the walks of the laws on a head of a list, a phase and a block share.
-/
import Derived.Test.YtodelndbbpgblaaCallsA
import Derived.Deep.RegionHeld3
namespace Go.Proofs.Ytodelndbbpgblaa
open Go.ChangeShapes Go.WideShapes Go.ChangeAt Go.RowKit
open Plain

/-- three things that lie in three blocks, while more blocks come -/
theorem held_on {w : World} {b c d : Nat} {ta tv pn pm pk pl cs cc ct cn : Int} {u v : World} (h : Below w.heap.size w u ∧ b < u.heap.size ∧ c < u.heap.size ∧ d < u.heap.size ∧ u.cell? ⟨b, 0, none⟩ = some (.int .i64 ta) ∧ u.cell? ⟨b, 1, none⟩ = some (.int .i64 tv) ∧ u.cell? ⟨c, 0, none⟩ = some (.int .i64 pn) ∧ u.cell? ⟨c, 1, none⟩ = some (.int .i64 pm) ∧ u.cell? ⟨c, 2, none⟩ = some (.int .i64 pk) ∧ u.cell? ⟨c, 3, none⟩ = some (.int .i64 pl) ∧ u.cell? ⟨d, 0, none⟩ = some (.int .i64 cs) ∧ u.cell? ⟨d, 1, none⟩ = some (.int .i64 cc) ∧ u.cell? ⟨d, 2, none⟩ = some (.int .i64 ct) ∧ u.cell? ⟨d, 3, none⟩ = some (.int .i64 cn)) (hb : Below u.heap.size u v) :
    Below w.heap.size w v ∧ b < v.heap.size ∧ c < v.heap.size ∧ d < v.heap.size ∧ v.cell? ⟨b, 0, none⟩ = some (.int .i64 ta) ∧ v.cell? ⟨b, 1, none⟩ = some (.int .i64 tv) ∧ v.cell? ⟨c, 0, none⟩ = some (.int .i64 pn) ∧ v.cell? ⟨c, 1, none⟩ = some (.int .i64 pm) ∧ v.cell? ⟨c, 2, none⟩ = some (.int .i64 pk) ∧ v.cell? ⟨c, 3, none⟩ = some (.int .i64 pl) ∧ v.cell? ⟨d, 0, none⟩ = some (.int .i64 cs) ∧ v.cell? ⟨d, 1, none⟩ = some (.int .i64 cc) ∧ v.cell? ⟨d, 2, none⟩ = some (.int .i64 ct) ∧ v.cell? ⟨d, 3, none⟩ = some (.int .i64 cn) := by
  obtain ⟨h0, h1, h2, h3, a0, a1, a2, a3, a4, a5, a6, a7, a8, a9⟩ := h
  exact ⟨bt h0 hb, Nat.lt_of_lt_of_le h1 hb.size, Nat.lt_of_lt_of_le h2 hb.size, Nat.lt_of_lt_of_le h3 hb.size, (hb.cell h1).trans a0, (hb.cell h1).trans a1, (hb.cell h2).trans a2, (hb.cell h2).trans a3, (hb.cell h2).trans a4, (hb.cell h2).trans a5, (hb.cell h3).trans a6, (hb.cell h3).trans a7, (hb.cell h3).trans a8, (hb.cell h3).trans a9⟩

/-- the examples, behind the three blocks -/
theorem cShown3 (ta tv pn pm pk pl cs cc ct cn : Int) (w : World) :
    Calls Try.prog 9 #[] (((w.alloc (.cells #[.int .i64 ta, .int .i64 tv] 23)).alloc (.cells #[.int .i64 pn, .int .i64 pm, .int .i64 pk, .int .i64 pl] 25)).alloc (.cells #[.int .i64 cs, .int .i64 cc, .int .i64 ct, .int .i64 cn] 27)) fun e v => e = .returned (.bool true) ∧ Below w.heap.size w v ∧ w.heap.size < v.heap.size ∧ w.heap.size + 1 < v.heap.size ∧ w.heap.size + 1 + 1 < v.heap.size ∧ v.cell? ⟨w.heap.size, 0, none⟩ = some (.int .i64 ta) ∧ v.cell? ⟨w.heap.size, 1, none⟩ = some (.int .i64 tv) ∧ v.cell? ⟨w.heap.size + 1, 0, none⟩ = some (.int .i64 pn) ∧ v.cell? ⟨w.heap.size + 1, 1, none⟩ = some (.int .i64 pm) ∧ v.cell? ⟨w.heap.size + 1, 2, none⟩ = some (.int .i64 pk) ∧ v.cell? ⟨w.heap.size + 1, 3, none⟩ = some (.int .i64 pl) ∧ v.cell? ⟨w.heap.size + 1 + 1, 0, none⟩ = some (.int .i64 cs) ∧ v.cell? ⟨w.heap.size + 1 + 1, 1, none⟩ = some (.int .i64 cc) ∧ v.cell? ⟨w.heap.size + 1 + 1, 2, none⟩ = some (.int .i64 ct) ∧ v.cell? ⟨w.heap.size + 1 + 1, 3, none⟩ = some (.int .i64 cn) :=
  (cShown _).mono fun _ _ ⟨he, hb⟩ => ⟨he, held_on ⟨bal (bal (bal (Below.refl _ _) _) _) _, by simp; omega, by simp, by simp, by simp [go_sem], by simp [go_sem], by simp [go_sem], by simp [go_sem], by simp [go_sem], by simp [go_sem], by simp [go_sem], by simp [go_sem], by simp [go_sem], by simp [go_sem]⟩ hb⟩
end Go.Proofs.Ytodelndbbpgblaa
