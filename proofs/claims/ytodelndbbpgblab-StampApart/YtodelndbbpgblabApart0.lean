/-
  Cells that lie in old blocks, while more blocks come.
-/
import Derived.Test.YtodelndbbpgblabCalls
namespace Go.Proofs.Ytodelndbbpgblab
open Go.ChangeShapes Go.WideShapes Go.ChangeAt Go.RowKit
open Plain

/-- these cells lie there -/
def Kept (w : World) (L : List (Nat × Nat × Int)) : Prop := ∀ x ∈ L, x.1 < w.heap.size ∧ w.cell? ⟨x.1, x.2.1, none⟩ = some (.int .i64 x.2.2)
theorem Kept.on {u v : World} {L : List (Nat × Nat × Int)} (h : Kept u L) (hb : Below u.heap.size u v) : Kept v L :=
  fun x hx => ⟨Nat.lt_of_lt_of_le (h x hx).1 hb.size, (hb.cell (h x hx).1).trans (h x hx).2⟩
theorem Kept.alloc {u : World} {L : List (Nat × Nat × Int)} (h : Kept u L) (o : Obj) : Kept (u.alloc o) L := h.on (bal (Below.refl _ _) o)
theorem Kept.nil (u : World) : Kept u [] := fun _ h => by cases h
theorem Kept.cons {u : World} {L : List (Nat × Nat × Int)} (h : Kept u L) (b i : Nat) (k : Int) (hb : b < u.heap.size) (hc : u.cell? ⟨b, i, none⟩ = some (.int .i64 k)) : Kept u ((b, i, k) :: L) := by
  intro x hx
  rcases List.mem_cons.1 hx with rfl | hx
  · exact ⟨hb, hc⟩
  · exact h x hx
theorem Kept.two {u : World} {L : List (Nat × Nat × Int)} (h : Kept u L) (x y : Int) (t : TypeId) : Kept (u.alloc (.cells #[.int .i64 x, .int .i64 y] t)) ((u.heap.size, 0, x) :: (u.heap.size, 1, y) :: L) :=
  ((h.alloc _).cons _ _ _ (by simp) (by simp [go_sem])).cons _ _ _ (by simp) (by simp [go_sem])
theorem Kept.four {u : World} {L : List (Nat × Nat × Int)} (h : Kept u L) (x y z k : Int) (t : TypeId) : Kept (u.alloc (.cells #[.int .i64 x, .int .i64 y, .int .i64 z, .int .i64 k] t)) ((u.heap.size, 0, x) :: (u.heap.size, 1, y) :: (u.heap.size, 2, z) :: (u.heap.size, 3, k) :: L) :=
  ((((h.alloc _).cons _ _ _ (by simp) (by simp [go_sem])).cons _ _ _ (by simp) (by simp [go_sem])).cons _ _ _ (by simp) (by simp [go_sem])).cons _ _ _ (by simp) (by simp [go_sem])
/-- two heads and two phases that lie in four blocks, while more blocks come -/
theorem held_on {w : World} {bx bY bu bv : Nat} {x0 x1 y0 y1 u0 u1 u2 u3 v0 v1 v2 v3 : Int} {k k' : World} (h : Below w.heap.size w k ∧ bx < k.heap.size ∧ bY < k.heap.size ∧ bu < k.heap.size ∧ bv < k.heap.size ∧ k.cell? ⟨bx, 0, none⟩ = some (.int .i64 x0) ∧ k.cell? ⟨bx, 1, none⟩ = some (.int .i64 x1) ∧ k.cell? ⟨bY, 0, none⟩ = some (.int .i64 y0) ∧ k.cell? ⟨bY, 1, none⟩ = some (.int .i64 y1) ∧ k.cell? ⟨bu, 0, none⟩ = some (.int .i64 u0) ∧ k.cell? ⟨bu, 1, none⟩ = some (.int .i64 u1) ∧ k.cell? ⟨bu, 2, none⟩ = some (.int .i64 u2) ∧ k.cell? ⟨bu, 3, none⟩ = some (.int .i64 u3) ∧ k.cell? ⟨bv, 0, none⟩ = some (.int .i64 v0) ∧ k.cell? ⟨bv, 1, none⟩ = some (.int .i64 v1) ∧ k.cell? ⟨bv, 2, none⟩ = some (.int .i64 v2) ∧ k.cell? ⟨bv, 3, none⟩ = some (.int .i64 v3)) (hb : Below k.heap.size k k') :
    Below w.heap.size w k' ∧ bx < k'.heap.size ∧ bY < k'.heap.size ∧ bu < k'.heap.size ∧ bv < k'.heap.size ∧ k'.cell? ⟨bx, 0, none⟩ = some (.int .i64 x0) ∧ k'.cell? ⟨bx, 1, none⟩ = some (.int .i64 x1) ∧ k'.cell? ⟨bY, 0, none⟩ = some (.int .i64 y0) ∧ k'.cell? ⟨bY, 1, none⟩ = some (.int .i64 y1) ∧ k'.cell? ⟨bu, 0, none⟩ = some (.int .i64 u0) ∧ k'.cell? ⟨bu, 1, none⟩ = some (.int .i64 u1) ∧ k'.cell? ⟨bu, 2, none⟩ = some (.int .i64 u2) ∧ k'.cell? ⟨bu, 3, none⟩ = some (.int .i64 u3) ∧ k'.cell? ⟨bv, 0, none⟩ = some (.int .i64 v0) ∧ k'.cell? ⟨bv, 1, none⟩ = some (.int .i64 v1) ∧ k'.cell? ⟨bv, 2, none⟩ = some (.int .i64 v2) ∧ k'.cell? ⟨bv, 3, none⟩ = some (.int .i64 v3) := by
  obtain ⟨h0, lbx, lbY, lbu, lbv, c0, c1, c2, c3, c4, c5, c6, c7, c8, c9, c10, c11⟩ := h
  exact ⟨bt h0 hb, Nat.lt_of_lt_of_le lbx hb.size, Nat.lt_of_lt_of_le lbY hb.size, Nat.lt_of_lt_of_le lbu hb.size, Nat.lt_of_lt_of_le lbv hb.size, (hb.cell lbx).trans c0, (hb.cell lbx).trans c1, (hb.cell lbY).trans c2, (hb.cell lbY).trans c3, (hb.cell lbu).trans c4, (hb.cell lbu).trans c5, (hb.cell lbu).trans c6, (hb.cell lbu).trans c7, (hb.cell lbv).trans c8, (hb.cell lbv).trans c9, (hb.cell lbv).trans c10, (hb.cell lbv).trans c11⟩
end Go.Proofs.Ytodelndbbpgblab
