/-
  What the walks of layer 2's laws share.
-/
import Derived.Test.YtikedddeafjnnaaDoorCalls2
import Derived.Deep.RegionHeld3
namespace Go.Proofs.YtikedddeafjnnaaDoor
open Go.ChangeShapes Go.WideShapes Go.ChangeAt Go.RowKit
open Plain

/-- behind a new block nothing that was there has turned -/
theorem bal {a w : World} (h : Below a.heap.size a w) (o : Obj) : Below a.heap.size a (w.alloc o) := h.alloc h.size o
theorem bdr {a w : World} (h : Below a.heap.size a w) (n : Nat) : Below a.heap.size a (w.drewN n) := by
  induction n with
  | zero => exact h
  | succ n ih => exact ih.drew

/-- a header that lies in one block, while more blocks come -/
theorem held_on {w : World} {b : Nat} {s c n m g t l : Int} {u v : World} (h : Below w.heap.size w u ∧ b < u.heap.size ∧ u.cell? ⟨b, 0, none⟩ = some (.int .i64 s) ∧ u.cell? ⟨b, 1, none⟩ = some (.int .i64 c) ∧ u.cell? ⟨b, 2, none⟩ = some (.int .i64 n) ∧ u.cell? ⟨b, 3, none⟩ = some (.int .i64 m) ∧ u.cell? ⟨b, 4, none⟩ = some (.int .i64 g) ∧ u.cell? ⟨b, 5, none⟩ = some (.int .i64 t) ∧ u.cell? ⟨b, 6, none⟩ = some (.int .i64 l)) (hb : Below u.heap.size u v) :
    Below w.heap.size w v ∧ b < v.heap.size ∧ v.cell? ⟨b, 0, none⟩ = some (.int .i64 s) ∧ v.cell? ⟨b, 1, none⟩ = some (.int .i64 c) ∧ v.cell? ⟨b, 2, none⟩ = some (.int .i64 n) ∧ v.cell? ⟨b, 3, none⟩ = some (.int .i64 m) ∧ v.cell? ⟨b, 4, none⟩ = some (.int .i64 g) ∧ v.cell? ⟨b, 5, none⟩ = some (.int .i64 t) ∧ v.cell? ⟨b, 6, none⟩ = some (.int .i64 l) := by
  obtain ⟨h0, h1, a0, a1, a2, a3, a4, a5, a6⟩ := h
  exact ⟨h0.trans (hb.mono h0.size), Nat.lt_of_lt_of_le h1 hb.size, (hb.cell h1).trans a0, (hb.cell h1).trans a1, (hb.cell h1).trans a2, (hb.cell h1).trans a3, (hb.cell h1).trans a4, (hb.cell h1).trans a5, (hb.cell h1).trans a6⟩

/-- the examples, behind a header's own block -/
theorem cShown1 (s c n m g t l : Int) (w : World) (W : Wid w) :
    Calls Tryd.prog 9 #[] (w.alloc (.cells #[.int .i64 s, .int .i64 c, .int .i64 n, .int .i64 m, .int .i64 g, .int .i64 t, .int .i64 l] 23)) fun e v => e = .returned (.bool true) ∧ Below w.heap.size w v ∧ w.heap.size < v.heap.size ∧ v.cell? ⟨w.heap.size, 0, none⟩ = some (.int .i64 s) ∧ v.cell? ⟨w.heap.size, 1, none⟩ = some (.int .i64 c) ∧ v.cell? ⟨w.heap.size, 2, none⟩ = some (.int .i64 n) ∧ v.cell? ⟨w.heap.size, 3, none⟩ = some (.int .i64 m) ∧ v.cell? ⟨w.heap.size, 4, none⟩ = some (.int .i64 g) ∧ v.cell? ⟨w.heap.size, 5, none⟩ = some (.int .i64 t) ∧ v.cell? ⟨w.heap.size, 6, none⟩ = some (.int .i64 l) :=
  (cShown _ (W.on (bal (Below.refl _ _) _))).mono fun _ _ ⟨he, hb⟩ => ⟨he, held_on ⟨bal (Below.refl _ _) _, by simp, by simp [go_sem], by simp [go_sem], by simp [go_sem], by simp [go_sem], by simp [go_sem], by simp [go_sem], by simp [go_sem]⟩ hb⟩

theorem gWord (s c n m g t l : Int) (w : World) (W : Wid w) :
    Calls Tryd.prog 10 #[.agg #[.int .i64 s, .int .i64 c, .int .i64 n, .int .i64 m, .int .i64 g, .int .i64 t, .int .i64 l]] w fun e w' => e = .returned (.int .u64 (hw s c n m g t l)) ∧ Below w.heap.size w w' :=
  (cWord s c n m g t l w W).mono fun _ _ ⟨he, _, hw⟩ => ⟨he, hw ▸ bal (bal (Below.refl _ _) _) _⟩
theorem gOf (a : Int) (h : 0 ≤ a) (h' : a ≤ 18446744073709551615) (w : World) (W : Wid w) :
    Calls Tryd.prog 12 #[.int .u64 a] w fun e w' => e = .returned (.agg #[.int .i64 (pS a), .int .i64 (pC a), .int .i64 (pN a), .int .i64 (pM a), .int .i64 (pG a), .int .i64 (pT a), .int .i64 (pL a)]) ∧ Below w.heap.size w w' :=
  (cOf a h h' w W).mono fun _ _ ⟨he, hw⟩ => ⟨he, hw ▸ bal (bal (bal (bal (Below.refl _ _) _) _) _) _⟩
end Go.Proofs.YtikedddeafjnnaaDoor
