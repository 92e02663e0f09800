/-
  The words of a head that is replaced again and again: no two of the first 41 are the same. And a row of the call's own, while more blocks come.
-/
import Derived.Test.YtodelndbbpgblaaCalls
namespace Go.Proofs.Ytodelndbbpgblaa
open Go.RowKit
open Plain

/-- the words, one after the other -/
def sq (a : Int) (z : Nat → Int) : Nat → Int
  | 0 => a
  | k + 1 => nx (sq a z k) (z k)
/-- the first k + 1 of them, as cells -/
def row (a : Int) (z : Nat → Int) (k : Nat) : List Value := (List.range (k + 1)).map fun j => .int .u64 (sq a z j)

theorem sq_bounds {a : Int} (h : 0 ≤ a) (h' : a ≤ 18446744073709551615) (z : Nat → Int) (k : Nat) : 0 ≤ sq a z k ∧ sq a z k ≤ 18446744073709551615 := by
  cases k with
  | zero => exact ⟨h, h'⟩
  | succ k => exact ⟨nx_pos _ _, nx_le _ _⟩
theorem t1_nx (a x : Int) : t1 (nx a x) = (t1 a + 1) % 1099511627776 := by unfold nx; rw [t1_tw]
theorem t1_sq (a : Int) (z : Nat → Int) (k : Nat) : t1 (sq a z k) = (t1 a + k) % 1099511627776 := by
  induction k with
  | zero => have := t1_bounds a; show t1 a = _; omega
  | succ k ih => show t1 (nx _ _) = _; rw [t1_nx, ih]; omega
theorem sq_apart (a : Int) (z : Nat → Int) (j k : Nat) (hj : j < k) (hk : k ≤ 41) : (sq a z j == sq a z k) = false := by
  simp only [beq_eq_false_iff_ne, ne_eq]
  intro e
  have e' : t1 (sq a z j) = t1 (sq a z k) := by rw [e]
  rw [t1_sq, t1_sq] at e'
  have := t1_bounds a
  omega
theorem next_ver (a x : Int) : (t1 a + 1).tmod 1099511627776 = t1 (nx a x) := by
  have := t1_bounds a
  rw [t1_nx, Int.tmod_eq_emod_of_nonneg (by omega)]

theorem row_len (a : Int) (z : Nat → Int) (k : Nat) : (row a z k).length = k + 1 := by simp [row]
theorem row_succ (a : Int) (z : Nat → Int) (k : Nat) : row a z (k + 1) = row a z k ++ [.int .u64 (nx (sq a z k) (z k))] := by
  unfold row
  rw [List.range_succ (n := k + 1), List.map_append]
  rfl
theorem row_at (a : Int) (z : Nat → Int) (k j : Nat) (h : j < k + 1) : (row a z k)[j]? = some (.int .u64 (sq a z j)) := by
  simp [row, h]

/-- a row of the call's own, while more blocks come -/
theorem own_on {u v : World} {base : Nat} {e : TypeId} {size : Nat} {x : Value} {n : Nat} {xs : List Value} (h : u.ownsRow base e size x n xs) (hb : Below u.heap.size u v) : v.ownsRow base e size x n xs := by
  refine ⟨h.1, ?_⟩
  rcases h.2 with hn | ⟨g, cap, cur, rfl, h1, h2, r⟩
  · exact .inl hn
  · exact .inr ⟨g, cap, cur, rfl, h1, (hb.block g (Array.getElem?_eq_some_iff.1 h2).1).trans h2, r⟩
/-- its shape and its cells -/
theorem own_open {u : World} {base : Nat} {e : TypeId} {x : Value} {a : Int} {z : Nat → Int} {k : Nat} (h : u.ownsRow base e 1 x (k + 1) (row a z k)) :
    ∃ g cap, x = .slice (some ⟨g, 0, none⟩) (k + 1) cap ∧ base ≤ g ∧ g < u.heap.size ∧ ∀ j, j < k + 1 → u.cell? ⟨g, j, none⟩ = some (.int .u64 (sq a z j)) := by
  have h0 := h
  rcases h.2 with ⟨_, h2⟩ | ⟨g, cap, cur, rfl, h1, h2, r⟩
  · omega
  · refine ⟨g, cap, rfl, h1, (Array.getElem?_eq_some_iff.1 h2).1, fun j hj => ?_⟩
    have := h0.cells (g := g) rfl j _ (row_at a z k j hj)
    rwa [show (⟨g, 0, none⟩ : Addr).add j = ⟨g, j, none⟩ by simp [Addr.add]; exact fun h => h.symm] at this
/-- the first row: one cell -/
theorem own_first (u : World) (base : Nat) (a : Int) (z : Nat → Int) (e : TypeId) (hb : base ≤ u.heap.size) : (u.alloc (.cells #[.int .u64 a] e)).ownsRow base e 1 (.slice (some ⟨u.heap.size, 0, none⟩) 1 1) 1 (row a z 0) :=
  ⟨by simp [row], .inr ⟨u.heap.size, 1, #[.int .u64 a], rfl, hb, heap_alloc_new u _, Nat.le_refl _, by decide, by simp, by simp [row, sq]⟩⟩
end Go.Proofs.Ytodelndbbpgblaa
