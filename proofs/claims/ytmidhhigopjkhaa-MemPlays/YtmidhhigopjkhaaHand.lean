/-
  What the laws have in hand: lists of calls, a call, eight words.
-/
import Derived.Test.YtmidhhigopjkhaaShown
namespace Go.Proofs.Ytmidhhigopjkhaa
set_option linter.unusedVariables false
open Go.ChangeShapes Go.WideShapes Go.RowKit

/-- a call, as the laws' lists have it -/
structure Op6 where
  k : Int
  a : Int
  x : Int
  x1 : Int
  y : Int
  y1 : Int
/-- its numbers fit their kinds -/
structure Op6.Fit (z : Op6) : Prop where
  k0 : -9223372036854775808 ≤ z.k
  k1 : z.k ≤ 9223372036854775807
  a0 : -9223372036854775808 ≤ z.a
  a1 : z.a ≤ 9223372036854775807
/-- a list of calls that came in -/
structure Ops (w : World) (b off len : Nat) (z : Nat → Op6) : Prop where
  lt : b < w.heap.size
  fit : ∀ j, j < len → (z j).Fit
  c0 : ∀ j, j < len → w.cell? ⟨b, off + j * 6, none⟩ = some (.int .i64 (z j).k)
  c1 : ∀ j, j < len → w.cell? ⟨b, off + j * 6 + 1, none⟩ = some (.int .i64 (z j).a)
  c2 : ∀ j, j < len → w.cell? ⟨b, off + j * 6 + 2, none⟩ = some (.int .u64 (z j).x)
  c3 : ∀ j, j < len → w.cell? ⟨b, off + j * 6 + 3, none⟩ = some (.int .u64 (z j).x1)
  c4 : ∀ j, j < len → w.cell? ⟨b, off + j * 6 + 4, none⟩ = some (.int .u64 (z j).y)
  c5 : ∀ j, j < len → w.cell? ⟨b, off + j * 6 + 5, none⟩ = some (.int .u64 (z j).y1)
theorem Ops.on {w w' : World} {b off len : Nat} {z : Nat → Op6} (h : Ops w b off len z) (k : Below w.heap.size w w') : Ops w' b off len z :=
  ⟨Nat.lt_of_lt_of_le h.lt k.size, h.fit, fun j hj => (k.cell h.lt).trans (h.c0 j hj), fun j hj => (k.cell h.lt).trans (h.c1 j hj), fun j hj => (k.cell h.lt).trans (h.c2 j hj), fun j hj => (k.cell h.lt).trans (h.c3 j hj), fun j hj => (k.cell h.lt).trans (h.c4 j hj), fun j hj => (k.cell h.lt).trans (h.c5 j hj)⟩

/-- a list's cells as an array of eight words -/
def arr (s : St) : Array Value := (wds s.ws).toArray
theorem arr_cell {w : World} {wb j : Nat} {s : St} {T : TypeId} (h : w.heap[wb]? = some (.cells (arr s) T (0, 0))) (hj : j < s.ws.length) : w.cell? ⟨wb, j, none⟩ = some (.int .u64 (s.got j)) := by
  rw [cell_of_row w _ _ _ _ _ h]
  have : s.is1 j = true := by simp [St.is1]; omega
  simp [arr, wds_at _ _ hj, St.got, this, St.word]
theorem arr_set {w : World} {wb j : Nat} {s : St} {x : Int} {T : TypeId} (h : w.heap[wb]? = some (.cells (arr s) T (0, 0))) : (w.setCell ⟨wb, j, none⟩ (.int .u64 x)).heap[wb]? = some (.cells (arr (s.put j x)) T (0, 0)) := by
  rw [heap_setCell_same w wb j _ _ _ h]
  simp [arr, St.put, wds_set]

/-- a call in a block of its own -/
def opv (q : Op6) : Array Value := #[.int .i64 q.k, .int .i64 q.a, .int .u64 q.x, .int .u64 q.x1, .int .u64 q.y, .int .u64 q.y1]
theorem opv_cells {w : World} {ob : Nat} {q : Op6} (h : w.heap[ob]? = some (.cells (opv q) 33 (0, 0))) :
    w.cell? ⟨ob, 0, none⟩ = some (.int .i64 q.k) ∧ w.cell? ⟨ob, 1, none⟩ = some (.int .i64 q.a) ∧ w.cell? ⟨ob, 2, none⟩ = some (.int .u64 q.x) ∧ w.cell? ⟨ob, 3, none⟩ = some (.int .u64 q.x1) ∧ w.cell? ⟨ob, 4, none⟩ = some (.int .u64 q.y) ∧ w.cell? ⟨ob, 5, none⟩ = some (.int .u64 q.y1) := by
  refine ⟨?_, ?_, ?_, ?_, ?_, ?_⟩ <;> (rw [cell_of_row w _ _ _ _ _ h]; rfl)
theorem Own.mono {w0 w : World} {b N N' : Nat} {s : St} (h : Own w0 w b s N) (hN : N ≤ N') : Own w0 w b s N' := ⟨h.at_, h.bel, h.fit, by have := h.top; omega⟩
theorem is1_of {s : St} {n a : Nat} (h : s.ws.length = n) (ha : a < n) : s.is1 a = true := by simp [St.is1]; omega
theorem t_load {s : St} {a : Int} (h : s.is1 a = true) : (s.load a).t = s.t := by simp [St.load, St.tell, h]
theorem t_store {s : St} {a x : Int} (h : s.is1 a = true) : (s.store a x).t = s.t := by simp [St.store, St.tell, h, St.put]
theorem t_cas {s : St} {a o x : Int} (h : s.is1 a = true) : (s.cas a o x).t = s.t := by unfold St.cas; split <;> simp [St.tell, h, St.put]
theorem t_cas2 {s : St} {a o0 o1 x0 x1 : Int} (h : s.is2 a = true) : (s.cas2 a o0 o1 x0 x1).t = s.t := by unfold St.cas2; split <;> simp [St.tell, h, St.put]
theorem arr_store {s : St} {a x : Int} (h : s.is1 a = true) : arr (s.store a x) = arr (s.put a x) := by simp [arr, St.store, St.tell, h]
theorem arr_cas {s : St} {a o x : Int} (h : s.ok1 a o = true) : arr (s.cas a o x) = arr (s.put a x) := by simp [arr, St.cas, St.tell, h]
theorem arr_cas' {s : St} {a o x : Int} (h : s.ok1 a o = false) : arr (s.cas a o x) = arr s := by simp [arr, St.cas, St.tell, h]
theorem arr_cas2 {s : St} {a o0 o1 x0 x1 : Int} (h : s.ok2 a o0 o1 = true) : arr (s.cas2 a o0 o1 x0 x1) = arr ((s.put a x0).put (a + 1) x1) := by simp [arr, St.cas2, St.tell, h]
theorem arr_cas2' {s : St} {a o0 o1 x0 x1 : Int} (h : s.ok2 a o0 o1 = false) : arr (s.cas2 a o0 o1 x0 x1) = arr s := by simp [arr, St.cas2, St.tell, h]
theorem ok1_got {s : St} {a o : Int} (h : s.is1 a = true) : s.ok1 a o = (s.got a == o) := by simp [St.ok1, St.got, h]

theorem ok2_got {s : St} {a : Nat} {o p : Int} (h : s.is2 a = true) : s.ok2 a o p = (s.got a == o && s.got ((a : Int) + 1) == p) := by
  have h1 : s.is1 a = true := by simp [St.is2] at h; simp [St.is1]; omega
  have h2 : s.is1 ((a : Int) + 1) = true := by simp [St.is2] at h; simp [St.is1]; omega
  simp [St.ok2, St.got, h, h1, h2]
/-- the first call of a round: what a law has in hand then -/
theorem kHand {w wo : World} {mb wb N : Nat} {s : St} {q : Op6} {n : Int} (ho : Own w wo mb s N) (c : Int) (hc : -9223372036854775808 ≤ c) (hc' : c ≤ 9223372036854775807) (hn : 0 < n) {cs : Array Value} {T : TypeId} (hw : wo.heap[wb]? = some (.cells cs T (0, 0))) :
    Calls Try.prog 11 #[.int .i64 c, .int .i64 n] (wo.alloc (.cells #[.int .i64 q.k, .int .i64 q.a, .int .u64 q.x, .int .u64 q.x1, .int .u64 q.y, .int .u64 q.y1] 33)) fun e w' =>
      e = .returned (.int .i64 (kd c n)) ∧ Own w w' mb s N ∧ w'.heap[wb]? = some (.cells cs T (0, 0)) ∧ w'.heap[wo.heap.size]? = some (.cells (opv q) 33 (0, 0)) := by
  refine (cKind _ c n hc hc' hn).mono ?_
  rintro e w' ⟨rfl, rfl⟩
  exact ⟨rfl, ho.alloc _, (Below.heap_alloc _ _ _ (lt_of_block hw)).trans hw, heap_alloc_new _ _⟩

end Go.Proofs.Ytmidhhigopjkhaa
