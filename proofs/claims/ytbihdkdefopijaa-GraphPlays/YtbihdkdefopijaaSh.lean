/-
  The shape of a graph said plainly: objects as they are met, and their numbers. No Go in sight.
-/
import Derived.Test.YtbihdkdefopijaaGp
namespace Go.Proofs.Ytbihdkdefopijaa
set_option linter.unusedVariables false
set_option linter.unusedSimpArgs false

namespace Sh
/-- the number of an object that was met; 0 is nil -/
def num (m : List Int) (x : Int) : Int := if x = 0 then 0 else (m.idxOf x : Int) + 1
/-- an object is met -/
def add (m : List Int) (x : Int) : List Int := if x = 0 ∨ x ∈ m then m else m ++ [x]
def meets : List Int → List Int → List Int × List Int
  | m, [] => (m, [])
  | m, x :: r => ((meets (add m x) r).1, num (add m x) x :: (meets (add m x) r).2)
def fadd (m : List Int) (v : Int × Int) : List Int := if v.1 = 1 then add m v.2 else m
def fnum (m : List Int) (v : Int × Int) : Int × Int := if v.1 = 1 then (1, num m v.2) else v
def fmeets : List Int → List (Int × Int) → List Int × List (Int × Int)
  | m, [] => (m, [])
  | m, v :: o => ((fmeets (fadd m v) o).1, fnum (fadd m v) v :: (fmeets (fadd m v) o).2)
def rruns : List Int → List (List Int) → List Int × List (List Int)
  | m, [] => (m, [])
  | m, r :: ts => ((rruns (meets m r).1 ts).1, (meets m r).2 :: (rruns (meets m r).1 ts).2)
/-- the object that was met as the k-th -/
def kth (os : List (List (Int × Int))) (m : List Int) (k : Nat) : List (Int × Int) := os.getD (m.getD k 0 - 1).toNat []
def lrun (os : List (List (Int × Int))) : Nat → Nat → List Int → List Int × List (List (Int × Int))
  | 0, _, m => (m, [])
  | f + 1, k, m => if k < m.length then ((lrun os f (k + 1) (fmeets m (kth os m k)).1).1, (fmeets m (kth os m k)).2 :: (lrun os f (k + 1) (fmeets m (kth os m k)).1).2) else (m, [])
def roots (g : Gr) : List (List Int) := (rruns [] g.ts).2
def objs (g : Gr) : List (List (Int × Int)) := (lrun g.os (g.os.length + 1) 0 (rruns [] g.ts).1).2

theorem meets_snoc (r : List Int) (x : Int) : ∀ m, meets m (r ++ [x]) = (add (meets m r).1 x, (meets m r).2 ++ [num (add (meets m r).1 x) x]) := by
  induction r with
  | nil => intro m; rfl
  | cons y r ih => intro m; simp only [List.cons_append, meets, ih]
theorem fmeets_snoc (o : List (Int × Int)) (v : Int × Int) : ∀ m, fmeets m (o ++ [v]) = (fadd (fmeets m o).1 v, (fmeets m o).2 ++ [fnum (fadd (fmeets m o).1 v) v]) := by
  induction o with
  | nil => intro m; rfl
  | cons y r ih => intro m; simp only [List.cons_append, fmeets, ih]
theorem rruns_snoc (ts : List (List Int)) (r : List Int) : ∀ m, rruns m (ts ++ [r]) = ((meets (rruns m ts).1 r).1, (rruns m ts).2 ++ [(meets (rruns m ts).1 r).2]) := by
  induction ts with
  | nil => intro m; rfl
  | cons y r ih => intro m; simp only [List.cons_append, rruns, ih]
theorem meets_len (r : List Int) : ∀ m, (meets m r).2.length = r.length := by
  induction r with
  | nil => intro m; rfl
  | cons y r ih => intro m; simp [meets, ih]
theorem fmeets_len (r : List (Int × Int)) : ∀ m, (fmeets m r).2.length = r.length := by
  induction r with
  | nil => intro m; rfl
  | cons y r ih => intro m; simp [fmeets, ih]
theorem rruns_len (ts : List (List Int)) : ∀ m, (rruns m ts).2.length = ts.length := by
  induction ts with
  | nil => intro m; rfl
  | cons y r ih => intro m; simp [rruns, ih]

theorem add_grow (m : List Int) (x : Int) : m.length ≤ (add m x).length := by unfold add; split <;> simp
theorem fadd_grow (m : List Int) (v : Int × Int) : m.length ≤ (fadd m v).length := by
  unfold fadd
  split
  · exact add_grow m v.2
  · exact Nat.le_refl _
theorem fmeets_grow (o : List (Int × Int)) : ∀ m, m.length ≤ (fmeets m o).1.length := by
  induction o with
  | nil => intro m; exact Nat.le_refl _
  | cons y r ih => intro m; exact Nat.le_trans (fadd_grow m y) (ih _)
/-- what was met is each an object, once -/
structure Ok (N : Nat) (m : List Int) : Prop where
  nd : m.Nodup
  inn : ∀ x ∈ m, 1 ≤ x ∧ x ≤ N
theorem Ok.nil (N : Nat) : Ok N [] := ⟨List.nodup_nil, fun x hx => by simp at hx⟩
theorem Ok.add {N : Nat} {m : List Int} (h : Ok N m) {x : Int} (h0 : 0 ≤ x) (hN : x ≤ N) : Ok N (add m x) := by
  unfold Sh.add
  split
  · exact h
  · rename_i hx
    simp only [not_or] at hx
    refine ⟨?_, fun y hy => ?_⟩
    · rw [List.nodup_append]
      refine ⟨h.nd, by simp, fun a ha b hb => ?_⟩
      simp at hb
      subst hb
      exact fun e => hx.2 (e ▸ ha)
    · simp at hy
      rcases hy with hy | rfl
      · exact h.inn y hy
      · omega
theorem Ok.meets {N : Nat} (r : List Int) : ∀ {m : List Int}, Ok N m → (∀ x ∈ r, 0 ≤ x ∧ x ≤ N) → Ok N (meets m r).1 := by
  induction r with
  | nil => intro m h _; exact h
  | cons y r ih =>
    intro m h hr
    exact ih (h.add (hr y (by simp)).1 (hr y (by simp)).2) fun x hx => hr x (by simp [hx])
theorem Ok.fadd {N : Nat} {m : List Int} (h : Ok N m) {v : Int × Int} (hv : v.1 = 1 → 0 ≤ v.2 ∧ v.2 ≤ N) : Ok N (fadd m v) := by
  unfold Sh.fadd
  split
  · rename_i h1; exact h.add (hv h1).1 (hv h1).2
  · exact h
theorem Ok.fmeets {N : Nat} (o : List (Int × Int)) : ∀ {m : List Int}, Ok N m → (∀ v ∈ o, v.1 = 1 → 0 ≤ v.2 ∧ v.2 ≤ N) → Ok N (fmeets m o).1 := by
  induction o with
  | nil => intro m h _; exact h
  | cons y r ih =>
    intro m h hr
    exact ih (h.fadd (hr y (by simp))) fun x hx => hr x (by simp [hx])
theorem Ok.rruns {N : Nat} (ts : List (List Int)) : ∀ {m : List Int}, Ok N m → (∀ r ∈ ts, ∀ x ∈ r, 0 ≤ x ∧ x ≤ N) → Ok N (rruns m ts).1 := by
  induction ts with
  | nil => intro m h _; exact h
  | cons y r ih =>
    intro m h hr
    exact ih (h.meets y (hr y (by simp))) fun x hx => hr x (by simp [hx])
theorem Ok.len {N : Nat} : ∀ {m : List Int}, Ok N m → m.length ≤ N := by
  induction N with
  | zero =>
    intro m h
    cases m with
    | nil => simp
    | cons x m => have := h.inn x (by simp); omega
  | succ N ih =>
    intro m h
    have h1 : Ok N (m.erase ((N : Int) + 1)) := ⟨h.nd.erase _, fun x hx => by
      have h2 := (h.nd.mem_erase_iff).1 hx
      have := h.inn x h2.2
      have := h2.1
      omega⟩
    have := ih h1
    by_cases hm : ((N : Int) + 1) ∈ m
    · rw [List.length_erase_of_mem hm] at this
      omega
    · rw [List.erase_of_not_mem hm] at this
      omega
theorem kth_fit {g : Gr} (f : g.Fit) (m : List Int) (k : Nat) : (∀ v ∈ kth g.os m k, v.1 = 1 → 0 ≤ v.2 ∧ v.2 ≤ g.os.length) ∧ (kth g.os m k).length ≤ 7 := by
  unfold kth
  by_cases h : (m.getD k 0 - 1).toNat < g.os.length
  · rw [List.getD_eq_getElem?_getD, List.getElem?_eq_getElem h]
    exact ⟨f.oid _ (List.getElem_mem _), f.o7 _ (List.getElem_mem _)⟩
  · rw [List.getD_eq_getElem?_getD, List.getElem?_eq_none (by omega)]
    simp
theorem lrun_end {os : List (List (Int × Int))} (f k : Nat) {m : List Int} (h : ¬ k < m.length) : lrun os f k m = (m, []) := by
  cases f with
  | zero => rfl
  | succ f => simp [lrun, h]
theorem add_of_mem {m : List Int} {x : Int} (h : x = 0 ∨ x ∈ m) : add m x = m := by simp [add, h]
theorem add_of_not {m : List Int} {x : Int} (h0 : x ≠ 0) (h : x ∉ m) : add m x = m ++ [x] := by simp [add, h0, h]
theorem num_new {m : List Int} {x : Int} (h0 : x ≠ 0) (h : x ∉ m) : num (m ++ [x]) x = (m.length : Int) + 1 := by
  simp [num, h0, List.idxOf_append, h]
theorem num_old {m : List Int} {x y : Int} (h : x = 0 ∨ x ∈ m) : num (m ++ [y]) x = num m x := by
  unfold num
  rcases h with rfl | h
  · simp
  · simp [List.idxOf_append, h]
end Sh
end Go.Proofs.Ytbihdkdefopijaa
