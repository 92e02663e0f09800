/-
  A graph said plainly: threads with rows of identities, objects with rows of fields; what each call answers, and what the graph is behind it. No Go in sight.
-/
import Derived.Test.YtbihdkdefopijaaPlain
namespace Go.Proofs.Ytbihdkdefopijaa
set_option linter.unusedVariables false
set_option linter.unusedSimpArgs false

namespace Rw
def isAt (r : List Int) (i : Int) : Bool := decide (0 ≤ i) && decide (i < r.length)
def push (r : List Int) (a : Int) : List Int := if r.length < 8 then r ++ [a] else []
def pushE (r : List Int) : Int := if r.length < 8 then 0 else 13
def drop (r : List Int) : List Int := r.dropLast
def dropE (r : List Int) : Int := if r.length = 0 then 12 else 0
def get (r : List Int) (i : Int) : Int := if isAt r i then r.getD i.toNat 0 else 0
def getE (r : List Int) (i : Int) : Int := if isAt r i then 0 else 12
def dup (r : List Int) (i : Int) : List Int := if isAt r i then push r (r.getD i.toNat 0) else []
def dupE (r : List Int) (i : Int) : Int := if isAt r i then pushE r else 12
end Rw

/-- what a field may be given: a kind and a number -/
abbrev Src := Int × Int
def Src.ok (s : Src) : Bool := decide (0 ≤ s.1) && (decide (s.1 ≤ 2) && (!decide (s.1 = 0) || (decide (0 ≤ s.2) && decide (s.2 ≤ 1099511627776))))
/-- ErrRoot, or none -/
def Src.lost (r : List Int) (s : Src) : Int := if s.1 = 1 then Rw.getE r s.2 else 0
def Src.val (r : List Int) (s : Src) : Int × Int := if s.1 = 0 then (0, s.2) else if s.1 = 1 then (1, Rw.get r s.2) else (1, 0)
/-- of several: ErrArg ahead of ErrRoot -/
def Src.errs (r : List Int) : List Src → Int
  | [] => 0
  | s :: l => if Src.lost r s = 0 then Src.errs r l else Src.lost r s
def Src.err (r : List Int) (l : List Src) : Int := if l.all Src.ok then Src.errs r l else 1

structure Gr where
  ts : List (List Int)
  os : List (List (Int × Int))

namespace Gr
def isT (g : Gr) (t : Int) : Bool := decide (0 ≤ t) && decide (t < g.ts.length)
def rs (g : Gr) (t : Int) : List Int := g.ts.getD t.toNat []
def setR (g : Gr) (t : Int) (r : List Int) : Gr := ⟨g.ts.set t.toNat r, g.os⟩
def obj (g : Gr) (id : Int) : List (Int × Int) := g.os.getD (id - 1).toNat []
def chg (g : Gr) (t : Int) (r : List Int) (e : Int) : Gr := if e = 0 then g.setR t r else g
def new (n : Nat) : Gr := ⟨List.replicate n [], []⟩

def allocE (g : Gr) (t n : Int) : Int := if g.isT t then (if 0 ≤ n ∧ n ≤ 7 then Rw.pushE (g.rs t) else 10) else 1
def alloc (g : Gr) (t n : Int) : Gr := if g.allocE t n = 0 then ⟨g.ts.set t.toNat (g.rs t ++ [(g.os.length : Int) + 1]), g.os ++ [List.replicate n.toNat (0, 0)]⟩ else g
def putE (g : Gr) (t id : Int) : Int := if g.isT t ∧ 0 ≤ id ∧ id ≤ g.os.length then Rw.pushE (g.rs t) else 1
def put (g : Gr) (t id : Int) : Gr := if g.putE t id = 0 then g.setR t (g.rs t ++ [id]) else g
def dupE (g : Gr) (t i : Int) : Int := if g.isT t then Rw.dupE (g.rs t) i else 1
def dup (g : Gr) (t i : Int) : Gr := if g.dupE t i = 0 then g.setR t (Rw.dup (g.rs t) i) else g
def dropE (g : Gr) (t : Int) : Int := if g.isT t then Rw.dropE (g.rs t) else 1
def drop (g : Gr) (t : Int) : Gr := if g.dropE t = 0 then g.setR t (Rw.drop (g.rs t)) else g
def eqE (g : Gr) (t i k : Int) : Int := if g.isT t then (if Rw.isAt (g.rs t) i ∧ Rw.isAt (g.rs t) k then 0 else 12) else 1
def eqY (g : Gr) (t i k : Int) : Bool := decide (g.eqE t i k = 0) && decide (Rw.get (g.rs t) i = Rw.get (g.rs t) k)
/-- the object at a root -/
def id (g : Gr) (t i : Int) : Int := Rw.get (g.rs t) i
def acc (g : Gr) (t i f : Int) (l : List Src) : Int :=
  if g.isT t then (if Src.err (g.rs t) l = 0 then (if Rw.isAt (g.rs t) i then (if g.id t i = 0 then 14 else if 0 ≤ f ∧ f < (g.obj (g.id t i)).length then 0 else 15) else 12) else Src.err (g.rs t) l) else 1
def field (g : Gr) (t i f : Int) : Int × Int := (g.obj (g.id t i)).getD f.toNat (0, 0)
def setF (g : Gr) (t i f : Int) (v : Int × Int) : Gr := ⟨g.ts, g.os.set (g.id t i - 1).toNat ((g.obj (g.id t i)).set f.toNat v)⟩
def lookE (g : Gr) (t i f : Int) : Int := g.acc t i f []
def lookV (g : Gr) (t i f : Int) : Int × Int := if g.lookE t i f = 0 then g.field t i f else (0, 0)
def writeE (g : Gr) (t i f : Int) (s : Src) : Int := g.acc t i f [s]
def write (g : Gr) (t i f : Int) (s : Src) : Gr := if g.writeE t i f s = 0 then g.setF t i f (s.val (g.rs t)) else g
def swapE (g : Gr) (t i f : Int) (s u : Src) : Int := g.acc t i f [s, u]
def swapY (g : Gr) (t i f : Int) (s u : Src) : Bool := decide (g.swapE t i f s u = 0) && decide (g.field t i f = s.val (g.rs t))
def swap (g : Gr) (t i f : Int) (s u : Src) : Gr := if g.swapY t i f s u then g.setF t i f (u.val (g.rs t)) else g

/-- its numbers fit -/
structure Fit (g : Gr) : Prop where
  t1 : 1 ≤ g.ts.length
  t64 : g.ts.length ≤ 64
  r8 : ∀ r ∈ g.ts, r.length ≤ 8
  rid : ∀ r ∈ g.ts, ∀ x ∈ r, 0 ≤ x ∧ x ≤ g.os.length
  o7 : ∀ o ∈ g.os, o.length ≤ 7
  oid : ∀ o ∈ g.os, ∀ v ∈ o, v.1 = 1 → 0 ≤ v.2 ∧ v.2 ≤ g.os.length
  ob : g.os.length ≤ 1000

section
variable {g : Gr}
theorem Fit.rs8 (f : g.Fit) (t : Int) : (g.rs t).length ≤ 8 := by
  unfold rs
  by_cases h : t.toNat < g.ts.length
  · rw [List.getD_eq_getElem?_getD, List.getElem?_eq_getElem h]
    exact f.r8 _ (List.getElem_mem _)
  · rw [List.getD_eq_getElem?_getD, List.getElem?_eq_none (by omega)]
    simp
theorem Fit.rsid (f : g.Fit) (t : Int) (x : Int) (hx : x ∈ g.rs t) : 0 ≤ x ∧ x ≤ g.os.length := by
  unfold rs at hx
  by_cases h : t.toNat < g.ts.length
  · rw [List.getD_eq_getElem?_getD, List.getElem?_eq_getElem h] at hx
    exact f.rid _ (List.getElem_mem _) x hx
  · rw [List.getD_eq_getElem?_getD, List.getElem?_eq_none (by omega)] at hx
    simp at hx
theorem Fit.obj7 (f : g.Fit) (id : Int) : (g.obj id).length ≤ 7 := by
  unfold obj
  by_cases h : (id - 1).toNat < g.os.length
  · rw [List.getD_eq_getElem?_getD, List.getElem?_eq_getElem h]
    exact f.o7 _ (List.getElem_mem _)
  · rw [List.getD_eq_getElem?_getD, List.getElem?_eq_none (by omega)]
    simp
theorem Fit.get (f : g.Fit) (t i : Int) : 0 ≤ Rw.get (g.rs t) i ∧ Rw.get (g.rs t) i ≤ g.os.length := by
  unfold Rw.get
  split
  · rename_i h
    simp [Rw.isAt] at h
    have hi : i.toNat < (g.rs t).length := by omega
    rw [List.getD_eq_getElem?_getD, List.getElem?_eq_getElem hi]
    exact f.rsid t _ (List.getElem_mem _)
  · omega
theorem Fit.setR (f : g.Fit) {t : Int} {r : List Int} (h8 : r.length ≤ 8) (hid : ∀ x ∈ r, 0 ≤ x ∧ x ≤ g.os.length) : (g.setR t r).Fit where
  t1 := by simp [Gr.setR]; exact f.t1
  t64 := by simp [Gr.setR]; exact f.t64
  r8 := fun q hq => by
    rcases List.mem_or_eq_of_mem_set hq with h | h
    · exact f.r8 q h
    · exact h ▸ h8
  rid := fun q hq => by
    rcases List.mem_or_eq_of_mem_set hq with h | h
    · exact f.rid q h
    · exact h ▸ hid
  o7 := f.o7
  oid := f.oid
  ob := f.ob
theorem Fit.push_ok (f : g.Fit) {t a : Int} (ha : 0 ≤ a ∧ a ≤ g.os.length) (h : Rw.pushE (g.rs t) = 0) : (g.rs t ++ [a]).length ≤ 8 ∧ ∀ x ∈ g.rs t ++ [a], 0 ≤ x ∧ x ≤ g.os.length := by
  unfold Rw.pushE at h
  split at h
  · refine ⟨by simp; omega, fun x hx => ?_⟩
    simp at hx
    rcases hx with hx | rfl
    · exact f.rsid t x hx
    · exact ha
  · simp at h
theorem Fit.put (f : g.Fit) (t id : Int) : (g.put t id).Fit := by
  unfold Gr.put
  split
  · rename_i h
    unfold putE at h
    split at h
    · rename_i h'
      have := f.push_ok (t := t) ⟨h'.2.1, h'.2.2⟩ h
      exact f.setR this.1 this.2
    · simp at h
  · exact f
theorem Fit.dup (f : g.Fit) (t i : Int) : (g.dup t i).Fit := by
  unfold Gr.dup
  split
  · rename_i h
    unfold dupE Rw.dupE at h
    split at h
    · split at h
      · rename_i h1 h2
        have e : Rw.dup (g.rs t) i = g.rs t ++ [Rw.get (g.rs t) i] := by
          have hp : (g.rs t).length < 8 := by
            unfold Rw.pushE at h; split at h
            · assumption
            · simp at h
          simp [Rw.dup, h2, Rw.push, hp, Rw.get]
        rw [e]
        have := f.push_ok (t := t) (f.get t i) h
        exact f.setR this.1 this.2
      · simp at h
    · simp at h
  · exact f
theorem Fit.drop (f : g.Fit) (t : Int) : (g.drop t).Fit := by
  unfold Gr.drop
  split
  · exact f.setR (by have := f.rs8 t; simp [Rw.drop]; omega) fun x hx => f.rsid t x (List.dropLast_subset _ hx)
  · exact f
theorem Fit.alloc (f : g.Fit) (t n : Int) (hb : g.os.length < 1000) : (g.alloc t n).Fit := by
  unfold Gr.alloc
  split
  · rename_i h
    have hp : Rw.pushE (g.rs t) = 0 ∧ 0 ≤ n ∧ n ≤ 7 := by
      unfold allocE at h
      split at h
      · split at h
        · exact ⟨h, by assumption⟩
        · simp at h
      · simp at h
    have h8 : (g.rs t).length < 8 := by
      have := hp.1; unfold Rw.pushE at this; split at this
      · assumption
      · simp at this
    refine ⟨by simp; exact f.t1, by simp; exact f.t64, fun q hq => ?_, fun q hq x hx => ?_, fun o ho => ?_, fun o ho v hv => ?_, by simp; omega⟩
    · rcases List.mem_or_eq_of_mem_set hq with h | rfl
      · exact f.r8 q h
      · simp; omega
    · simp only [List.length_append, List.length_singleton]
      rcases List.mem_or_eq_of_mem_set hq with h | rfl
      · have := f.rid q h x hx; omega
      · simp at hx
        rcases hx with hx | rfl
        · have := f.rsid t x hx; omega
        · omega
    · simp at ho
      rcases ho with h | rfl
      · exact f.o7 o h
      · simp; omega
    · simp only [List.length_append, List.length_singleton]
      simp at ho
      rcases ho with h | rfl
      · intro h1; have := f.oid o h v hv h1; omega
      · simp at hv; intro h1; rw [hv.2] at h1; simp at h1
  · exact f
theorem Fit.setF (f : g.Fit) (t i : Int) (k : Int) (v : Int × Int) (hv : v.1 = 1 → 0 ≤ v.2 ∧ v.2 ≤ g.os.length) : (g.setF t i k v).Fit where
  t1 := f.t1
  t64 := f.t64
  r8 := f.r8
  rid := fun r hr x hx => by simp [Gr.setF]; exact f.rid r hr x hx
  o7 := fun o ho => by
    rcases List.mem_or_eq_of_mem_set ho with h | rfl
    · exact f.o7 o h
    · simp; exact f.obj7 _
  oid := fun o ho u hu h1 => by
    simp only [Gr.setF, List.length_set]
    rcases List.mem_or_eq_of_mem_set ho with h | rfl
    · exact f.oid o h u hu h1
    · rcases List.mem_or_eq_of_mem_set hu with h | rfl
      · unfold obj at h
        by_cases hl : (g.id t i - 1).toNat < g.os.length
        · rw [List.getD_eq_getElem?_getD, List.getElem?_eq_getElem hl] at h
          exact f.oid _ (List.getElem_mem _) u h h1
        · rw [List.getD_eq_getElem?_getD, List.getElem?_eq_none (by omega)] at h
          simp at h
      · exact hv h1
  ob := by simp [Gr.setF]; exact f.ob
theorem Fit.val (f : g.Fit) (t : Int) (s : Src) : (s.val (g.rs t)).1 = 1 → 0 ≤ (s.val (g.rs t)).2 ∧ (s.val (g.rs t)).2 ≤ g.os.length := by
  unfold Src.val
  split
  · simp
  · split
    · intro _; exact f.get t s.2
    · simp
theorem Fit.write (f : g.Fit) (t i k : Int) (s : Src) : (g.write t i k s).Fit := by
  unfold Gr.write
  split
  · exact f.setF t i k _ (f.val t s)
  · exact f
theorem Fit.swap (f : g.Fit) (t i k : Int) (s u : Src) : (g.swap t i k s u).Fit := by
  unfold Gr.swap
  split
  · exact f.setF t i k _ (f.val t u)
  · exact f
end
theorem Fit.new {n : Nat} (h1 : 1 ≤ n) (h64 : n ≤ 64) : (Gr.new n).Fit where
  t1 := by simp [Gr.new]; exact h1
  t64 := by simp [Gr.new]; exact h64
  r8 := fun r hr => by simp [Gr.new] at hr; rw [hr.2]; simp
  rid := fun r hr x hx => by simp [Gr.new] at hr; rw [hr.2] at hx; simp at hx
  o7 := fun o ho => by simp [Gr.new] at ho
  oid := fun o ho => by simp [Gr.new] at ho
  ob := by simp [Gr.new]
theorem n_put (g : Gr) (t id : Int) : (g.put t id).os.length = g.os.length := by unfold Gr.put; split <;> rfl
theorem n_dup (g : Gr) (t i : Int) : (g.dup t i).os.length = g.os.length := by unfold Gr.dup; split <;> rfl
theorem n_drop (g : Gr) (t : Int) : (g.drop t).os.length = g.os.length := by unfold Gr.drop; split <;> rfl
theorem n_write (g : Gr) (t i f : Int) (s : Src) : (g.write t i f s).os.length = g.os.length := by unfold Gr.write; split <;> simp [Gr.setF]
theorem n_swap (g : Gr) (t i f : Int) (s u : Src) : (g.swap t i f s u).os.length = g.os.length := by unfold Gr.swap; split <;> simp [Gr.setF]
theorem n_alloc (g : Gr) (t n : Int) : (g.alloc t n).os.length ≤ g.os.length + 1 := by unfold Gr.alloc; split <;> simp
end Gr
end Go.Proofs.Ytbihdkdefopijaa
