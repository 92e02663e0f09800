/-
  A plan and a row of marks that lie in memory: which words were seen. What a call leaves of them, what a store makes of them.
-/
import Derived.Test.YtfohcacngmiklaaDoorWalks2
import Derived.OwnWalk
import Derived.OneCell
namespace Go.Proofs.YtfohcacngmiklaaDoor
set_option linter.unusedVariables false
open Go.ChangeShapes Go.WideShapes Go.ChangeAt Go.RowKit
open Plain

/-- the marks of n words -/
def marks (n : Nat) (f : Nat → Bool) : Array Value := ((List.range n).map fun j => Value.bool (f j)).toArray
theorem marks_at (n : Nat) (f : Nat → Bool) (j : Nat) (h : j < n) : (marks n f)[j]? = some (.bool (f j)) := by simp [marks, h]
theorem marks_set (n : Nat) (f f' : Nat → Bool) (j : Nat) (hj : f' j = true) (h : ∀ i, i < n → i ≠ j → f' i = f i) : (marks n f).setIfInBounds j (.bool true) = marks n f' := by
  apply Array.ext_getElem?
  intro i
  rw [Array.getElem?_setIfInBounds]
  by_cases hn : i < n
  · rw [marks_at n f' i hn, marks_at n f i hn]
    by_cases e : j = i
    · subst e
      rw [if_pos rfl, if_pos (by simp [marks]; exact hn), hj]
    · rw [if_neg e, h i hn fun h' => e h'.symm]
  · rw [show (marks n f')[i]? = none by simp [marks]; omega, show (marks n f)[i]? = none by simp [marks]; omega]
    split
    · rw [if_neg (by simp [marks]; omega)]
    · rfl

/-- what was seen: the words below m, and those from h on and below k -/
def sn (m h k j : Nat) : Bool := decide (j < m ∨ (h ≤ j ∧ j < k))
theorem sn_t {m h k j : Nat} (e : j < m ∨ (h ≤ j ∧ j < k)) : sn m h k j = true := decide_eq_true e
theorem sn_f {m h k j : Nat} (e : ¬ (j < m ∨ (h ≤ j ∧ j < k))) : sn m h k j = false := decide_eq_false e
theorem sn_eq {m h k m' k' j : Nat} (e : (j < m ∨ (h ≤ j ∧ j < k)) ↔ (j < m' ∨ (h ≤ j ∧ j < k'))) : sn m h k j = sn m' h k' j := decide_eq_decide.2 e

structure Sees (w : World) (q g n : Nat) (T B D : Int) (h : Nat) (m k : Nat) (u : World) : Prop where
  bel : Below w.heap.size w u
  pl : PAt u q T B D h n
  row : u.heap[g]? = some (.cells (marks n (sn m h k)) 4 (0, 0))
  qg : q ≠ g
  gw : w.heap.size ≤ g

section
variable {w u v : World} {q g n h m k : Nat} {T B D : Int}
theorem Sees.cell (s : Sees w q g n T B D h m k u) (j : Nat) (hj : j < n) : u.cell? ⟨g, j, none⟩ = some (.bool (sn m h k j)) := by
  rw [cell_of_row u g j _ _ _ s.row, marks_at n _ j hj]
theorem Sees.free (s : Sees w q g n T B D h m k u) (j : Nat) : u.frozen? ⟨g, j, none⟩ = false := frozen_of_row u g j _ _ s.row
theorem Sees.on (s : Sees w q g n T B D h m k u) (hb : Below u.heap.size u v) : Sees w q g n T B D h m k v :=
  ⟨bt s.bel hb, s.pl.on hb, (hb.block g (lt_of_block s.row)).trans s.row, s.qg, s.gw⟩
theorem cell_other (a : Addr) (p : Addr) (x : Value) (hn : a.block ≠ p.block) : (u.setCell p x).cell? a = u.cell? a :=
  World.cell?_of_block (w := u) (heap_setCell_other u p a.block x hn)
theorem Sees.set {m' k' : Nat} (s : Sees w q g n T B D h m k u) (j : Nat) (h1 : sn m' h k' j = true) (h2 : ∀ i, i < n → i ≠ j → sn m' h k' i = sn m h k i) : Sees w q g n T B D h m' k' (u.setCell ⟨g, j, none⟩ (.bool true)) := by
  obtain ⟨a0, a1, a2, a3, a4, a5⟩ := s.pl
  refine ⟨s.bel.setCell s.gw _, ⟨by simpa [World.setCell] using a0, ?_, ?_, ?_, ?_, ?_⟩, ?_, s.qg, s.gw⟩
  · rw [cell_other _ _ _ s.qg]; exact a1
  · rw [cell_other _ _ _ s.qg]; exact a2
  · rw [cell_other _ _ _ s.qg]; exact a3
  · rw [cell_other _ _ _ s.qg]; exact a4
  · rw [cell_other _ _ _ s.qg]; exact a5
  · rw [heap_setCell_same u g j _ _ _ s.row, marks_set n _ (sn m' h k') j h1 h2]
theorem Sees.same {m' k' : Nat} (s : Sees w q g n T B D h m k u) (h2 : ∀ i, i < n → sn m' h k' i = sn m h k i) : Sees w q g n T B D h m' k' u := by
  refine ⟨s.bel, s.pl, ?_, s.qg, s.gw⟩
  rw [s.row]
  have : marks n (sn m h k) = marks n (sn m' h k') := by
    apply Array.ext_getElem?
    intro i
    by_cases hn : i < n
    · rw [marks_at n _ i hn, marks_at n _ i hn, h2 i hn]
    · rw [show (marks n (sn m h k))[i]? = none by simp [marks]; omega, show (marks n (sn m' h k'))[i]? = none by simp [marks]; omega]
  rw [this]
theorem Sees.plan (s : Sees w q g n T B D h m k u) : u.cell? ⟨q, 0, none⟩ = some (.int .i64 T) ∧ u.cell? ⟨q, 1, none⟩ = some (.int .i64 B) ∧ u.cell? ⟨q, 2, none⟩ = some (.int .i64 D) ∧ u.cell? ⟨q, 3, none⟩ = some (.int .i64 h) ∧ u.cell? ⟨q, 4, none⟩ = some (.int .i64 n) := s.pl.2
end

theorem info4 : (Tryd.prog.info? 4).map (fun i => (i.zero, i.size, i.bytes)) = some (some (.bool false), 1, 1) := by kernel_rfl

/-- the marks that were just made -/
theorem made_sees {w u v : World} {q n h : Nat} {T B D : Int} (hb : Below w.heap.size w u) (hp : PAt u q T B D h n)
    (hown : v.ownsRow 0 4 1 (.slice (some ⟨u.heap.size, 0, none⟩) n n) n (madeCells #[Value.bool false] n).toList) (hg : u.grownBy v none) : Sees w q u.heap.size n T B D h 0 h v := by
  have hv : Below u.heap.size u v := (Below.refl _ _).grown hg (Nat.le_refl _) fun k hk => by cases hk
  refine ⟨bt hb hv, hp.on hv, ?_, by have := hp.1; omega, hb.size⟩
  rcases hown.2 with ⟨h', _⟩ | ⟨g, cp, cur, h', _, hgc, r1, r2, r3, r4⟩
  · simp at h'
  · simp only [Value.slice.injEq, Option.some.injEq, Addr.mk.injEq, and_true, true_and] at h'
    obtain ⟨rfl, rfl⟩ := h'
    rw [hgc]
    have e : cur.toList = (madeCells #[Value.bool false] n).toList := by
      rw [← r4, List.take_of_length_le (by simp; omega)]
    rw [toList_madeCells_one] at e
    have e2 : (marks n (sn 0 h h)).toList = List.replicate n (Value.bool false) := by
      apply List.ext_getElem?
      intro i
      by_cases hn : i < n
      · have := marks_at n (sn 0 h h) i hn
        rw [sn_f (by omega)] at this
        rw [Array.getElem?_toList, this]
        simp [hn]
      · rw [Array.getElem?_toList, show (marks n (sn 0 h h))[i]? = none by simp [marks]; omega]
        simp
        omega
    have : cur = marks n (sn 0 h h) := by
      apply Array.toList_inj.1
      rw [e, e2]
    rw [this]
end Go.Proofs.YtfohcacngmiklaaDoor
