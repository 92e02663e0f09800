/-
  Four workers: what the walk reads of them; what they come to at the end.
-/
import Derived.Test.YteclgafdflmioaaDoorOw
namespace Go.Proofs.YteclgafdflmioaaDoor
set_option linter.unusedVariables false
set_option maxRecDepth 100000
open Go.ChangeShapes Go.WideShapes Go.RowKit

theorem set4_set4 {α : Type} (f : Nat → α) (k : Nat) (x y : α) : set4 (set4 f k x) k y = set4 f k y := by
  funext j
  by_cases e : j = k
  · subst e; rw [set4_self, set4_self]
  · rw [set4_ne _ _ e, set4_ne _ _ e, set4_ne _ _ e]
section
variable {w0 w w' : World} {PB QB HB M k : Nat} {jb : Nat → Job} {mp : Nat → Nat} {vh : Nat → Value} {hs : Nat → List Int}
theorem Crew.cp (h : Crew w0 w PB QB HB jb mp vh hs M) (hk : k < 4) : w.cell? ⟨PB, k, none⟩ = some (popPtr (jb k) (mp k)) := by
  obtain ⟨⟨c, h1, h2⟩, _⟩ := h
  exact (h1.cell k).trans (h2.2 k hk)
theorem Crew.cq (h : Crew w0 w PB QB HB jb mp vh hs M) (hk : k < 4) : w.cell? ⟨QB, k, none⟩ = some (pushPtr (jb k) (mp k)) := by
  obtain ⟨_, ⟨c, h1, h2⟩, _⟩ := h
  exact (h1.cell k).trans (h2.2 k hk)
theorem Crew.ch (h : Crew w0 w PB QB HB jb mp vh hs M) (hk : k < 4) : w.cell? ⟨HB, k, none⟩ = some (vh k) := by
  obtain ⟨_, _, ⟨c, h1, h2⟩, _⟩ := h
  exact (h1.cell k).trans (h2.2 k hk)
theorem Crew.fp (h : Crew w0 w PB QB HB jb mp vh hs M) (k : Nat) : w.frozen? ⟨PB, k, none⟩ = false := by
  obtain ⟨⟨c, h1, h2⟩, _⟩ := h
  exact h1.free k
theorem Crew.fq (h : Crew w0 w PB QB HB jb mp vh hs M) (k : Nat) : w.frozen? ⟨QB, k, none⟩ = false := by
  obtain ⟨_, ⟨c, h1, h2⟩, _⟩ := h
  exact h1.free k
theorem Crew.fh (h : Crew w0 w PB QB HB jb mp vh hs M) (k : Nat) : w.frozen? ⟨HB, k, none⟩ = false := by
  obtain ⟨_, _, ⟨c, h1, h2⟩, _⟩ := h
  exact h1.free k
theorem Crew.pb (h : Crew w0 w PB QB HB jb mp vh hs M) : ∃ c, Blk w0 w PB 40 c := by
  obtain ⟨⟨c, h1, h2⟩, _⟩ := h
  exact ⟨c, h1⟩
theorem Crew.qb (h : Crew w0 w PB QB HB jb mp vh hs M) : ∃ c, Blk w0 w QB 41 c := by
  obtain ⟨_, ⟨c, h1, h2⟩, _⟩ := h
  exact ⟨c, h1⟩
theorem Crew.hb (h : Crew w0 w PB QB HB jb mp vh hs M) : ∃ c, Blk w0 w HB 42 c := by
  obtain ⟨_, _, ⟨c, h1, h2⟩, _⟩ := h
  exact ⟨c, h1⟩
theorem Crew.setP {b N : Nat} {s : St} (h : Crew w0 w PB QB HB jb mp vh hs M) (H : Hand w0 w b s N) (k : Nat) (u : Value) : Hand w0 (w.setCell ⟨PB, k, none⟩ u) b s N := by
  obtain ⟨c, h1⟩ := h.pb
  exact H.set h1 k u
theorem Crew.setQ {b N : Nat} {s : St} (h : Crew w0 w PB QB HB jb mp vh hs M) (H : Hand w0 w b s N) (k : Nat) (u : Value) : Hand w0 (w.setCell ⟨QB, k, none⟩ u) b s N := by
  obtain ⟨c, h1⟩ := h.qb
  exact H.set h1 k u
theorem Crew.setH {b N : Nat} {s : St} (h : Crew w0 w PB QB HB jb mp vh hs M) (H : Hand w0 w b s N) (k : Nat) (u : Value) : Hand w0 (w.setCell ⟨HB, k, none⟩ u) b s N := by
  obtain ⟨c, h1⟩ := h.hb
  exact H.set h1 k u
theorem Crew.fresh (h : Crew w0 w PB QB HB jb mp vh hs M) {p : Nat} (hp : w.heap.size ≤ p) : ∀ j, j < 4 → jb j ≠ .idle → mp j ≠ p := fun j hj hi => by
  have := (h.mach j hj).lt hi
  omega
end
end Go.Proofs.YteclgafdflmioaaDoor
