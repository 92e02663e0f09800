/-
  A machine that steps alone, plainly: no program in sight.
-/
import Derived.Test.YtmlgohknbjfciaaGreatDoorD2
import Derived.Test.YtmlgohknbjfciaaGreatDoorDs3
namespace Go.Proofs.YtmlgohknbjfciaaGreatDoor
set_option linter.unusedVariables false
set_option maxRecDepth 100000
open Go.ChangeShapes Go.WideShapes Go.RowKit
open H.Plain (hw pS pC pN pM pG pT pL mv)
section
variable {w0 w w' : World} {b y p q : Nat} {s1 s2 : St} {N : Nat} {T T' : TypeId} {cs : Array Value} {F : List Nat} {x : Sx}
theorem Two.seen (h : Two w0 w b y s1 s2 N) : ∃ g cp, Seen2 w y g cp s2 := by
  obtain ⟨⟨L, M, e1, rfl, hm, hr, hl, hl2⟩, _⟩ := h
  exact ⟨M.g, M.cp, hr.cell0, hr.cell2, fun j hj => hr.wcell j hj, hr.lt _ (by simp [Loc.fp]), hr.lt _ (by simp [Loc.fp])⟩
theorem Seen2.at {g cp : Nat} {s : St} (h : Seen2 w y g cp s) (hl : s.ws.length = 160) (a : Nat) (ha : a < 160) : w.cell? ⟨g, a, none⟩ = some (.int .u64 (s.word a)) := h.cw a (by omega)
end
/-! ### two addresses of objects, plainly -/
end Go.Proofs.YtmlgohknbjfciaaGreatDoor

namespace Go.Proofs.YtmlgohknbjfciaaGreatDoor
set_option linter.unusedVariables false
set_option maxRecDepth 100000
open H.Plain (hw pS pC pN pM pG pT pL mv)

/-- behind j steps -/
def runX (x : Sx) (s : St) : Nat → Sx × St
  | 0 => (x, s)
  | j + 1 => ((runX x s j).1.next (runX x s j).2, (runX x s j).1.mem (runX x s j).2)
/-- it is done behind d steps, and not ahead -/
structure Ends (x : Sx) (s : St) (d : Nat) (x' : Sx) (s' : St) : Prop where
  at_ : runX x s d = (x', s')
  done : x'.done = true
  not : ∀ j, j < d → (runX x s j).1.done = false
theorem runX_succ (x : Sx) (s : St) (j : Nat) : runX x s (j + 1) = runX (x.next s) (x.mem s) j := by
  induction j with
  | zero => rfl
  | succ j ih => rw [runX, ih]; rfl
theorem Ends.zero {x : Sx} {s : St} (h : x.done = true) : Ends x s 0 x s := ⟨rfl, h, fun j hj => by omega⟩
theorem Ends.more {x x' : Sx} {s s' : St} {d : Nat} (h : x.done = false) (e : Ends (x.next s) (x.mem s) d x' s') : Ends x s (d + 1) x' s' := by
  refine ⟨by rw [runX_succ]; exact e.at_, e.done, fun j hj => ?_⟩
  cases j with
  | zero => exact h
  | succ j => rw [runX_succ]; exact e.not j (by omega)
theorem Ends.step {x x1 x' : Sx} {s s1 s' : St} {d : Nat} (h : x.done = false) (q : x.next s = x1) (m : x.mem s = s1) (e : Ends x1 s1 d x' s') : Ends x s (d + 1) x' s' := Ends.more h (by rw [q, m]; exact e)
end Go.Proofs.YtmlgohknbjfciaaGreatDoor
