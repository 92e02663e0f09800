/-
  A memory's words, said plainly: no program in sight.
-/
import Derived.Test.YtmlgohknbjfciaaGreatDoorGp
namespace Go.Proofs.YtmlgohknbjfciaaGreatDoor
set_option linter.unusedVariables false
open S.Plain (t0 t1 tw nx)
open H.Plain (hw pL)

/-- an address of a memory of 160 words -/
def In (a : Int) : Prop := 0 ≤ a ∧ a < 160
section
variable {s : St} {a b x : Int}
theorem In.is1 (h : s.ws.length = 160) (ha : In a) : s.is1 a = true := by
  simp only [St.is1, Bool.and_eq_true, decide_eq_true_eq]; rw [h]; exact ⟨ha.1, by have := ha.2; omega⟩
theorem In.got (h : s.ws.length = 160) (ha : In a) : s.got a = s.word a := by simp [St.got, ha.is1 h]
theorem t_tell (h : s.ws.length = 160) (ha : In a) (op : Int) (ok : Bool) : (s.tell op a (s.is1 a) ok).t = s.t := by simp [St.tell, ha.is1 h]
theorem t_load (h : s.ws.length = 160) (ha : In a) : (s.load a).t = s.t := t_tell h ha _ _
end

theorem n_store' {s : St} (h : s.ws.length = 160) (a x : Int) : (s.store a x).ws.length = 160 := by rw [St.n_store]; exact h
end Go.Proofs.YtmlgohknbjfciaaGreatDoor
