/-
  The contract of Clone; kind; the examples.
-/
import Derived.Test.YtmlgohknbjfciaaDoorNew
namespace Go.Proofs.YtmlgohknbjfciaaDoor
set_option linter.unusedVariables false
set_option maxRecDepth 100000
open Go.ChangeShapes Go.WideShapes Go.RowKit

/-- what Clone reads, while blocks come -/
def Reads (w : World) (L : Loc) (s : St) (w' : World) : Prop := Below w.heap.size w w' ∧ w'.cell? ⟨L.b, 0, none⟩ = some (.slice (some ⟨L.g, 0, none⟩) s.ws.length L.cp) ∧ w'.cell? ⟨L.b, 1, none⟩ = some (.int .i64 s.c) ∧ w'.cell? ⟨L.b, 2, none⟩ = some (.int .i64 s.t) ∧ w'.cell? ⟨L.b, 3, none⟩ = some L.vu
theorem Reads.of {w w' : World} {L : Loc} {s : St} (hm : Mm w L s) (h : Below w.heap.size w w') : Reads w L s w' :=
  ⟨h, (hm.below h).cell0, (hm.below h).cell1, (hm.below h).cell2, (hm.below h).cell3⟩

/-- which of n kinds -/
def kd (c n : Int) : Int := (if c < 0 then -(c + 1) else c) % n
theorem kd_bounds (c n : Int) (h : 0 < n) : 0 ≤ kd c n ∧ kd c n < n := ⟨Int.emod_nonneg _ (by omega), Int.emod_lt_of_pos _ h⟩
theorem cKind (w : World) (c n : Int) (hc : -9223372036854775808 ≤ c) (hc' : c ≤ 9223372036854775807) (hn : 0 < n) :
    Calls Tryd.prog 8 #[.int .i64 c, .int .i64 n] w fun e w' => e = .returned (.int .i64 (kd c n)) ∧ w' = w := by
  unfold kd
  by_cases h : c < 0
  · rw [if_pos h, ← Int.tmod_eq_emod_of_nonneg (by omega), Int.neg_tmod]
    go_enter Tryd.func8, Tryd.ntmps8
    go_wp2
    go_ret
    exact ⟨rfl, rfl⟩
  · rw [if_neg h]
    go_enter Tryd.func8, Tryd.ntmps8
    go_wp2
    go_ret
    exact ⟨rfl, rfl⟩

/-- a clone that has just been made -/
theorem clone_at {w2 : World} {s : St} {g cp n' cp' : Nat} {ao : Option Addr} (h1 : w2.ownsRow 0 51 1 (.slice (some ⟨g, 0, none⟩) s.ws.length cp) s.ws.length (wds s.ws))
    (h2 : w2.ownsRow 0 111 3 (.slice ao n' cp') s.l.length (accs s.l)) (h3 : s.l = [] → Value.slice ao n' cp' = .slice none 0 0) :
    Mm (w2.alloc (.cells #[.slice (some ⟨g, 0, none⟩) s.ws.length cp, .int .i64 s.c, .int .i64 s.t, .slice ao n' cp'] 98)) ⟨w2.heap.size, g, cp, .slice ao n' cp'⟩ s :=
  ⟨heap_alloc_new _ _, h1.alloc _, h2.alloc _, h3, by decide⟩

end Go.Proofs.YtmlgohknbjfciaaDoor
