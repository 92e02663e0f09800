/-
  The contract of Clone; kind; the examples.
-/
import Derived.Test.YtoablodmodnamaaDoorNew
namespace Go.Proofs.YtoablodmodnamaaDoor
set_option linter.unusedVariables false
set_option maxRecDepth 100000
open Go.ChangeShapes Go.WideShapes Go.RowKit

/-- what Clone reads, while blocks come -/
def Reads (w : World) (L : Loc) (s : St) (w' : World) : Prop := Below w.heap.size w w' ∧ w'.cell? ⟨L.b, 0, none⟩ = some (.slice (some ⟨L.g, 0, none⟩) s.ws.length L.cp) ∧ w'.cell? ⟨L.b, 1, none⟩ = some (.int .i64 s.c) ∧ w'.cell? ⟨L.b, 2, none⟩ = some (.int .i64 s.t) ∧ w'.cell? ⟨L.b, 3, none⟩ = some L.vu
theorem Reads.of {w w' : World} {L : Loc} {s : St} (hm : Mm w L s) (h : Below w.heap.size w w') : Reads w L s w' :=
  ⟨h, (hm.below h).cell0, (hm.below h).cell1, (hm.below h).cell2, (hm.below h).cell3⟩

/-- which of n kinds -/
def kd (c n : Int) : Int := (if c < 0 then -(c + 1) else c) % n
theorem kd_bounds (c n : Int) (h : 0 < n) : 0 ≤ kd c n ∧ kd c n < n := ⟨Int.emod_nonneg _ (by omega), Int.emod_lt_of_pos _ h⟩
theorem cKind (w : World) (c n : Int) (hc : -9223372036854775808 ≤ c) (hc' : c ≤ 9223372036854775807) (hn : 0 < n) :
    Calls Tryd.prog 12 #[.int .i64 c, .int .i64 n] w fun e w' => e = .returned (.int .i64 (kd c n)) ∧ w' = w := by
  unfold kd
  by_cases h : c < 0
  · rw [if_pos h, ← Int.tmod_eq_emod_of_nonneg (by omega), Int.neg_tmod]
    go_enter Tryd.func12, Tryd.ntmps12
    go_wp2
    go_ret
    exact ⟨rfl, rfl⟩
  · rw [if_neg h]
    go_enter Tryd.func12, Tryd.ntmps12
    go_wp2
    go_ret
    exact ⟨rfl, rfl⟩

/-- a clone that has just been made -/
theorem clone_at {w2 : World} {s : St} {g cp n' cp' : Nat} {ao : Option Addr} (h1 : w2.ownsRow 0 76 1 (.slice (some ⟨g, 0, none⟩) s.ws.length cp) s.ws.length (wds s.ws))
    (h2 : w2.ownsRow 0 154 3 (.slice ao n' cp') s.l.length (accs s.l)) (h3 : s.l = [] → Value.slice ao n' cp' = .slice none 0 0) :
    Mm (w2.alloc (.cells #[.slice (some ⟨g, 0, none⟩) s.ws.length cp, .int .i64 s.c, .int .i64 s.t, .slice ao n' cp'] 142)) ⟨w2.heap.size, g, cp, .slice ao n' cp'⟩ s :=
  ⟨heap_alloc_new _ _, h1.alloc _, h2.alloc _, h3, by decide⟩

set_option maxHeartbeats 800000 in
set_option maxRecDepth 100000 in
theorem cClone {w : World} {L : Loc} {s : St} (hm : Mm w L s) (f : s.Fit) :
    Calls Tryd.prog 55 #[.pointer (some ⟨L.b, 0, none⟩)] w fun e w' => ∃ L' : Loc, e = .returned (.pointer (some ⟨L'.b, 0, none⟩)) ∧ Mm w' L' s ∧ Below w.heap.size w w' ∧ ∀ k ∈ L'.fp, w.heap.size ≤ k := by
  have R0 : Reads w L s w := Reads.of hm (Below.refl _ _)
  go_enter Tryd.func55, Tryd.ntmps55
  go_wp2
  have RD : Reads w L s w.drew := Reads.of hm (Below.refl _ _).drew
  go_region_held3 (fun w' => Below w.heap.size w w' ∧ w'.cell? ⟨L.b, 0, none⟩ = some (.slice (some ⟨L.g, 0, none⟩) s.ws.length L.cp) ∧ w'.cell? ⟨L.b, 1, none⟩ = some (.int .i64 s.c) ∧ w'.cell? ⟨L.b, 2, none⟩ = some (.int .i64 s.t) ∧ w'.cell? ⟨L.b, 3, none⟩ = some L.vu) (first | assumption | exact RD | exact Reads.of hm (by assumption) | exact Reads.of hm (Below.alloc (by assumption) (Below.size (by assumption)) _))
    (first
      | (go_at_call 88; refine (cCloneW (hm.below (show Below w.heap.size w _ from RD.1)) f).mono ?_; rintro e w1 ⟨g, cp, rfl, hw1, hg1, hb1⟩; have hb1' := RD.1.trans hb1)
      | (go_at_call 89; refine (cCloneU (hm.below hb1') f).mono ?_; rintro e w2 ⟨ao, n', cp', rfl, hu2, hk2, hn2, hb2⟩; have hb2' := hb1'.trans (hb2.mono hb1'.size)))
  have R1 := clone_at (own_kept hw1 (Kept.of_below (F := []) hb2) fun _ _ => by simp) hu2 hn2
  have R2 := hb2'.alloc hb2'.size (.cells #[.slice (some ⟨g, 0, none⟩) s.ws.length cp, .int .i64 s.c, .int .i64 s.t, .slice ao n' cp'] 142)
  have R3 : ∀ k ∈ (⟨w2.heap.size, g, cp, .slice ao n' cp'⟩ : Loc).fp, w.heap.size ≤ k := by
    intro k hk
    simp only [Loc.fp, List.mem_cons, Option.mem_toList] at hk
    rcases hk with rfl | rfl | hk
    · exact hb2'.size
    · exact hg1
    · exact Nat.le_trans hb1'.size (hk2 k hk)
  clear hw1 hu2 hk2 hn2
  go_wp2
  go_ret
  exact ⟨⟨w2.heap.size, g, cp, .slice ao n' cp'⟩, rfl, R1, R2, R3⟩
end Go.Proofs.YtoablodmodnamaaDoor
