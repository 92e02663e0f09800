/-
  Contracts of what a CAS does with its words.
-/
import Derived.Test.YtoablodmodnamaaDoorCalls2
namespace Go.Proofs.YtoablodmodnamaaDoor
set_option linter.unusedVariables false
open Go.ChangeShapes Go.WideShapes Go.RowKit

theorem same_cell {w w1 : World} (h : w1.heap = w.heap) (a : Addr) : w1.cell? a = w.cell? a := by simp [World.cell?, h]
theorem size31 : (Tryd.prog.info? 76).map (·.size) = some 1 := by kernel_rfl
theorem put1 {T : TypeId} {w : World} {L : Loc} {s : St} {cur : Array Value} (h : MemAt T w L s) (hg : w.heap[L.g]? = some (.cells cur 76 (0, 0))) (a : Nat) (x : Int) (ha : a < s.ws.length) :
    MemAt T (w.setRow L.g (cur.toList.take a ++ ([Value.int .u64 x] ++ cur.toList.drop (a + [Value.int .u64 x].length))).toArray) L (s.put a x) := by
  have := laid_over h cur hg a [x] (by simp; omega)
  simp only [List.length_singleton, set_one _ _ _ ha] at this
  exact this
theorem put2 {T : TypeId} {w : World} {L : Loc} {s : St} {cur : Array Value} (h : MemAt T w L s) (hg : w.heap[L.g]? = some (.cells cur 76 (0, 0))) (a : Nat) (x y : Int) (ha : a + 1 < s.ws.length) :
    MemAt T (w.setRow L.g (cur.toList.take a ++ ([Value.int .u64 x, Value.int .u64 y] ++ cur.toList.drop (a + [Value.int .u64 x, Value.int .u64 y].length))).toArray) L ((s.put a x).put (a + 1) y) := by
  have := laid_over h cur hg a [x, y] (by simp; omega)
  simp only [List.length_cons, List.length_nil, Nat.zero_add, set_two _ _ _ _ ha] at this
  exact this

set_option maxRecDepth 8000 in
theorem cSwap1 {w : World} {L : Loc} {s : St} {a c p1 p2 h1 h2 : Nat} {old x : Int} (hm : Mm w L s) (ha : a < s.ws.length)
    (q1 : w.cell? ⟨p1, 0, none⟩ = some (.slice (some ⟨h1, 0, none⟩) 1 1)) (q2 : w.cell? ⟨p2, 0, none⟩ = some (.slice (some ⟨h2, 0, none⟩) 1 1))
    (r1 : w.cell? ⟨h1, 0, none⟩ = some (.int .u64 old)) (r2 : w.cell? ⟨h2, 0, none⟩ = some (.int .u64 x)) :
    Calls Tryd.prog 110 #[.slice (some ⟨L.g, a, none⟩) 1 c, .pointer (some ⟨p1, 0, none⟩), .pointer (some ⟨p2, 0, none⟩)] w fun e w' =>
      e = .returned (.bool (s.word a == old)) ∧ Mm w' L (if s.word a == old then s.put a x else s) ∧ Kept [L.g] w w' := by
  have ca : w.cell? ⟨L.g, a, none⟩ = some (.int .u64 (s.word a)) := hm.wcell a ha
  rcases hok : (s.word a == old) with _ | _
  · go_enter Tryd.func110, Tryd.ntmps110
    go_wp2_with (go_at_call 111; refine (cEq1 ca r1).mono ?_; rintro e w1 ⟨rfl, hk, hh⟩; rw [hok])
    go_ret
    exact ⟨rfl, hm.on hk (by simp), hk.mono (by simp)⟩
  · obtain ⟨cur, hg, hc1, _, hc3, _⟩ := hm.gblk
    go_enter Tryd.func110, Tryd.ntmps110
    go_wp2_with (go_at_call 111; refine (cEq1 ca r1).mono ?_; rintro e w1 ⟨rfl, hk, hh⟩; rw [hok]; have hg1 : w1.heap[L.g]? = some (.cells cur 76 (0, 0)) := (by rw [hh]; exact hg); have q2' := (same_cell hh _).trans q2; have r2' := (same_cell hh _).trans r2; have hcp := run_copy_row (P := Tryd.prog) w1 77 77 3 76 L.g a 1 c ⟨h2, 0, none⟩ 1 1 cur 76 [.int .u64 x] Tryd.underlying77 size31 hg1 rfl (by intro j v hv; match j, hv with | 0, hv => simp at hv; subst hv; simpa [Addr.add] using r2') (by simp; omega) (by intro u hu; simp at hu; subst hu; rfl))
    have R := put1 (hm.on hk (by simp)) hg1 a x ha
    have R2 : Kept [L.g] w (w1.setRow L.g (cur.toList.take a ++ ([Value.int .u64 x] ++ cur.toList.drop (a + [Value.int .u64 x].length))).toArray) := (hk.mono (by simp)).trans (kept_row _ _ _) fun k hk => .inl hk
    go_ret
    exact ⟨rfl, R, R2⟩

end Go.Proofs.YtoablodmodnamaaDoor
