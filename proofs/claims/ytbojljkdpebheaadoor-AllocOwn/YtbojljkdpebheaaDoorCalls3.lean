/-
  Contracts of what a CAS does with its words.
-/
import Derived.Test.YtbojljkdpebheaaDoorCalls2
namespace Go.Proofs.YtbojljkdpebheaaDoor
set_option linter.unusedVariables false
set_option maxRecDepth 100000
open Go.ChangeShapes Go.WideShapes Go.RowKit

theorem same_cell {w w1 : World} (h : w1.heap = w.heap) (a : Addr) : w1.cell? a = w.cell? a := by simp [World.cell?, h]
theorem size31 : (Tryd.prog.info? 45).map (·.size) = some 1 := by kernel_rfl
theorem put1 {T : TypeId} {w : World} {L : Loc} {s : St} {cur : Array Value} (h : MemAt T w L s) (hg : w.heap[L.g]? = some (.cells cur 45 (0, 0))) (a : Nat) (x : Int) (ha : a < s.ws.length) :
    MemAt T (w.setRow L.g (cur.toList.take a ++ ([Value.int .u64 x] ++ cur.toList.drop (a + [Value.int .u64 x].length))).toArray) L (s.put a x) := by
  have := laid_over h cur hg a [x] (by simp; omega)
  simp only [List.length_singleton, set_one _ _ _ ha] at this
  exact this
theorem put2 {T : TypeId} {w : World} {L : Loc} {s : St} {cur : Array Value} (h : MemAt T w L s) (hg : w.heap[L.g]? = some (.cells cur 45 (0, 0))) (a : Nat) (x y : Int) (ha : a + 1 < s.ws.length) :
    MemAt T (w.setRow L.g (cur.toList.take a ++ ([Value.int .u64 x, Value.int .u64 y] ++ cur.toList.drop (a + [Value.int .u64 x, Value.int .u64 y].length))).toArray) L ((s.put a x).put (a + 1) y) := by
  have := laid_over h cur hg a [x, y] (by simp; omega)
  simp only [List.length_cons, List.length_nil, Nat.zero_add, set_two _ _ _ _ ha] at this
  exact this

theorem cSwap1 {w : World} {L : Loc} {s : St} {a c p1 p2 h1 h2 : Nat} {old x : Int} (hm : Mm w L s) (ha : a < s.ws.length)
    (q1 : w.cell? ⟨p1, 0, none⟩ = some (.slice (some ⟨h1, 0, none⟩) 1 1)) (q2 : w.cell? ⟨p2, 0, none⟩ = some (.slice (some ⟨h2, 0, none⟩) 1 1))
    (r1 : w.cell? ⟨h1, 0, none⟩ = some (.int .u64 old)) (r2 : w.cell? ⟨h2, 0, none⟩ = some (.int .u64 x)) :
    Calls Tryd.prog 102 #[.slice (some ⟨L.g, a, none⟩) 1 c, .pointer (some ⟨p1, 0, none⟩), .pointer (some ⟨p2, 0, none⟩)] w fun e w' =>
      e = .returned (.bool (s.word a == old)) ∧ Mm w' L (if s.word a == old then s.put a x else s) ∧ Kept [L.g] w w' := by
  have ca : w.cell? ⟨L.g, a, none⟩ = some (.int .u64 (s.word a)) := hm.wcell a ha
  rcases hok : (s.word a == old) with _ | _
  · go_enter Tryd.func102, Tryd.ntmps102
    go_wp2_with (go_at_call 103; refine (cEq1 ca r1).mono ?_; rintro e w1 ⟨rfl, hk, hh⟩; rw [hok])
    go_ret
    exact ⟨rfl, hm.on hk (by simp), hk.mono (by simp)⟩
  · obtain ⟨cur, hg, hc1, _, hc3, _⟩ := hm.gblk
    go_enter Tryd.func102, Tryd.ntmps102
    go_wp2_with (go_at_call 103; refine (cEq1 ca r1).mono ?_; rintro e w1 ⟨rfl, hk, hh⟩; rw [hok]; have hg1 : w1.heap[L.g]? = some (.cells cur 45 (0, 0)) := (by rw [hh]; exact hg); have q2' := (same_cell hh _).trans q2; have r2' := (same_cell hh _).trans r2; have hcp := run_copy_row (P := Tryd.prog) w1 57 57 3 45 L.g a 1 c ⟨h2, 0, none⟩ 1 1 cur 45 [.int .u64 x] Tryd.underlying57 size31 hg1 rfl (by intro j v hv; match j, hv with | 0, hv => simp at hv; subst hv; simpa [Addr.add] using r2') (by simp; omega) (by intro u hu; simp at hu; subst hu; rfl))
    have R := put1 (hm.on hk (by simp)) hg1 a x ha
    have R2 : Kept [L.g] w (w1.setRow L.g (cur.toList.take a ++ ([Value.int .u64 x] ++ cur.toList.drop (a + [Value.int .u64 x].length))).toArray) := (hk.mono (by simp)).trans (kept_row _ _ _) fun k hk => .inl hk
    go_ret
    exact ⟨rfl, R, R2⟩

theorem cSwap2 {w : World} {L : Loc} {s : St} {a c p1 p2 h1 h2 : Nat} {o0 o1 x y : Int} (hm : Mm w L s) (ha : a + 1 < s.ws.length)
    (q1 : w.cell? ⟨p1, 0, none⟩ = some (.slice (some ⟨h1, 0, none⟩) 2 2)) (q2 : w.cell? ⟨p2, 0, none⟩ = some (.slice (some ⟨h2, 0, none⟩) 2 2))
    (r1 : w.cell? ⟨h1, 0, none⟩ = some (.int .u64 o0)) (r1' : w.cell? ⟨h1, 1, none⟩ = some (.int .u64 o1)) (r2 : w.cell? ⟨h2, 0, none⟩ = some (.int .u64 x)) (r2' : w.cell? ⟨h2, 1, none⟩ = some (.int .u64 y)) :
    Calls Tryd.prog 102 #[.slice (some ⟨L.g, a, none⟩) 2 c, .pointer (some ⟨p1, 0, none⟩), .pointer (some ⟨p2, 0, none⟩)] w fun e w' =>
      e = .returned (.bool (s.word a == o0 && s.word (a + 1) == o1)) ∧ Mm w' L (if (s.word a == o0 && s.word (a + 1) == o1) then (s.put a x).put (a + 1) y else s) ∧ Kept [L.g] w w' := by
  have ca : w.cell? ⟨L.g, a, none⟩ = some (.int .u64 (s.word a)) := hm.wcell a (by omega)
  have cb : w.cell? ⟨L.g, a + 1, none⟩ = some (.int .u64 (s.word (a + 1))) := hm.wcell (a + 1) ha
  rcases hok : (s.word a == o0 && s.word (a + 1) == o1) with _ | _
  · go_enter Tryd.func102, Tryd.ntmps102
    go_wp2_with (go_at_call 103; refine (cEq2 ca cb r1 r1').mono ?_; rintro e w1 ⟨rfl, hk, hh⟩; rw [hok])
    go_ret
    exact ⟨rfl, hm.on hk (by simp), hk.mono (by simp)⟩
  · obtain ⟨cur, hg, hc1, _, hc3, _⟩ := hm.gblk
    go_enter Tryd.func102, Tryd.ntmps102
    go_wp2_with (go_at_call 103; refine (cEq2 ca cb r1 r1').mono ?_; rintro e w1 ⟨rfl, hk, hh⟩; rw [hok]; have hg1 : w1.heap[L.g]? = some (.cells cur 45 (0, 0)) := (by rw [hh]; exact hg); have q3 := (same_cell hh _).trans q2; have r3 := (same_cell hh _).trans r2; have r4 := (same_cell hh _).trans r2'; have hcp := run_copy_row (P := Tryd.prog) w1 57 57 3 45 L.g a 2 c ⟨h2, 0, none⟩ 2 2 cur 45 [.int .u64 x, .int .u64 y] Tryd.underlying57 size31 hg1 rfl (by intro j v hv; match j, hv with | 0, hv => (simp at hv; subst hv; simpa [Addr.add] using r3) | 1, hv => (simp at hv; subst hv; simpa [Addr.add] using r4)) (by simp; omega) (by intro u hu; simp at hu; rcases hu with rfl | rfl <;> rfl))
    have R := put2 (hm.on hk (by simp)) hg1 a x y ha
    have R2 : Kept [L.g] w (w1.setRow L.g (cur.toList.take a ++ ([Value.int .u64 x, Value.int .u64 y] ++ cur.toList.drop (a + [Value.int .u64 x, Value.int .u64 y].length))).toArray) := (hk.mono (by simp)).trans (kept_row _ _ _) fun k hk => .inl hk
    go_ret
    exact ⟨rfl, R, R2⟩
end Go.Proofs.YtbojljkdpebheaaDoor
