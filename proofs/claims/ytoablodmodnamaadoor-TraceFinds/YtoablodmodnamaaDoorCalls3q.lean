/-
  Contracts of what a CAS does with its words.
-/
import Derived.Test.YtoablodmodnamaaDoorMem0q
import Derived.Laws.CopyOwn
namespace Go.Proofs.YtoablodmodnamaaDoor
set_option linter.unusedVariables false
open Go.ChangeShapes Go.WideShapes Go.RowKit

abbrev Mm := MemAt 142
abbrev Rm := MemAt 80

theorem cHas1 {w : World} {L : Loc} {s : St} (h : Mm w L s) (f : s.Fit) (a : Int) :
    Calls Tryd.prog 103 #[.pointer (some ⟨L.b, 0, none⟩), .int .i64 a, .int .i64 1] w fun e w' => e = .returned (.bool (s.is1 a)) ∧ w' = w := by
  have c0 := h.cell0
  have n1 := f.n1
  have n4 := f.n4
  by_cases h0 : 0 ≤ a
  · have h1 : a.tmod 1 = 0 := by simp
    have r : s.is1 a = decide (a ≤ (s.ws.length : Int) - 1) := by simp only [St.is1, h0, decide_true, Bool.true_and, decide_eq_decide]; omega
    rw [r]
    go_enter Tryd.func103, Tryd.ntmps103
    go_wp2
    go_ret
    exact ⟨rfl, rfl⟩
  · have r : s.is1 a = false := by simp [St.is1]; omega
    rw [r]
    go_enter Tryd.func103, Tryd.ntmps103
    go_wp2
    go_ret
    exact ⟨rfl, rfl⟩

theorem cHas2 {w : World} {L : Loc} {s : St} (h : Mm w L s) (f : s.Fit) (a : Int) :
    Calls Tryd.prog 103 #[.pointer (some ⟨L.b, 0, none⟩), .int .i64 a, .int .i64 2] w fun e w' => e = .returned (.bool (s.is2 a)) ∧ w' = w := by
  have c0 := h.cell0
  have n1 := f.n1
  have n4 := f.n4
  by_cases h0 : 0 ≤ a
  · by_cases h1 : a % 2 = 0
    · have h1' : a.tmod 2 = 0 := by rw [Int.tmod_eq_emod_of_nonneg h0]; exact h1
      have r : s.is2 a = decide (a ≤ (s.ws.length : Int) - 2) := by simp only [St.is2, h0, h1, decide_true, Bool.true_and, decide_eq_decide]; omega
      rw [r]
      go_enter Tryd.func103, Tryd.ntmps103
      go_wp2
      go_ret
      exact ⟨rfl, rfl⟩
    · have h1' : (a.tmod 2 == 0) = false := by rw [Int.tmod_eq_emod_of_nonneg h0]; simpa using h1
      have r : s.is2 a = false := by simp [St.is2, h1]
      rw [r]
      go_enter Tryd.func103, Tryd.ntmps103
      go_wp2
      go_ret
      exact ⟨rfl, rfl⟩
  · have r : s.is2 a = false := by simp [St.is2]; omega
    rw [r]
    go_enter Tryd.func103, Tryd.ntmps103
    go_wp2
    go_ret
    exact ⟨rfl, rfl⟩

theorem cTraps {w : World} {L : Loc} {s : St} (h : Mm w L s) :
    Calls Tryd.prog 32 #[.pointer (some ⟨L.b, 0, none⟩)] w fun e w' => e = .returned (.int .i64 s.t) ∧ w' = w := by
  have c2 := h.cell2
  go_enter Tryd.func32, Tryd.ntmps32
  go_wp2
  go_ret
  exact ⟨rfl, rfl⟩
theorem cLen {w : World} {L : Loc} {s : St} (h : Mm w L s) :
    Calls Tryd.prog 56 #[.pointer (some ⟨L.b, 0, none⟩)] w fun e w' => e = .returned (.int .i64 s.ws.length) ∧ w' = w := by
  have c0 := h.cell0
  go_enter Tryd.func56, Tryd.ntmps56
  go_wp2
  go_ret
  exact ⟨rfl, rfl⟩

/-- behind a Take -/
theorem took_at {T : TypeId} {w : World} {L : Loc} {s : St} (h : MemAt T w L s) :
    MemAt T (w.setCell ⟨L.b, 3, none⟩ (.slice none 0 0)) ⟨L.b, L.g, L.cp, .slice none 0 0⟩ s.took where
  blk := by rw [heap_setCell_same w _ 3 _ _ _ h.blk]; rfl
  row := ownsRow_setCell_other h.row (by simp [Value.ownBlock]; exact fun e => h.bg e.symm) _
  unt := World.ownsRow_nil _ _ _ _
  non := fun _ => rfl
  ht := h.ht
theorem took_step {T : TypeId} {w : World} {L : Loc} {s : St} (h : MemAt T w L s) : Step w L (w.setCell ⟨L.b, 3, none⟩ (.slice none 0 0)) ⟨L.b, L.g, L.cp, .slice none 0 0⟩ :=
  ⟨Kept.setCell _ _ _ _ (by simp [Loc.fp]), fun k hk => by simp [Loc.fp, Value.ownBlock] at hk; left; rcases hk with rfl | rfl <;> simp [Loc.fp], rfl⟩
end Go.Proofs.YtoablodmodnamaaDoor

namespace Go.Proofs.YtoablodmodnamaaDoor
set_option linter.unusedVariables false
open Go.ChangeShapes Go.WideShapes Go.RowKit

theorem cLoadDo {w : World} {g off c cb : Nat} {x : Int} {v : Value} (hc : w.cell? ⟨g, off, none⟩ = some (.int .u64 x)) (hb : w.cell? ⟨cb, 0, none⟩ = some v) (hf : w.frozen? ⟨cb, 0, none⟩ = false) :
    Calls Tryd.prog 77 #[.slice (some ⟨g, off, none⟩) 1 c, .pointer (some ⟨cb, 0, none⟩)] w fun e w' => e = .returned (.bool true) ∧ w' = w.setCell ⟨cb, 0, none⟩ (.int .u64 x) := by
  go_enter Tryd.func77, Tryd.ntmps77
  go_wp2
  go_ret
  exact ⟨rfl, rfl⟩
theorem cStoreDo {w : World} {g off c cb : Nat} {x : Int} {v : Value} (hc : w.cell? ⟨g, off, none⟩ = some v) (hf : w.frozen? ⟨g, off, none⟩ = false) (hb : w.cell? ⟨cb, 0, none⟩ = some (.int .u64 x)) :
    Calls Tryd.prog 78 #[.slice (some ⟨g, off, none⟩) 1 c, .pointer (some ⟨cb, 0, none⟩)] w fun e w' => e = .returned (.bool true) ∧ w' = w.setCell ⟨g, off, none⟩ (.int .u64 x) := by
  go_enter Tryd.func78, Tryd.ntmps78
  go_wp2
  go_ret
  exact ⟨rfl, rfl⟩
theorem cSwap (w : World) (p q : Addr) (n m c d : Nat) :
    Calls Tryd.prog 97 #[.slice (some p) n c, .slice (some q) m d] w fun e w' => e = .returned (.func (.func 110) #[] #[.pointer (some ⟨w.heap.size, 0, none⟩), .pointer (some ⟨w.heap.size + 1, 0, none⟩)]) ∧
      w' = (w.alloc (.cells #[.slice (some p) n c] 77)).alloc (.cells #[.slice (some q) m d] 77) := by
  go_enter Tryd.func97, Tryd.ntmps97
  go_wp2
  go_ret
  exact ⟨rfl, rfl⟩

theorem cEq1 {w : World} {g off c h : Nat} {x o : Int} (hc : w.cell? ⟨g, off, none⟩ = some (.int .u64 x)) (hb : w.cell? ⟨h, 0, none⟩ = some (.int .u64 o)) :
    Calls Tryd.prog 111 #[.slice (some ⟨g, off, none⟩) 1 c, .slice (some ⟨h, 0, none⟩) 1 1] w fun e w' => e = .returned (.bool (x == o)) ∧ Kept [] w w' ∧ w'.heap = w.heap := by
  by_cases hx : x = o
  · subst hx
    go_enter Tryd.func111, Tryd.ntmps111
    go_wp2
    refine wp_loop_rounds 2 ?_
    rw [rounds_succ]
    go_wp2
    go_region
    go_wp2
    rw [rounds_succ]
    go_wp2
    go_ret
    exact ⟨by simp, Kept.drew _ _, rfl⟩
  · have hx' : (x != o) = true := by simpa using hx
    have hx'' : (x == o) = false := by simpa using hx
    rw [hx'']
    go_enter Tryd.func111, Tryd.ntmps111
    go_wp2
    refine wp_loop_rounds 2 ?_
    rw [rounds_succ]
    go_wp2
    go_region
    go_wp2
    go_ret
    exact ⟨rfl, Kept.drew _ _, rfl⟩
theorem Kept.drew2 (F : List Nat) (w : World) : Kept F w w.drew.drew := (Kept.drew F w).trans (Kept.drew F _) fun _ h => .inl h
theorem cEq2 {w : World} {g off c h : Nat} {x y o p : Int} (hc : w.cell? ⟨g, off, none⟩ = some (.int .u64 x)) (hc' : w.cell? ⟨g, off + 1, none⟩ = some (.int .u64 y)) (hb : w.cell? ⟨h, 0, none⟩ = some (.int .u64 o)) (hb' : w.cell? ⟨h, 1, none⟩ = some (.int .u64 p)) :
    Calls Tryd.prog 111 #[.slice (some ⟨g, off, none⟩) 2 c, .slice (some ⟨h, 0, none⟩) 2 2] w fun e w' => e = .returned (.bool (x == o && y == p)) ∧ Kept [] w w' ∧ w'.heap = w.heap := by
  by_cases hx : x = o
  · subst hx
    by_cases hy : y = p
    · subst hy
      go_enter Tryd.func111, Tryd.ntmps111
      go_wp2
      refine wp_loop_rounds 3 ?_
      rw [rounds_succ]
      go_wp2
      go_region
      go_wp2
      rw [rounds_succ]
      go_wp2
      go_region
      go_wp2
      rw [rounds_succ]
      go_wp2
      go_ret
      exact ⟨by simp, Kept.drew2 _ _, rfl⟩
    · have hy' : (y != p) = true := by simpa using hy
      have hy'' : (x == x && y == p) = false := by simpa using hy
      rw [hy'']
      go_enter Tryd.func111, Tryd.ntmps111
      go_wp2
      refine wp_loop_rounds 3 ?_
      rw [rounds_succ]
      go_wp2
      go_region
      go_wp2
      rw [rounds_succ]
      go_wp2
      go_region
      go_wp2
      go_ret
      exact ⟨rfl, Kept.drew2 _ _, rfl⟩
  · have hx' : (x != o) = true := by simpa using hx
    have hx'' : (x == o && y == p) = false := by simp [hx]
    rw [hx'']
    go_enter Tryd.func111, Tryd.ntmps111
    go_wp2
    refine wp_loop_rounds 3 ?_
    rw [rounds_succ]
    go_wp2
    go_region
    go_wp2
    go_ret
    exact ⟨rfl, Kept.drew _ _, rfl⟩

/-- some words behind one another, laid over the words of a memory -/
theorem laid_over {T : TypeId} {w : World} {L : Loc} {s : St} (h : MemAt T w L s) (cur : Array Value) (hg : w.heap[L.g]? = some (.cells cur 76 (0, 0))) (a : Nat) (xs : List Int) (ha : a + xs.length ≤ s.ws.length) :
    MemAt T (w.setRow L.g (cur.toList.take a ++ (wds xs ++ cur.toList.drop (a + (wds xs).length))).toArray) L ⟨s.ws.take a ++ (xs ++ s.ws.drop (a + xs.length)), s.c, s.t, s.l⟩ := by
  obtain ⟨cur', hg', hc1, hc2, hc3, hc4⟩ := h.gblk
  rw [hg] at hg'
  simp at hg'
  subst hg'
  have hlen : (s.ws.take a ++ (xs ++ s.ws.drop (a + xs.length))).length = s.ws.length := by simp; omega
  refine ⟨?_, ⟨?_, .inr ⟨L.g, L.cp, _, by simp only [hlen], Nat.zero_le _, setRow_heap w _ cur _ _ _ hg, by simp only [hlen]; exact hc1, hc2, ?_, ?_⟩⟩, ?_, h.non, h.ht⟩
  · rw [setRow_other _ _ _ _ h.bg, h.blk, hlen]
  · simp only [wds_length]; omega
  · simp [wds_length]; omega
  · have e1 : cur.toList.take a = (wds s.ws).take a := by rw [← hc4, List.take_take]; congr 1; omega
    have e2 : (cur.toList.drop (a + xs.length)).take (s.ws.length - (a + xs.length)) = (wds s.ws).drop (a + xs.length) := by rw [← hc4, List.drop_take]
    rw [hlen]
    simp only [Nat.mul_one, wds_length]
    rw [e1]
    have e3 : ((wds s.ws).take a).length = a := by simp [wds_length]; omega
    have t1 : ((wds s.ws).take a).take s.ws.length = (wds s.ws).take a := List.take_of_length_le (by omega)
    have t2 : (wds xs).take (s.ws.length - a) = wds xs := List.take_of_length_le (by rw [wds_length]; omega)
    rw [List.take_append, t1, e3, List.take_append, t2, wds_length, Nat.sub_sub, e2]
    simp [wds, List.map_take, List.map_drop]
  · exact own_kept (F := [L.g]) h.unt ⟨rfl, rfl, rfl, by simp [World.setRow], fun k _ hk => setRow_other _ _ _ _ (by simpa using hk)⟩ fun k hk => by
      simp only [List.mem_singleton]
      exact fun e => h.gu (e ▸ hk)
theorem set_one (l : List Int) (a : Nat) (x : Int) (h : a < l.length) : l.take a ++ ([x] ++ l.drop (a + 1)) = l.set a x := by
  rw [List.set_eq_take_append_cons_drop, if_pos h]; rfl
theorem set_two (l : List Int) (a : Nat) (x y : Int) (h : a + 1 < l.length) : l.take a ++ ([x, y] ++ l.drop (a + 2)) = (l.set a x).set (a + 1) y := by
  rw [← set_one (l.set a x) (a + 1) y (by simpa using h)]
  rw [List.drop_set_of_lt (by omega)]
  have : (l.set a x).take (a + 1) = l.take a ++ [x] := by
    rw [List.take_set, List.take_add_one, List.getElem?_eq_getElem (by omega)]
    rw [List.set_append_right _ _ (by simp; omega)]
    simp [Nat.min_eq_left (show a ≤ l.length by omega)]
  rw [this]; simp
theorem kept_row (w : World) (g : Nat) (cs : Array Value) : Kept [g] w (w.setRow g cs) := ⟨rfl, rfl, rfl, by simp [World.setRow], fun k _ hk => setRow_other _ _ _ _ (by simpa using hk)⟩
end Go.Proofs.YtoablodmodnamaaDoor

namespace Go.Proofs.YtoablodmodnamaaDoor
set_option linter.unusedVariables false
open Go.ChangeShapes Go.WideShapes Go.RowKit

theorem same_cell {w w1 : World} (h : w1.heap = w.heap) (a : Addr) : w1.cell? a = w.cell? a := by simp [World.cell?, h]
theorem size31 : (Tryd.prog.info? 76).map (·.size) = some 1 := by kernel_rfl
theorem put1 {T : TypeId} {w : World} {L : Loc} {s : St} {cur : Array Value} (h : MemAt T w L s) (hg : w.heap[L.g]? = some (.cells cur 76 (0, 0))) (a : Nat) (x : Int) (ha : a < s.ws.length) :
    MemAt T (w.setRow L.g (cur.toList.take a ++ ([Value.int .u64 x] ++ cur.toList.drop (a + [Value.int .u64 x].length))).toArray) L (s.put a x) := by
  have := laid_over h cur hg a [x] (by simp; omega)
  simp only [List.length_singleton, set_one _ _ _ ha] at this
  exact this
theorem put2 {T : TypeId} {w : World} {L : Loc} {s : St} {cur : Array Value} (h : MemAt T w L s) (hg : w.heap[L.g]? = some (.cells cur 76 (0, 0))) (a : Nat) (x y : Int) (ha : a + 1 < s.ws.length) :
    MemAt T (w.setRow L.g (cur.toList.take a ++ ([Value.int .u64 x, Value.int .u64 y] ++ cur.toList.drop (a + [Value.int .u64 x, Value.int .u64 y].length))).toArray) L ((s.put a x).put (a + 1) y) := by
  have := laid_over h cur hg a [x, y] (by simp; omega)
  simp only [List.length_cons, List.length_nil, Nat.zero_add, set_two _ _ _ _ ha] at this
  exact this

set_option maxRecDepth 8000 in
theorem cSwap1 {w : World} {L : Loc} {s : St} {a c p1 p2 h1 h2 : Nat} {old x : Int} (hm : Mm w L s) (ha : a < s.ws.length)
    (q1 : w.cell? ⟨p1, 0, none⟩ = some (.slice (some ⟨h1, 0, none⟩) 1 1)) (q2 : w.cell? ⟨p2, 0, none⟩ = some (.slice (some ⟨h2, 0, none⟩) 1 1))
    (r1 : w.cell? ⟨h1, 0, none⟩ = some (.int .u64 old)) (r2 : w.cell? ⟨h2, 0, none⟩ = some (.int .u64 x)) :
    Calls Tryd.prog 110 #[.slice (some ⟨L.g, a, none⟩) 1 c, .pointer (some ⟨p1, 0, none⟩), .pointer (some ⟨p2, 0, none⟩)] w fun e w' =>
      e = .returned (.bool (s.word a == old)) ∧ Mm w' L (if s.word a == old then s.put a x else s) ∧ Kept [L.g] w w' := by
  have ca : w.cell? ⟨L.g, a, none⟩ = some (.int .u64 (s.word a)) := hm.wcell a ha
  rcases hok : (s.word a == old) with _ | _
  · go_enter Tryd.func110, Tryd.ntmps110
    go_wp2_with (go_at_call 111; refine (cEq1 ca r1).mono ?_; rintro e w1 ⟨rfl, hk, hh⟩; rw [hok])
    go_ret
    exact ⟨rfl, hm.on hk (by simp), hk.mono (by simp)⟩
  · obtain ⟨cur, hg, hc1, _, hc3, _⟩ := hm.gblk
    go_enter Tryd.func110, Tryd.ntmps110
    go_wp2_with (go_at_call 111; refine (cEq1 ca r1).mono ?_; rintro e w1 ⟨rfl, hk, hh⟩; rw [hok]; have hg1 : w1.heap[L.g]? = some (.cells cur 76 (0, 0)) := (by rw [hh]; exact hg); have q2' := (same_cell hh _).trans q2; have r2' := (same_cell hh _).trans r2; have hcp := run_copy_row (P := Tryd.prog) w1 77 77 3 76 L.g a 1 c ⟨h2, 0, none⟩ 1 1 cur 76 [.int .u64 x] Tryd.underlying77 size31 hg1 rfl (by intro j v hv; match j, hv with | 0, hv => simp at hv; subst hv; simpa [Addr.add] using r2') (by simp; omega) (by intro u hu; simp at hu; subst hu; rfl))
    have R := put1 (hm.on hk (by simp)) hg1 a x ha
    have R2 : Kept [L.g] w (w1.setRow L.g (cur.toList.take a ++ ([Value.int .u64 x] ++ cur.toList.drop (a + [Value.int .u64 x].length))).toArray) := (hk.mono (by simp)).trans (kept_row _ _ _) fun k hk => .inl hk
    go_ret
    exact ⟨rfl, R, R2⟩

end Go.Proofs.YtoablodmodnamaaDoor
