/-
  Contracts of the reference's memory: the same plain functions.
-/
import Derived.Test.YtoablodmodnamaaDoorOwnq
namespace Go.Proofs.YtoablodmodnamaaDoor
set_option linter.unusedVariables false
set_option maxRecDepth 100000
open Go.ChangeShapes Go.WideShapes Go.RowKit

section
variable {T : TypeId} {w : World} {L : Loc} {s : St}
theorem cnt_at (h : MemAt T w L s) : MemAt T (w.setCell ⟨L.b, 1, none⟩ (.int .i64 (s.c + 1))) L ⟨s.ws, s.c + 1, s.t, s.l⟩ where
  blk := by rw [heap_setCell_same w _ 1 _ _ _ h.blk]; rfl
  row := ownsRow_setCell_other h.row (by simp [Value.ownBlock]; exact fun e => h.bg e.symm) _
  unt := ownsRow_setCell_other h.unt h.bu _
  non := h.non
  ht := h.ht
theorem app_now {w2 : World} {o : Obj} (h : MemAt T w L s) (hg : (w.alloc o).grownBy w2 L.vu.ownBlock) :
    w2.heap[L.b]? = some (.cells #[.slice (some ⟨L.g, 0, none⟩) s.ws.length L.cp, .int .i64 s.c, .int .i64 s.t, L.vu] T (0, 0)) := by
  rw [hg.block L.b (by simp; exact Nat.lt_succ_of_lt (lt_of_block h.blk)) (fun e => h.bu e.symm), Below.heap_alloc _ _ _ (lt_of_block h.blk), h.blk]
theorem app_end {w2 : World} {o : Obj} {g cp : Nat} {op a : Int} {ok : Bool} (h : MemAt T w L s)
    (hown : w2.ownsRow 0 154 3 (.slice (some ⟨g, 0, none⟩) (s.l.length + 1) cp) (s.l.length + 1) (accs s.l ++ [.int .i64 op, .int .i64 a, .bool ok]))
    (hg : (w.alloc o).grownBy w2 L.vu.ownBlock) (hn : L.vu.ownBlock = some g ∨ w.heap.size ≤ g) :
    MemAt T (w2.setCell ⟨L.b, 3, none⟩ (.slice (some ⟨g, 0, none⟩) (s.l.length + 1) cp)) ⟨L.b, L.g, L.cp, .slice (some ⟨g, 0, none⟩) (s.l.length + 1) cp⟩ ⟨s.ws, s.c, s.t, s.l ++ [(op, a, ok)]⟩ ∧
    Step w L (w2.setCell ⟨L.b, 3, none⟩ (.slice (some ⟨g, 0, none⟩) (s.l.length + 1) cp)) ⟨L.b, L.g, L.cp, .slice (some ⟨g, 0, none⟩) (s.l.length + 1) cp⟩ := by
  have hb := app_now h hg
  have hgb : g ≠ L.b := by
    rintro rfl
    rcases hn with hn | hn
    · exact h.bu hn
    · have := lt_of_block h.blk; omega
  have K1 : Kept L.fp w w2 := (Kept.alloc L.fp w o).trans (Kept.grown L.fp hg fun k hk => by simp [Loc.fp, hk]) fun _ hk => .inl hk
  have K2 : Kept L.fp w (w2.setCell ⟨L.b, 3, none⟩ (.slice (some ⟨g, 0, none⟩) (s.l.length + 1) cp)) := K1.trans (Kept.setCell L.fp w2 ⟨L.b, 3, none⟩ _ (by simp [Loc.fp])) fun _ hk => .inl hk
  refine ⟨⟨?_, ?_, ?_, fun h => by simp at h, h.ht⟩, ⟨K2, ?_, rfl⟩⟩
  · rw [heap_setCell_same w2 _ 3 _ _ _ hb]; rfl
  · have r1 := (h.row.alloc o).kept hg (.inr (by simp only [Value.ownBlock]; exact fun e => h.gu e.symm))
    exact ownsRow_setCell_other r1 (by simp [Value.ownBlock]; exact fun e => h.bg e.symm) _
  · have := ownsRow_setCell_other hown (a := ⟨L.b, 3, none⟩) (by simp [Value.ownBlock]; exact hgb) (.slice (some ⟨g, 0, none⟩) (s.l.length + 1) cp)
    simpa [accs_append, accs] using this
  · intro k hk
    simp only [Loc.fp, Value.ownBlock, Option.toList_some, List.mem_cons, List.not_mem_nil, or_false] at hk
    rcases hk with rfl | rfl | rfl
    · exact .inl (by simp [Loc.fp])
    · exact .inl (by simp [Loc.fp])
    · rcases hn with hn | hn
      · exact .inl (by simp [Loc.fp, hn])
      · exact .inr (by omega)
end

theorem put_step {w w' : World} {L L' : Loc} (st : Step w L w' L') (j : Nat) (x : Int) : Step w L (w'.setCell ⟨L'.g, j, none⟩ (.int .u64 x)) L' :=
  st.trans ⟨Kept.setCell L'.fp w' ⟨L'.g, j, none⟩ _ (by simp [Loc.fp]), fun _ hk => .inl hk, rfl⟩
theorem rThere {w : World} {L : Loc} {s : St} (h : Rm w L s) (f : s.Fit) (a : Int) :
    Calls Tryd.prog 79 #[.pointer (some ⟨L.b, 0, none⟩), .int .i64 a] w fun e w' => e = .returned (.bool (s.is1 a)) ∧ w' = w := by
  have c0 := h.cell0
  have n1 := f.n1
  have n4 := f.n4
  by_cases h0 : 0 ≤ a
  · have r : s.is1 a = decide (a < (s.ws.length : Int)) := by simp only [St.is1, h0, decide_true, Bool.true_and]
    rw [r]
    go_enter Tryd.func79, Tryd.ntmps79
    go_wp2
    go_ret
    exact ⟨rfl, rfl⟩
  · have r : s.is1 a = false := by simp [St.is1]; omega
    rw [r]
    go_enter Tryd.func79, Tryd.ntmps79
    go_wp2
    go_ret
    exact ⟨rfl, rfl⟩

set_option maxHeartbeats 800000 in
set_option maxRecDepth 100000 in
theorem rTold {w : World} {L : Loc} {s : St} (hm : Rm w L s) (f : s.Fit) (hc : s.c < 1000000) (op a : Int) (is ok : Bool) :
    Calls Tryd.prog 80 #[.pointer (some ⟨L.b, 0, none⟩), .int .i64 op, .int .i64 a, .bool is, .bool ok] w fun e w' => e = .returned (.tuple #[]) ∧ ∃ L', Rm w' L' (s.tell op a is ok) ∧ Step w L w' L' := by
  obtain ⟨i0, hi, hz0, hz1, hz2⟩ := info_parts info44
  have c1 := hm.cell1
  have c2 := hm.cell2
  have c3 := hm.cell3
  have f1 := hm.free 1
  have f2 := hm.free 2
  have f3 := hm.free 3
  have t0 := f.t0
  have tc := f.tc
  have lc := f.lc
  have hm1 := cnt_at hm
  have K1 : Kept L.fp w (w.setCell ⟨L.b, 1, none⟩ (.int .i64 (s.c + 1))) := Kept.setCell L.fp w ⟨L.b, 1, none⟩ _ (by simp [Loc.fp])
  have S1 : (w.setCell ⟨L.b, 1, none⟩ (.int .i64 (s.c + 1))).heap.size = w.heap.size := by simp
  cases is
  case true =>
    go_enter Tryd.func80, Tryd.ntmps80
    go_wp2_with (at_builtin; refine wpList_append_mine _ rfl _ _ 78 rfl 154 i0 _ 3 24 Tryd.underlying78 hi hz0 hz1 hz2 rfl (by decide) L.vu _ _ rfl (hm1.unt.alloc _) ⟨w.heap.size, 0, none⟩ 1 1 [.int .i64 op, .int .i64 a, .bool ok] rfl rfl ?c1 ?c2 ?c3 ?c4 (by decide) ?_)
    case c1 => exact new3 _ _ (by simp) _ _ _ _
    case c2 => intro u hu; simp at hu; rcases hu with rfl | rfl | rfl <;> rfl
    case c3 => unfold maxLen; first | omega | (simp; omega)
    case c4 => first | omega | (simp; omega)
    intro g cp w2 hown hgr hnew
    have hb := app_now hm1 hgr
    have k3 : w2.cell? ⟨L.b, 3, none⟩ = some L.vu := by rw [cell_of_row w2 _ _ _ _ _ hb]; rfl
    have e3 : w2.frozen? ⟨L.b, 3, none⟩ = false := frozen_of_row w2 _ _ _ _ hb
    have R := app_end hm1 hown hgr (hnew.imp id fun h => by first | omega | (simp; simp at h; omega))
    have R1 := R.1
    have R2 : Step w L _ _ := ⟨K1.trans R.2.kept fun _ hk => .inl hk, fun k hk => (R.2.new k hk).imp id fun h => by simpa using h, R.2.b⟩
    clear hb hown hgr hnew R c1 c2 c3
    go_wp2
    go_end0
    exact ⟨rfl, _, R1, R2⟩
  case false =>
    have hm2 := trap_at hm1
    have S2 : ((w.setCell ⟨L.b, 1, none⟩ (.int .i64 (s.c + 1))).setCell ⟨L.b, 2, none⟩ (.int .i64 (s.t + 1))).heap.size = w.heap.size := by simp
    have K2 := K1.trans (Kept.setCell L.fp (w.setCell ⟨L.b, 1, none⟩ (.int .i64 (s.c + 1))) ⟨L.b, 2, none⟩ (.int .i64 (s.t + 1)) (by simp [Loc.fp])) fun _ hk => .inl hk
    go_enter Tryd.func80, Tryd.ntmps80
    go_wp2_with (at_builtin; refine wpList_append_mine _ rfl _ _ 78 rfl 154 i0 _ 3 24 Tryd.underlying78 hi hz0 hz1 hz2 rfl (by decide) L.vu _ _ rfl (hm2.unt.alloc _) ⟨w.heap.size, 0, none⟩ 1 1 [.int .i64 op, .int .i64 a, .bool ok] rfl rfl ?c1 ?c2 ?c3 ?c4 (by decide) ?_)
    case c2 => exact ⟨rfl, rfl, rfl⟩
    case c3 => unfold maxLen; first | omega | (simp; omega)
    case c4 => first | omega | (simp; omega)
    intro g cp w2 hown hgr hnew
    have hb := app_now hm2 hgr
    have k3 : w2.cell? ⟨L.b, 3, none⟩ = some L.vu := by rw [cell_of_row w2 _ _ _ _ _ hb]; rfl
    have e3 : w2.frozen? ⟨L.b, 3, none⟩ = false := frozen_of_row w2 _ _ _ _ hb
    have R := app_end hm2 hown hgr (hnew.imp id fun h => by rw [S2]; first | omega | (simp at h; omega))
    have R1 := R.1
    have R2 : Step w L _ _ := ⟨K2.trans R.2.kept fun _ hk => .inl hk, fun k hk => (R.2.new k hk).imp id fun h => by simpa using h, R.2.b⟩
    clear hb hown hgr hnew R c1 c2 c3
    go_wp2
    go_end0
    exact ⟨rfl, _, R1, R2⟩

theorem rLoad {w : World} {L : Loc} {s : St} (hm : Rm w L s) (f : s.Fit) (hc : s.c < 1000000) (a : Int) :
    Calls Tryd.prog 44 #[.pointer (some ⟨L.b, 0, none⟩), .int .i64 a] w fun e w' => e = .returned (.int .u64 (s.got a)) ∧ ∃ L', Rm w' L' (s.load a) ∧ Step w L w' L' := by
  have n4 := f.n4
  cases hi : s.is1 a
  case true =>
    obtain ⟨j, rfl, hj⟩ := St.is1_nat hi
    obtain ⟨v, hv⟩ : ∃ v, s.ws.getD j 0 = v := ⟨_, rfl⟩
    have hg : s.got j = v := by simp only [St.got, hi, if_true, St.word, Int.toNat_natCast]; exact hv
    have hl : s.load j = s.tell 1 j true true := by simp [St.load, hi]
    rw [hg, hl]
    go_enter Tryd.func44, Tryd.ntmps44
    go_wp2_with (first
      | (go_at_call 79; refine (rThere hm f j).mono ?_; rintro e w1 ⟨rfl, hw1⟩; rw [hw1, hi]; clear hw1 w1)
      | (go_at_call 80; refine (rTold hm f hc 1 j true true).mono ?_; rintro e w2 ⟨rfl, L', hm', st⟩; have k0 := hm'.cell0; rw [st.b] at k0; have kw := hm'.wcell j hj; change w2.cell? _ = some (.slice _ s.ws.length _) at k0; change w2.cell? _ = some (.int .u64 (s.ws.getD j 0)) at kw; rw [hv] at kw))
    go_ret
    exact ⟨rfl, _, hm', st⟩
  case false =>
    have hg : s.got a = 0 := by simp [St.got, hi]
    have hl : s.load a = s.tell 1 a false false := by simp [St.load, hi]
    rw [hg, hl]
    go_enter Tryd.func44, Tryd.ntmps44
    go_wp2_with (first
      | (go_at_call 79; refine (rThere hm f a).mono ?_; rintro e w1 ⟨rfl, hw1⟩; rw [hw1, hi]; clear hw1 w1)
      | (go_at_call 80; refine (rTold hm f hc 1 a false false).mono ?_; rintro e w2 ⟨rfl, hm'⟩))
    go_ret
    exact ⟨rfl, hm'⟩

theorem rStore {w : World} {L : Loc} {s : St} (hm : Rm w L s) (f : s.Fit) (hc : s.c < 1000000) (a x : Int) :
    Calls Tryd.prog 39 #[.pointer (some ⟨L.b, 0, none⟩), .int .i64 a, .int .u64 x] w fun e w' => e = .returned (.tuple #[]) ∧ ∃ L', Rm w' L' (s.store a x) ∧ Step w L w' L' := by
  have n4 := f.n4
  cases hi : s.is1 a
  case true =>
    obtain ⟨j, rfl, hj⟩ := St.is1_nat hi
    obtain ⟨v, hv⟩ : ∃ v, s.ws.getD j 0 = v := ⟨_, rfl⟩
    have hl : s.store j x = (s.tell 2 j true true).put j x := by simp [St.store, hi]; rfl
    rw [hl]
    go_enter Tryd.func39, Tryd.ntmps39
    go_wp2_with (first
      | (go_at_call 79; refine (rThere hm f j).mono ?_; rintro e w1 ⟨rfl, hw1⟩; rw [hw1, hi]; clear hw1 w1)
      | (go_at_call 80; refine (rTold hm f hc 2 j true true).mono ?_; rintro e w2 ⟨rfl, L', hm', st⟩; have k0 := hm'.cell0; rw [st.b] at k0; have kw := hm'.wcell j hj; have kf := hm'.wfree j; change w2.cell? _ = some (.slice _ s.ws.length _) at k0; change w2.cell? _ = some (.int .u64 (s.ws.getD j 0)) at kw; rw [hv] at kw))
    go_end0
    exact ⟨rfl, L', put_cell hm' j x, put_step st j x⟩
  case false =>
    have hl : s.store a x = s.tell 2 a false false := by simp [St.store, hi]
    rw [hl]
    go_enter Tryd.func39, Tryd.ntmps39
    go_wp2_with (first
      | (go_at_call 79; refine (rThere hm f a).mono ?_; rintro e w1 ⟨rfl, hw1⟩; rw [hw1, hi]; clear hw1 w1)
      | (go_at_call 80; refine (rTold hm f hc 2 a false false).mono ?_; rintro e w2 ⟨rfl, hm'⟩))
    go_end0
    exact ⟨rfl, hm'⟩

theorem rCAS {w : World} {L : Loc} {s : St} (hm : Rm w L s) (f : s.Fit) (hc : s.c < 1000000) (a o x : Int) :
    Calls Tryd.prog 86 #[.pointer (some ⟨L.b, 0, none⟩), .int .i64 a, .int .u64 o, .int .u64 x] w fun e w' => e = .returned (.bool (s.ok1 a o)) ∧ ∃ L', Rm w' L' (s.cas a o x) ∧ Step w L w' L' := by
  have n4 := f.n4
  cases hi : s.is1 a
  case true =>
    obtain ⟨j, rfl, hj⟩ := St.is1_nat hi
    obtain ⟨v, hv⟩ : ∃ v, s.ws.getD j 0 = v := ⟨_, rfl⟩
    have c0 := hm.cell0
    have cw := hm.wcell j hj
    rw [hv] at cw
    have hw : s.word j = v := by simp only [St.word, Int.toNat_natCast]; exact hv
    by_cases ho : v = o
    · have hk : s.ok1 j o = true := by simp only [St.ok1, hi, Bool.true_and, hw]; simpa using ho
      have hl : s.cas j o x = (s.tell 3 j true true).put j x := by simp [St.cas, hk, hi]; rfl
      have hd : (v == o) = true := by simpa using ho
      rw [hl, hk]
      clear ho
      go_enter Tryd.func86, Tryd.ntmps86
      go_wp2_with (first
        | (go_at_call 79; refine (rThere hm f j).mono ?_; rintro e w1 ⟨rfl, hw1⟩; rw [hw1, hi]; clear hw1 w1)
        | (go_at_call 80; refine (rTold hm f hc 3 j true true).mono ?_; rintro e w2 ⟨rfl, L', hm', st⟩; have k0 := hm'.cell0; rw [st.b] at k0; have kw := hm'.wcell j hj; have kf := hm'.wfree j; change w2.cell? _ = some (.slice _ s.ws.length _) at k0; change w2.cell? _ = some (.int .u64 (s.ws.getD j 0)) at kw; rw [hv] at kw))
      go_ret
      exact ⟨rfl, L', put_cell hm' j x, put_step st j x⟩
    · have hk : s.ok1 j o = false := by simp only [St.ok1, hi, Bool.true_and, hw]; simpa using ho
      have hl : s.cas j o x = s.tell 3 j true false := by simp [St.cas, hk, hi]
      have hd : (v == o) = false := by simpa using ho
      rw [hl, hk]
      clear ho
      go_enter Tryd.func86, Tryd.ntmps86
      go_wp2_with (first
        | (go_at_call 79; refine (rThere hm f j).mono ?_; rintro e w1 ⟨rfl, hw1⟩; rw [hw1, hi]; clear hw1 w1)
        | (go_at_call 80; refine (rTold hm f hc 3 j true false).mono ?_; rintro e w2 ⟨rfl, hm'⟩))
      go_ret
      exact ⟨rfl, hm'⟩
  case false =>
    have hk : s.ok1 a o = false := by simp [St.ok1, hi]
    have hl : s.cas a o x = s.tell 3 a false false := by simp [St.cas, hk, hi]
    rw [hl, hk]
    go_enter Tryd.func86, Tryd.ntmps86
    go_wp2_with (first
      | (go_at_call 79; refine (rThere hm f a).mono ?_; rintro e w1 ⟨rfl, hw1⟩; rw [hw1, hi]; clear hw1 w1)
      | (go_at_call 80; refine (rTold hm f hc 3 a false false).mono ?_; rintro e w2 ⟨rfl, hm'⟩))
    go_ret
    exact ⟨rfl, hm'⟩
end Go.Proofs.YtoablodmodnamaaDoor
