/-
  An access tells of itself: what the memory is behind that.
-/
import Derived.Test.YtoablodmodnamaaDoorCalls3q
namespace Go.Proofs.YtoablodmodnamaaDoor
set_option linter.unusedVariables false
open Go.ChangeShapes Go.WideShapes Go.RowKit

theorem info44 : (Tryd.prog.info? 154).map (fun i => (i.zero, i.size, i.bytes)) = some (some (.agg #[.int .i64 0, .int .i64 0, .bool false]), 3, 24) := by kernel_rfl

section
variable {T : TypeId} {w : World} {L : Loc} {s : St}
theorem unt_now (h : MemAt T w L s) (u : Value) (o : Obj) : ((w.setCell ⟨L.b, 1, none⟩ u).alloc o).ownsRow 0 154 3 L.vu s.l.length (accs s.l) := (ownsRow_setCell_other h.unt h.bu _).alloc o
theorem trap_at (h : MemAt T w L s) : MemAt T (w.setCell ⟨L.b, 2, none⟩ (.int .i64 (s.t + 1))) L ⟨s.ws, s.c, s.t + 1, s.l⟩ where
  blk := by rw [heap_setCell_same w _ 2 _ _ _ h.blk]; rfl
  row := ownsRow_setCell_other h.row (by simp [Value.ownBlock]; exact fun e => h.bg e.symm) _
  unt := ownsRow_setCell_other h.unt h.bu _
  non := h.non
  ht := h.ht
/-- the world behind the count and the append -/
theorem b_now {w2 : World} {o : Obj} {u : Value} (h : MemAt T w L s) (hg : ((w.setCell ⟨L.b, 1, none⟩ u).alloc o).grownBy w2 L.vu.ownBlock) :
    w2.heap[L.b]? = some (.cells #[.slice (some ⟨L.g, 0, none⟩) s.ws.length L.cp, u, .int .i64 s.t, L.vu] T (0, 0)) := by
  rw [hg.block L.b (by simp; exact Nat.lt_succ_of_lt (lt_of_block h.blk)) (fun e => h.bu e.symm), Below.heap_alloc _ _ _ (by simp; exact lt_of_block h.blk), heap_setCell_same w _ 1 _ _ _ h.blk]
  rfl
theorem tell_end {w2 : World} {o : Obj} {g cp : Nat} {op a : Int} {ok : Bool} (h : MemAt T w L s)
    (hown : w2.ownsRow 0 154 3 (.slice (some ⟨g, 0, none⟩) (s.l.length + 1) cp) (s.l.length + 1) (accs s.l ++ [.int .i64 op, .int .i64 a, .bool ok]))
    (hg : ((w.setCell ⟨L.b, 1, none⟩ (.int .i64 (s.c + 1))).alloc o).grownBy w2 L.vu.ownBlock) (hn : L.vu.ownBlock = some g ∨ w.heap.size ≤ g) :
    MemAt T (w2.setCell ⟨L.b, 3, none⟩ (.slice (some ⟨g, 0, none⟩) (s.l.length + 1) cp)) ⟨L.b, L.g, L.cp, .slice (some ⟨g, 0, none⟩) (s.l.length + 1) cp⟩ ⟨s.ws, s.c + 1, s.t, s.l ++ [(op, a, ok)]⟩ ∧
    Step w L (w2.setCell ⟨L.b, 3, none⟩ (.slice (some ⟨g, 0, none⟩) (s.l.length + 1) cp)) ⟨L.b, L.g, L.cp, .slice (some ⟨g, 0, none⟩) (s.l.length + 1) cp⟩ := by
  have hb := b_now h hg
  have hgb : g ≠ L.b := by
    rintro rfl
    rcases hn with hn | hn
    · exact h.bu hn
    · have := lt_of_block h.blk; omega
  have K0 : Kept L.fp w ((w.setCell ⟨L.b, 1, none⟩ (.int .i64 (s.c + 1))).alloc o) := (Kept.setCell L.fp w ⟨L.b, 1, none⟩ _ (by simp [Loc.fp])).trans (Kept.alloc L.fp _ o) fun _ hk => .inl hk
  have K1 : Kept L.fp w w2 := K0.trans (Kept.grown L.fp hg fun k hk => by simp [Loc.fp, hk]) fun _ hk => .inl hk
  have K2 : Kept L.fp w (w2.setCell ⟨L.b, 3, none⟩ (.slice (some ⟨g, 0, none⟩) (s.l.length + 1) cp)) := K1.trans (Kept.setCell L.fp w2 ⟨L.b, 3, none⟩ _ (by simp [Loc.fp])) fun _ hk => .inl hk
  refine ⟨⟨?_, ?_, ?_, fun h => by simp at h, h.ht⟩, ⟨K2, ?_, rfl⟩⟩
  · rw [heap_setCell_same w2 _ 3 _ _ _ hb]; rfl
  · have r0 := ownsRow_setCell_other h.row (a := ⟨L.b, 1, none⟩) (by simp [Value.ownBlock]; exact fun e => h.bg e.symm) (.int .i64 (s.c + 1))
    have r1 := (r0.alloc o).kept hg (.inr (by simp only [Value.ownBlock]; exact fun e => h.gu e.symm))
    exact ownsRow_setCell_other r1 (by simp [Value.ownBlock]; exact fun e => h.bg e.symm) _
  · have := ownsRow_setCell_other hown (a := ⟨L.b, 3, none⟩) (by simp [Value.ownBlock]; exact hgb) (.slice (some ⟨g, 0, none⟩) (s.l.length + 1) cp)
    simpa [accs_append, accs] using this
  · intro k hk
    simp only [Loc.fp, Value.ownBlock, Option.toList_some, List.mem_cons, List.not_mem_nil, or_false] at hk
    rcases hk with rfl | rfl | rfl
    · exact .inl (by simp [Loc.fp])
    · exact .inl (by simp [Loc.fp])
    · rcases hn with hn | hn
      · exact .inl (by simp [Loc.fp, hn])
      · exact .inr (by omega)
end

theorem new3 (W : World) (k : Nat) (hk : W.heap.size = k) (x y z : Value) (T : TypeId) : ∀ j u, [x, y, z][j]? = some u → (W.alloc (.cells #[x, y, z] T)).cell? ((⟨k, 0, none⟩ : Addr).add j) = some u := by
  subst hk
  intro j u hu
  rw [Addr.add_lit, Nat.zero_add, cell_of_row _ _ _ _ _ _ (heap_alloc_new W _)]
  simpa using hu

set_option maxHeartbeats 800000 in
set_option maxRecDepth 100000 in
theorem cAccTrap {w : World} {L : Loc} {s : St} (hm : Mm w L s) (f : s.Fit) (hc : s.c < 1000000) (op a n : Int) (fv : Value)
    (hh : Calls Tryd.prog 103 #[.pointer (some ⟨L.b, 0, none⟩), .int .i64 a, .int .i64 n] w fun e w' => e = .returned (.bool false) ∧ w' = w) :
    Calls Tryd.prog 76 #[.pointer (some ⟨L.b, 0, none⟩), .int .i64 op, .int .i64 a, .int .i64 n, fv] w fun e w' => e = .returned (.bool false) ∧ ∃ L', Mm w' L' (s.tell op a false false) ∧ Step w L w' L' := by
  obtain ⟨i0, hi, hz0, hz1, hz2⟩ := info_parts info44
  have c1 := hm.cell1
  have c2 := hm.cell2
  have c3 := hm.cell3
  have f1 := hm.free 1
  have f2 := hm.free 2
  have f3 := hm.free 3
  have t0 := f.t0
  have tc := f.tc
  have lc := f.lc
  have hm1 := trap_at hm
  go_enter Tryd.func76, Tryd.ntmps76
  go_wp2_with (first
    | (go_at_call 103; refine hh.mono ?_; rintro e w1 ⟨rfl, hw1⟩; rw [hw1]; clear hw1 w1)
    | (at_builtin; refine wpList_append_mine _ rfl _ _ 78 rfl 154 i0 _ 3 24 Tryd.underlying78 hi hz0 hz1 hz2 rfl (by decide) L.vu _ _ rfl (unt_now hm1 _ _) ⟨w.heap.size, 0, none⟩ 1 1 [.int .i64 op, .int .i64 a, .bool false] rfl rfl ?c1 ?c2 ?c3 ?c4 (by decide) ?_))
  case c1 => exact new3 _ _ (by simp) _ _ _ _
  case c2 => intro u hu; simp at hu; rcases hu with rfl | rfl | rfl <;> rfl
  case c3 => unfold maxLen; omega
  case c4 => omega
  intro g cp w2 hown hgr hnew
  have hb := b_now hm1 hgr
  have k3 : w2.cell? ⟨L.b, 3, none⟩ = some L.vu := by rw [cell_of_row w2 _ _ _ _ _ hb]; rfl
  have e3 : w2.frozen? ⟨L.b, 3, none⟩ = false := frozen_of_row w2 _ _ _ _ hb
  have R := tell_end hm1 hown hgr (hnew.imp id fun h => by first | omega | (simp; omega))
  have R1 := R.1
  have R2 : Step w L _ _ := ⟨(Kept.setCell L.fp w ⟨L.b, 2, none⟩ _ (by simp [Loc.fp])).trans R.2.kept fun _ hk => .inl hk, fun k hk => (R.2.new k hk).imp id fun h => by simpa using h, R.2.b⟩
  clear hb hown hgr hnew R c1 c2 c3
  go_wp2
  go_ret
  exact ⟨rfl, _, R1, R2⟩

set_option maxHeartbeats 800000 in
set_option maxRecDepth 100000 in
theorem cAccLoad {w : World} {L : Loc} {s s1 : St} {X : World → Prop} {ok : Bool} (hm : Mm w L s) (f : s.Fit) (f1 : s1.Fit) (hc : s1.c < 1000000) (op : Int) (a n p : Nat) (ha : a + n ≤ s.ws.length) (hn : 1 ≤ n)
    (hh : Calls Tryd.prog 103 #[.pointer (some ⟨L.b, 0, none⟩), .int .i64 a, .int .i64 n] w fun e w' => e = .returned (.bool true) ∧ w' = w)
    (hd : Calls Tryd.prog 77 #[.slice (some ⟨L.g, a, none⟩) n (L.cp - a), .pointer (some ⟨p, 0, none⟩)] w fun e w' => e = .returned (.bool ok) ∧ Mm w' L s1 ∧ X w') :
    Calls Tryd.prog 76 #[.pointer (some ⟨L.b, 0, none⟩), .int .i64 op, .int .i64 a, .int .i64 n, .func (.func 77) #[] #[.pointer (some ⟨p, 0, none⟩)]] w fun e w' =>
      e = .returned (.bool ok) ∧ ∃ w1 L', X w1 ∧ Mm w1 L s1 ∧ Mm w' L' ⟨s1.ws, s1.c + 1, s1.t, s1.l ++ [(op, (a : Int), ok)]⟩ ∧ Step w1 L w' L' := by
  obtain ⟨i0, hi, hz0, hz1, hz2⟩ := info_parts info44
  obtain ⟨_, _, hcap, hcm, _⟩ := hm.gblk
  have c0 := hm.cell0
  have n4 := f.n4
  have t0 := f1.t0
  have tc := f1.tc
  have lc := f1.lc
  go_enter Tryd.func76, Tryd.ntmps76
  go_wp2_with (first
    | (go_at_call 103; refine hh.mono ?_; rintro e w1 ⟨rfl, hw1⟩; rw [hw1]; clear hw1 w1)
    | (go_at_call 77; refine hd.mono ?_; rintro e w1 ⟨rfl, hm1, hk1⟩; have c1 := hm1.cell1; have c3 := hm1.cell3; have e1 := hm1.free 1; have e3 := hm1.free 3)
    | (at_builtin; refine wpList_append_mine _ rfl _ _ 78 rfl 154 i0 _ 3 24 Tryd.underlying78 hi hz0 hz1 hz2 rfl (by decide) L.vu _ _ rfl (unt_now hm1 _ _) ⟨w1.heap.size, 0, none⟩ 1 1 [.int .i64 op, .int .i64 a, .bool ok] rfl rfl ?c1 ?c2 ?c3 ?c4 (by decide) ?_))
  case c1 => exact new3 _ _ (by simp) _ _ _ _
  case c2 => intro u hu; simp at hu; rcases hu with rfl | rfl | rfl <;> rfl
  case c3 => unfold maxLen; omega
  case c4 => omega
  intro g cp w2 hown hgr hnew
  have hb := b_now hm1 hgr
  have k3 : w2.cell? ⟨L.b, 3, none⟩ = some L.vu := by rw [cell_of_row w2 _ _ _ _ _ hb]; rfl
  have g3 : w2.frozen? ⟨L.b, 3, none⟩ = false := frozen_of_row w2 _ _ _ _ hb
  have R := tell_end hm1 hown hgr (hnew.imp id fun h => by first | omega | (simp; omega))
  clear hb hown hgr hnew c1 c3
  go_wp2
  go_ret
  exact ⟨rfl, w1, _, hk1, hm1, R.1, R.2⟩

set_option maxHeartbeats 800000 in
set_option maxRecDepth 100000 in
theorem cAccStore {w : World} {L : Loc} {s s1 : St} {X : World → Prop} {ok : Bool} (hm : Mm w L s) (f : s.Fit) (f1 : s1.Fit) (hc : s1.c < 1000000) (op : Int) (a n p : Nat) (ha : a + n ≤ s.ws.length) (hn : 1 ≤ n)
    (hh : Calls Tryd.prog 103 #[.pointer (some ⟨L.b, 0, none⟩), .int .i64 a, .int .i64 n] w fun e w' => e = .returned (.bool true) ∧ w' = w)
    (hd : Calls Tryd.prog 78 #[.slice (some ⟨L.g, a, none⟩) n (L.cp - a), .pointer (some ⟨p, 0, none⟩)] w fun e w' => e = .returned (.bool ok) ∧ Mm w' L s1 ∧ X w') :
    Calls Tryd.prog 76 #[.pointer (some ⟨L.b, 0, none⟩), .int .i64 op, .int .i64 a, .int .i64 n, .func (.func 78) #[] #[.pointer (some ⟨p, 0, none⟩)]] w fun e w' =>
      e = .returned (.bool ok) ∧ ∃ w1 L', X w1 ∧ Mm w1 L s1 ∧ Mm w' L' ⟨s1.ws, s1.c + 1, s1.t, s1.l ++ [(op, (a : Int), ok)]⟩ ∧ Step w1 L w' L' := by
  obtain ⟨i0, hi, hz0, hz1, hz2⟩ := info_parts info44
  obtain ⟨_, _, hcap, hcm, _⟩ := hm.gblk
  have c0 := hm.cell0
  have n4 := f.n4
  have t0 := f1.t0
  have tc := f1.tc
  have lc := f1.lc
  go_enter Tryd.func76, Tryd.ntmps76
  go_wp2_with (first
    | (go_at_call 103; refine hh.mono ?_; rintro e w1 ⟨rfl, hw1⟩; rw [hw1]; clear hw1 w1)
    | (go_at_call 78; refine hd.mono ?_; rintro e w1 ⟨rfl, hm1, hk1⟩; have c1 := hm1.cell1; have c3 := hm1.cell3; have e1 := hm1.free 1; have e3 := hm1.free 3)
    | (at_builtin; refine wpList_append_mine _ rfl _ _ 78 rfl 154 i0 _ 3 24 Tryd.underlying78 hi hz0 hz1 hz2 rfl (by decide) L.vu _ _ rfl (unt_now hm1 _ _) ⟨w1.heap.size, 0, none⟩ 1 1 [.int .i64 op, .int .i64 a, .bool ok] rfl rfl ?c1 ?c2 ?c3 ?c4 (by decide) ?_))
  case c1 => exact new3 _ _ (by simp) _ _ _ _
  case c2 => intro u hu; simp at hu; rcases hu with rfl | rfl | rfl <;> rfl
  case c3 => unfold maxLen; omega
  case c4 => omega
  intro g cp w2 hown hgr hnew
  have hb := b_now hm1 hgr
  have k3 : w2.cell? ⟨L.b, 3, none⟩ = some L.vu := by rw [cell_of_row w2 _ _ _ _ _ hb]; rfl
  have g3 : w2.frozen? ⟨L.b, 3, none⟩ = false := frozen_of_row w2 _ _ _ _ hb
  have R := tell_end hm1 hown hgr (hnew.imp id fun h => by first | omega | (simp; omega))
  clear hb hown hgr hnew c1 c3
  go_wp2
  go_ret
  exact ⟨rfl, w1, _, hk1, hm1, R.1, R.2⟩

set_option maxHeartbeats 800000 in
set_option maxRecDepth 100000 in
theorem cAccSwap {w : World} {L : Loc} {s s1 : St} {X : World → Prop} {ok : Bool} (hm : Mm w L s) (f : s.Fit) (f1 : s1.Fit) (hc : s1.c < 1000000) (op : Int) (a n p q : Nat) (ha : a + n ≤ s.ws.length) (hn : 1 ≤ n)
    (hh : Calls Tryd.prog 103 #[.pointer (some ⟨L.b, 0, none⟩), .int .i64 a, .int .i64 n] w fun e w' => e = .returned (.bool true) ∧ w' = w)
    (hd : Calls Tryd.prog 110 #[.slice (some ⟨L.g, a, none⟩) n (L.cp - a), .pointer (some ⟨p, 0, none⟩), .pointer (some ⟨q, 0, none⟩)] w fun e w' => e = .returned (.bool ok) ∧ Mm w' L s1 ∧ X w') :
    Calls Tryd.prog 76 #[.pointer (some ⟨L.b, 0, none⟩), .int .i64 op, .int .i64 a, .int .i64 n, .func (.func 110) #[] #[.pointer (some ⟨p, 0, none⟩), .pointer (some ⟨q, 0, none⟩)]] w fun e w' =>
      e = .returned (.bool ok) ∧ ∃ w1 L', X w1 ∧ Mm w1 L s1 ∧ Mm w' L' ⟨s1.ws, s1.c + 1, s1.t, s1.l ++ [(op, (a : Int), ok)]⟩ ∧ Step w1 L w' L' := by
  obtain ⟨i0, hi, hz0, hz1, hz2⟩ := info_parts info44
  obtain ⟨_, _, hcap, hcm, _⟩ := hm.gblk
  have c0 := hm.cell0
  have n4 := f.n4
  have t0 := f1.t0
  have tc := f1.tc
  have lc := f1.lc
  go_enter Tryd.func76, Tryd.ntmps76
  go_wp2_with (first
    | (go_at_call 103; refine hh.mono ?_; rintro e w1 ⟨rfl, hw1⟩; rw [hw1]; clear hw1 w1)
    | (go_at_call 110; refine hd.mono ?_; rintro e w1 ⟨rfl, hm1, hk1⟩; have c1 := hm1.cell1; have c3 := hm1.cell3; have e1 := hm1.free 1; have e3 := hm1.free 3)
    | (at_builtin; refine wpList_append_mine _ rfl _ _ 78 rfl 154 i0 _ 3 24 Tryd.underlying78 hi hz0 hz1 hz2 rfl (by decide) L.vu _ _ rfl (unt_now hm1 _ _) ⟨w1.heap.size, 0, none⟩ 1 1 [.int .i64 op, .int .i64 a, .bool ok] rfl rfl ?c1 ?c2 ?c3 ?c4 (by decide) ?_))
  case c1 => exact new3 _ _ (by simp) _ _ _ _
  case c2 => intro u hu; simp at hu; rcases hu with rfl | rfl | rfl <;> rfl
  case c3 => unfold maxLen; omega
  case c4 => omega
  intro g cp w2 hown hgr hnew
  have hb := b_now hm1 hgr
  have k3 : w2.cell? ⟨L.b, 3, none⟩ = some L.vu := by rw [cell_of_row w2 _ _ _ _ _ hb]; rfl
  have g3 : w2.frozen? ⟨L.b, 3, none⟩ = false := frozen_of_row w2 _ _ _ _ hb
  have R := tell_end hm1 hown hgr (hnew.imp id fun h => by first | omega | (simp; omega))
  clear hb hown hgr hnew c1 c3
  go_wp2
  go_ret
  exact ⟨rfl, w1, _, hk1, hm1, R.1, R.2⟩

end Go.Proofs.YtoablodmodnamaaDoor
