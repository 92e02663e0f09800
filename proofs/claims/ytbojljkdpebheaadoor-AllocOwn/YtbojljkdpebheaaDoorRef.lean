/-
  Contracts of the reference's memory: the same plain functions.
-/
import Derived.Test.YtbojljkdpebheaaDoorOwn
namespace Go.Proofs.YtbojljkdpebheaaDoor
set_option linter.unusedVariables false
open Go.ChangeShapes Go.WideShapes Go.RowKit

section
variable {T : TypeId} {w : World} {L : Loc} {s : St}
theorem cnt_at (h : MemAt T w L s) : MemAt T (w.setCell ⟨L.b, 1, none⟩ (.int .i64 (s.c + 1))) L ⟨s.ws, s.c + 1, s.t, s.l⟩ where
  blk := by rw [heap_setCell_same w _ 1 _ _ _ h.blk]; rfl
  row := ownsRow_setCell_other h.row (by simp [Value.ownBlock]; exact fun e => h.bg e.symm) _
  unt := ownsRow_setCell_other h.unt h.bu _
  non := h.non
  ht := h.ht
theorem app_now {w2 : World} {o : Obj} (h : MemAt T w L s) (hg : (w.alloc o).grownBy w2 L.vu.ownBlock) :
    w2.heap[L.b]? = some (.cells #[.slice (some ⟨L.g, 0, none⟩) s.ws.length L.cp, .int .i64 s.c, .int .i64 s.t, L.vu] T (0, 0)) := by
  rw [hg.block L.b (by simp; exact Nat.lt_succ_of_lt (lt_of_block h.blk)) (fun e => h.bu e.symm), Below.heap_alloc _ _ _ (lt_of_block h.blk), h.blk]
theorem app_end {w2 : World} {o : Obj} {g cp : Nat} {op a : Int} {ok : Bool} (h : MemAt T w L s)
    (hown : w2.ownsRow 0 92 3 (.slice (some ⟨g, 0, none⟩) (s.l.length + 1) cp) (s.l.length + 1) (accs s.l ++ [.int .i64 op, .int .i64 a, .bool ok]))
    (hg : (w.alloc o).grownBy w2 L.vu.ownBlock) (hn : L.vu.ownBlock = some g ∨ w.heap.size ≤ g) :
    MemAt T (w2.setCell ⟨L.b, 3, none⟩ (.slice (some ⟨g, 0, none⟩) (s.l.length + 1) cp)) ⟨L.b, L.g, L.cp, .slice (some ⟨g, 0, none⟩) (s.l.length + 1) cp⟩ ⟨s.ws, s.c, s.t, s.l ++ [(op, a, ok)]⟩ ∧
    Step w L (w2.setCell ⟨L.b, 3, none⟩ (.slice (some ⟨g, 0, none⟩) (s.l.length + 1) cp)) ⟨L.b, L.g, L.cp, .slice (some ⟨g, 0, none⟩) (s.l.length + 1) cp⟩ := by
  have hb := app_now h hg
  have hgb : g ≠ L.b := by
    rintro rfl
    rcases hn with hn | hn
    · exact h.bu hn
    · have := lt_of_block h.blk; omega
  have K1 : Kept L.fp w w2 := (Kept.alloc L.fp w o).trans (Kept.grown L.fp hg fun k hk => by simp [Loc.fp, hk]) fun _ hk => .inl hk
  have K2 : Kept L.fp w (w2.setCell ⟨L.b, 3, none⟩ (.slice (some ⟨g, 0, none⟩) (s.l.length + 1) cp)) := K1.trans (Kept.setCell L.fp w2 ⟨L.b, 3, none⟩ _ (by simp [Loc.fp])) fun _ hk => .inl hk
  refine ⟨⟨?_, ?_, ?_, fun h => by simp at h, h.ht⟩, ⟨K2, ?_, rfl⟩⟩
  · rw [heap_setCell_same w2 _ 3 _ _ _ hb]; rfl
  · have r1 := (h.row.alloc o).kept hg (.inr (by simp only [Value.ownBlock]; exact fun e => h.gu e.symm))
    exact ownsRow_setCell_other r1 (by simp [Value.ownBlock]; exact fun e => h.bg e.symm) _
  · have := ownsRow_setCell_other hown (a := ⟨L.b, 3, none⟩) (by simp [Value.ownBlock]; exact hgb) (.slice (some ⟨g, 0, none⟩) (s.l.length + 1) cp)
    simpa [accs_append, accs] using this
  · intro k hk
    simp only [Loc.fp, Value.ownBlock, Option.toList_some, List.mem_cons, List.not_mem_nil, or_false] at hk
    rcases hk with rfl | rfl | rfl
    · exact .inl (by simp [Loc.fp])
    · exact .inl (by simp [Loc.fp])
    · rcases hn with hn | hn
      · exact .inl (by simp [Loc.fp, hn])
      · exact .inr (by omega)
end

theorem put_step {w w' : World} {L L' : Loc} (st : Step w L w' L') (j : Nat) (x : Int) : Step w L (w'.setCell ⟨L'.g, j, none⟩ (.int .u64 x)) L' :=
  st.trans ⟨Kept.setCell L'.fp w' ⟨L'.g, j, none⟩ _ (by simp [Loc.fp]), fun _ hk => .inl hk, rfl⟩
end Go.Proofs.YtbojljkdpebheaaDoor
