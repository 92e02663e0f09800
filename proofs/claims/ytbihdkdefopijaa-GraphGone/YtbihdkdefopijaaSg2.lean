/-
  What GraphGone says, plainly: an object is made, written and left, and the shape is as it was.
-/
import Derived.Test.YtbihdkdefopijaaSg
namespace Go.Proofs.Ytbihdkdefopijaa
set_option linter.unusedVariables false
set_option linter.unusedSimpArgs false

theorem gone_row {g : Gr} (h : 0 < g.ts.length) : ((Sh.roots g).getD 0 []).length = (g.rs 0).length := by
  have := (Sh.rruns_at g.ts [] 0 h).1
  unfold Sh.roots
  rw [this, Sh.meets_len]
  rfl
theorem gone_all {g : Gr} (f : g.Fit) (hb : g.os.length < 1000) (ht : g.ts.length = 2) (n x : Int) (hn : 0 ≤ n ∧ n ≤ 7) :
    g.allocE 0 n = 13 ∨ (g.allocE 0 n = 0 ∧ (Sh.objs (g.alloc 0 n)).length = (Sh.objs g).length + 1 ∧ ∃ k : Nat, ((Sh.roots (g.alloc 0 n)).getD 0 []).length = k + 1 ∧ k < 8 ∧ ((g.alloc 0 n).write 0 k 0 (0, x)).dropE 0 = 0 ∧ ∃ o, ((g.alloc 0 n).write 0 k 0 (0, x)).drop 0 = ⟨g.ts, g.os ++ [o]⟩) := by
  have hT : g.isT 0 = true := by unfold Gr.isT; simp; omega
  have hE0 : g.allocE 0 n = Rw.pushE (g.rs 0) := by unfold Gr.allocE; rw [if_pos hT, if_pos hn]
  by_cases h8 : (g.rs 0).length < 8
  case neg => left; rw [hE0]; unfold Rw.pushE; rw [if_neg h8]
  case pos =>
    right
    have hE : g.allocE 0 n = 0 := by rw [hE0]; unfold Rw.pushE; rw [if_pos h8]
    have f1 := f.alloc 0 n hb
    have hA : g.alloc 0 n = ⟨g.ts.set 0 (g.rs 0 ++ [(g.os.length : Int) + 1]), g.os ++ [List.replicate n.toNat (0, 0)]⟩ := by unfold Gr.alloc; rw [if_pos hE]; rfl
    have hr0 : g.rs 0 ∈ g.ts := by
      unfold Gr.rs
      rw [List.getD_eq_getElem?_getD, List.getElem?_eq_getElem (by simp; omega)]
      exact List.getElem_mem _
    have hrs1 : (g.alloc 0 n).rs 0 = g.rs 0 ++ [(g.os.length : Int) + 1] := by
      rw [hA]
      show (g.ts.set 0 _).getD 0 [] = _
      rw [List.getD_eq_getElem?_getD, List.getElem?_set_self (by omega)]
      rfl
    refine ⟨hE, ?_, (g.rs 0).length, ?_, h8, ?_⟩
    · refine Sh.objs_more f f1 ⟨List.replicate n.toNat (0, 0), by rw [hA], ?_⟩ ?_ ?_ ?_
      · intro v hv
        rw [List.eq_of_mem_replicate hv]
        decide
      · intro r hr y hy h0
        rw [hA] at hr
        rcases List.mem_or_eq_of_mem_set hr with hr | rfl
        · exact .inr ⟨r, hr, hy⟩
        · rcases List.mem_append.1 hy with hy | hy
          · exact .inr ⟨_, hr0, hy⟩
          · exact .inl (by simpa using hy)
      · intro q hq y hy
        obtain ⟨i, hi, rfl⟩ := List.getElem_of_mem hq
        by_cases h0 : i = 0
        · subst h0
          refine ⟨g.rs 0 ++ [(g.os.length : Int) + 1], ?_, List.mem_append.2 (.inl ?_)⟩
          · rw [hA]; exact List.mem_set hi _
          · unfold Gr.rs
            rw [List.getD_eq_getElem?_getD, show (0 : Int).toNat = 0 from rfl, List.getElem?_eq_getElem hi]
            exact hy
        · refine ⟨g.ts[i], ?_, hy⟩
          rw [hA]
          have : (g.ts.set 0 (g.rs 0 ++ [(g.os.length : Int) + 1]))[i]'(by simpa using hi) = g.ts[i] := by rw [List.getElem_set_ne (by omega)]
          rw [← this]
          exact List.getElem_mem _
      · exact ⟨g.rs 0 ++ [(g.os.length : Int) + 1], by rw [hA]; exact List.mem_set (by omega) _, by simp⟩
    · rw [gone_row (by rw [hA]; simp; omega), hrs1]
      simp
    · have hid : (g.alloc 0 n).id 0 ((g.rs 0).length : Int) = (g.os.length : Int) + 1 := by
        unfold Gr.id
        rw [hrs1]
        unfold Rw.get Rw.isAt
        simp
        omega
      have hW : ∃ o, (g.alloc 0 n).write 0 ((g.rs 0).length : Int) 0 (0, x) = ⟨g.ts.set 0 (g.rs 0 ++ [(g.os.length : Int) + 1]), g.os ++ [o]⟩ := by
        unfold Gr.write
        split
        · unfold Gr.setF
          rw [hid, hA]
          rw [show ((g.os.length : Int) + 1 - 1).toNat = g.os.length from by omega]
          have key : ∀ (a y : List (Int × Int)), (g.os ++ [a]).set g.os.length y = g.os ++ [y] := fun a y => by
            rw [List.set_append_right _ _ (Nat.le_refl _), Nat.sub_self]
            rfl
          simp only [key]
          exact ⟨_, rfl⟩
        · exact ⟨_, hA⟩
      obtain ⟨o, hW⟩ := hW
      rw [hW]
      have hrs2 : (⟨g.ts.set 0 (g.rs 0 ++ [(g.os.length : Int) + 1]), g.os ++ [o]⟩ : Gr).rs 0 = g.rs 0 ++ [(g.os.length : Int) + 1] := by
        show (g.ts.set 0 _).getD 0 [] = _
        rw [List.getD_eq_getElem?_getD, List.getElem?_set_self (by omega)]
        rfl
      have hT2 : (⟨g.ts.set 0 (g.rs 0 ++ [(g.os.length : Int) + 1]), g.os ++ [o]⟩ : Gr).isT 0 = true := by unfold Gr.isT; simp; omega
      have hD : (⟨g.ts.set 0 (g.rs 0 ++ [(g.os.length : Int) + 1]), g.os ++ [o]⟩ : Gr).dropE 0 = 0 := by
        unfold Gr.dropE
        rw [if_pos hT2, hrs2]
        unfold Rw.dropE
        simp
      refine ⟨hD, o, ?_⟩
      unfold Gr.drop
      rw [if_pos hD, hrs2]
      unfold Gr.setR Rw.drop
      simp only [List.dropLast_concat]
      congr 1
      apply List.ext_getElem? 
      intro i
      rw [show (0 : Int).toNat = 0 from rfl, List.set_set]
      by_cases h0 : i = 0
      · subst h0
        rw [List.getElem?_set_self (by omega)]
        unfold Gr.rs
        rw [List.getD_eq_getElem?_getD, show (0 : Int).toNat = 0 from rfl, List.getElem?_eq_getElem (by omega)]
        rfl
      · rw [List.getElem?_set_ne (by omega)]
end Go.Proofs.Ytbihdkdefopijaa
