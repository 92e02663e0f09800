/-
  A Poll made, and told; Polls and Asks beside memories.
-/
import Derived.Test.YtoablodmodnamaaDoorKsq
namespace Go.Proofs.YtoablodmodnamaaDoor
set_option linter.unusedVariables false
set_option linter.unusedSimpArgs false
set_option maxRecDepth 100000
open Go.ChangeShapes Go.WideShapes Go.RowKit
open S.Plain (t0 t1 tw nx p0 p1 p2 p3 pw)
open H.Plain (hw pS pC pN pM pG pT pL)

def PB.fresh (ack : Int) (own : Ph) (al : Int) (n : Nat) (l : Nat → Int) : PB := ⟨ack, own, al, n, l, 1, Ph.zero, 0, ⟨0, 0, 0, 0, Hd.zero, 0⟩⟩
def RB.fresh (U : Pl5) (th : Int) (own : Ph) (al : Int) (n : Nat) (l : Nat → Int) : RB := ⟨U, th, 1, 0, own, Ph.zero, al, n, l, .pointer none⟩
theorem PB.is_fresh (ack : Int) (own : Ph) (al : Int) (n : Nat) (l : Nat → Int) : (PollS.new ack own al n l).Is (PB.fresh ack own al n l) := ⟨rfl, rfl, rfl, rfl, rfl, rfl, rfl, trivial⟩
theorem RB.is_fresh (U : Pl5) {th : Int} (h : 0 ≤ th ∧ th ≤ 1000) (own : Ph) (al : Int) (n : Nat) (l : Nat → Int) : (RB.fresh U th own al n l).Is (PollS.new (10 + th) own al n l) := ⟨rfl, h, rfl, rfl, rfl, rfl, rfl, rfl, rfl⟩
theorem alloc3 (w : World) (A B C : Obj) : (((w.alloc A).alloc B).alloc C).heap[w.heap.size]? = some A ∧ (((w.alloc A).alloc B).alloc C).heap[w.heap.size + 1]? = some B ∧ (((w.alloc A).alloc B).alloc C).heap[w.heap.size + 1 + 1]? = some C ∧ Below w.heap.size w (((w.alloc A).alloc B).alloc C) := by
  have hA := heap_alloc_new w A
  have hB := heap_alloc_new (w.alloc A) B
  have hC := heap_alloc_new ((w.alloc A).alloc B) C
  have s1 : (w.alloc A).heap.size = w.heap.size + 1 := by simp
  have s2 : ((w.alloc A).alloc B).heap.size = w.heap.size + 1 + 1 := by simp
  rw [s1] at hB
  rw [s2] at hC
  have b1 : Below (w.heap.size + 1) (w.alloc A) (((w.alloc A).alloc B).alloc C) := ((Below.refl _ _).alloc (by simp) _).alloc (by simp) _
  have b2 : Below (w.heap.size + 1 + 1) ((w.alloc A).alloc B) (((w.alloc A).alloc B).alloc C) := (Below.refl _ _).alloc (by simp) _
  exact ⟨(b1.block _ (by omega)).trans hA, (b2.block _ (by omega)).trans hB, hC, (((Below.refl _ _).alloc (Nat.le_refl _) _).alloc (by simp) _).alloc (by simp; omega) _⟩
set_option maxHeartbeats 1500000 in
theorem cNewPoll (U : Pl5) {i : Int} (h0 : 0 ≤ i) (h1 : i ≤ 1000) (own : Ph) (al : Int) (n : Nat) (l : Nat → Int) (w : World) :
    Calls Tryd.prog 15 #[.agg #[.int .i64 U.th, .int .i64 U.bl, .int .i64 U.ta, .int .i64 U.he, .int .i64 U.si], .int .i64 i, .agg #[.int .i64 own.no, .int .i64 own.md, .int .i64 own.mr, .int .i64 own.ls], .int .i64 al, .agg #[.int .i64 n, .int .i64 (l 0), .int .i64 (l 1), .int .i64 (l 2), .int .i64 (l 3), .int .i64 (l 4), .int .i64 (l 5), .int .i64 (l 6), .int .i64 (l 7)]] w fun e w' => ∃ z, e = .returned (.pointer (some ⟨z, 0, none⟩)) ∧ w.heap.size ≤ z ∧ w'.heap[z]? = some (.cells (PB.fresh (10 + i) own al n l).cells 112 (0, 0)) ∧ Below w.heap.size w w' := by
  go_enter Tryd.func15, Tryd.ntmps15
  go_upto_region 1 with (fail)
  obtain ⟨hA, hB, hC, hb3'⟩ := alloc3 w (.cells #[.int .i64 U.th, .int .i64 U.bl, .int .i64 U.ta, .int .i64 U.he, .int .i64 U.si] 32) (.cells #[.int .i64 own.no, .int .i64 own.md, .int .i64 own.mr, .int .i64 own.ls] 37) (.cells #[.int .i64 n, .int .i64 (l 0), .int .i64 (l 1), .int .i64 (l 2), .int .i64 (l 3), .int .i64 (l 4), .int .i64 (l 5), .int .i64 (l 6), .int .i64 (l 7)] 42)
  generalize (((w.alloc (.cells #[.int .i64 U.th, .int .i64 U.bl, .int .i64 U.ta, .int .i64 U.he, .int .i64 U.si] 32)).alloc (.cells #[.int .i64 own.no, .int .i64 own.md, .int .i64 own.mr, .int .i64 own.ls] 37)).alloc (.cells #[.int .i64 n, .int .i64 (l 0), .int .i64 (l 1), .int .i64 (l 2), .int .i64 (l 3), .int .i64 (l 4), .int .i64 (l 5), .int .i64 (l 6), .int .i64 (l 7)] 42)) = w3 at hA hB hC hb3' ⊢
  generalize hqa : w.heap.size = qa at hA ⊢
  generalize hqb : qa + 1 = qb at hB ⊢
  generalize hqc : qb + 1 = qc at hC ⊢
  rw [hqa] at hB hC
  rw [hqb] at hB hC
  rw [hqc] at hC
  have la := lt_of_block hA
  have lb := lt_of_block hB
  have lc := lt_of_block hC
  have keep : ∀ w', Below w3.heap.size w3 w' → w'.cell? ⟨qa, 0, none⟩ = some (.int .i64 U.th) ∧ w'.cell? ⟨qa, 1, none⟩ = some (.int .i64 U.bl) ∧ w'.cell? ⟨qa, 2, none⟩ = some (.int .i64 U.ta) ∧ w'.cell? ⟨qa, 3, none⟩ = some (.int .i64 U.he) ∧ w'.cell? ⟨qa, 4, none⟩ = some (.int .i64 U.si) ∧ w'.cell? ⟨qb, 0, none⟩ = some (.int .i64 own.no) ∧ w'.cell? ⟨qb, 1, none⟩ = some (.int .i64 own.md) ∧ w'.cell? ⟨qb, 2, none⟩ = some (.int .i64 own.mr) ∧ w'.cell? ⟨qb, 3, none⟩ = some (.int .i64 own.ls) ∧ w'.cell? ⟨qc, 0, none⟩ = some (.int .i64 n) ∧ w'.cell? ⟨qc, 1, none⟩ = some (.int .i64 (l 0)) ∧ w'.cell? ⟨qc, 2, none⟩ = some (.int .i64 (l 1)) ∧ w'.cell? ⟨qc, 3, none⟩ = some (.int .i64 (l 2)) ∧ w'.cell? ⟨qc, 4, none⟩ = some (.int .i64 (l 3)) ∧ w'.cell? ⟨qc, 5, none⟩ = some (.int .i64 (l 4)) ∧ w'.cell? ⟨qc, 6, none⟩ = some (.int .i64 (l 5)) ∧ w'.cell? ⟨qc, 7, none⟩ = some (.int .i64 (l 6)) ∧ w'.cell? ⟨qc, 8, none⟩ = some (.int .i64 (l 7)) := fun w' hb => by
    have kA := (hb.block qa la).trans hA
    have kB := (hb.block qb lb).trans hB
    have kC := (hb.block qc lc).trans hC
    exact ⟨cell_of_row _ _ _ _ _ _ kA, cell_of_row _ _ _ _ _ _ kA, cell_of_row _ _ _ _ _ _ kA, cell_of_row _ _ _ _ _ _ kA, cell_of_row _ _ _ _ _ _ kA, cell_of_row _ _ _ _ _ _ kB, cell_of_row _ _ _ _ _ _ kB, cell_of_row _ _ _ _ _ _ kB, cell_of_row _ _ _ _ _ _ kB, cell_of_row _ _ _ _ _ _ kC, cell_of_row _ _ _ _ _ _ kC, cell_of_row _ _ _ _ _ _ kC, cell_of_row _ _ _ _ _ _ kC, cell_of_row _ _ _ _ _ _ kC, cell_of_row _ _ _ _ _ _ kC, cell_of_row _ _ _ _ _ _ kC, cell_of_row _ _ _ _ _ _ kC, cell_of_row _ _ _ _ _ _ kC⟩
  have hbd : Below w3.heap.size w3 w3.drew := (Below.refl w3.heap.size w3).drew
  have RD := keep _ hbd
  go_region_held3 (fun w' => w'.cell? ⟨qa, 0, none⟩ = some (.int .i64 U.th) ∧ w'.cell? ⟨qa, 1, none⟩ = some (.int .i64 U.bl) ∧ w'.cell? ⟨qa, 2, none⟩ = some (.int .i64 U.ta) ∧ w'.cell? ⟨qa, 3, none⟩ = some (.int .i64 U.he) ∧ w'.cell? ⟨qa, 4, none⟩ = some (.int .i64 U.si) ∧ w'.cell? ⟨qb, 0, none⟩ = some (.int .i64 own.no) ∧ w'.cell? ⟨qb, 1, none⟩ = some (.int .i64 own.md) ∧ w'.cell? ⟨qb, 2, none⟩ = some (.int .i64 own.mr) ∧ w'.cell? ⟨qb, 3, none⟩ = some (.int .i64 own.ls) ∧ w'.cell? ⟨qc, 0, none⟩ = some (.int .i64 n) ∧ w'.cell? ⟨qc, 1, none⟩ = some (.int .i64 (l 0)) ∧ w'.cell? ⟨qc, 2, none⟩ = some (.int .i64 (l 1)) ∧ w'.cell? ⟨qc, 3, none⟩ = some (.int .i64 (l 2)) ∧ w'.cell? ⟨qc, 4, none⟩ = some (.int .i64 (l 3)) ∧ w'.cell? ⟨qc, 5, none⟩ = some (.int .i64 (l 4)) ∧ w'.cell? ⟨qc, 6, none⟩ = some (.int .i64 (l 5)) ∧ w'.cell? ⟨qc, 7, none⟩ = some (.int .i64 (l 6)) ∧ w'.cell? ⟨qc, 8, none⟩ = some (.int .i64 (l 7))) (first | assumption | exact RD | exact keep _ (by assumption) | exact keep _ (hb4.alloc (by have := hb4.size; omega) _))
    ((go_at_call 42; refine (P.cAck _ _ _ _ _ i h0 h1 _).mono ?_; rintro e w4 ⟨rfl, hw4⟩; have hb4 : Below w3.heap.size w3 w4 := (by rw [hw4]; exact bel_trans hbd ((Below.refl _ _).alloc (Nat.le_refl _) _)); clear hw4))
  have hb5 : Below w.heap.size w w4 := bel_trans hb3' hb4
  go_wp2
  go_ret
  exact ⟨w4.heap.size, rfl, hb5.size, heap_alloc_new w4 (.cells (PB.fresh (10 + i) own al n l).cells 112), hb5.alloc hb5.size _⟩
set_option maxHeartbeats 1500000 in
theorem rNewPoll (U : Pl5) {i : Int} (h0 : 0 ≤ i) (h1 : i ≤ 1000) (own : Ph) (al : Int) (n : Nat) (l : Nat → Int) (w : World) :
    Calls Tryd.prog 16 #[.agg #[.int .i64 U.th, .int .i64 U.bl, .int .i64 U.ta, .int .i64 U.he, .int .i64 U.si], .int .i64 i, .agg #[.int .i64 own.no, .int .i64 own.md, .int .i64 own.mr, .int .i64 own.ls], .int .i64 al, .agg #[.int .i64 n, .int .i64 (l 0), .int .i64 (l 1), .int .i64 (l 2), .int .i64 (l 3), .int .i64 (l 4), .int .i64 (l 5), .int .i64 (l 6), .int .i64 (l 7)]] w fun e w' => ∃ z, e = .returned (.pointer (some ⟨z, 0, none⟩)) ∧ w.heap.size ≤ z ∧ w'.heap[z]? = some (.cells (RB.fresh U i own al n l).cells 62 (0, 0)) ∧ Below w.heap.size w w' := by
  have hD := heap_alloc_new (((w.alloc (.cells #[.int .i64 U.th, .int .i64 U.bl, .int .i64 U.ta, .int .i64 U.he, .int .i64 U.si] 32)).alloc (.cells #[.int .i64 own.no, .int .i64 own.md, .int .i64 own.mr, .int .i64 own.ls] 37)).alloc (.cells #[.int .i64 n, .int .i64 (l 0), .int .i64 (l 1), .int .i64 (l 2), .int .i64 (l 3), .int .i64 (l 4), .int .i64 (l 5), .int .i64 (l 6), .int .i64 (l 7)] 42)) (.cells (RB.fresh U i own al n l).cells 62)
  have s3 : (((w.alloc (.cells #[.int .i64 U.th, .int .i64 U.bl, .int .i64 U.ta, .int .i64 U.he, .int .i64 U.si] 32)).alloc (.cells #[.int .i64 own.no, .int .i64 own.md, .int .i64 own.mr, .int .i64 own.ls] 37)).alloc (.cells #[.int .i64 n, .int .i64 (l 0), .int .i64 (l 1), .int .i64 (l 2), .int .i64 (l 3), .int .i64 (l 4), .int .i64 (l 5), .int .i64 (l 6), .int .i64 (l 7)] 42)).heap.size = w.heap.size + 1 + 1 + 1 := by simp
  have hD2 : ((((w.alloc (.cells #[.int .i64 U.th, .int .i64 U.bl, .int .i64 U.ta, .int .i64 U.he, .int .i64 U.si] 32)).alloc (.cells #[.int .i64 own.no, .int .i64 own.md, .int .i64 own.mr, .int .i64 own.ls] 37)).alloc (.cells #[.int .i64 n, .int .i64 (l 0), .int .i64 (l 1), .int .i64 (l 2), .int .i64 (l 3), .int .i64 (l 4), .int .i64 (l 5), .int .i64 (l 6), .int .i64 (l 7)] 42)).alloc (.cells (RB.fresh U i own al n l).cells 62)).heap[w.heap.size + 1 + 1 + 1]? = some (.cells (RB.fresh U i own al n l).cells 62 (0, 0)) := s3 ▸ hD
  clear hD s3
  go_enter Tryd.func16, Tryd.ntmps16
  go_wp2
  go_ret
  exact ⟨_, rfl, by omega, hD2, by go_grown⟩
theorem row4 {w : World} {q : Nat} {T : TypeId} {a0 a1 a2 a3 : Value} (h : w.heap[q]? = some (.cells #[a0, a1, a2, a3] T (0, 0))) (v0 v1 v2 v3 : Value) : ((((w.setCell ⟨q, 0, none⟩ v0).setCell ⟨q, 1, none⟩ v1).setCell ⟨q, 2, none⟩ v2).setCell ⟨q, 3, none⟩ v3).heap[q]? = some (.cells #[v0, v1, v2, v3] T (0, 0)) := by
  have h1 : (w.setCell ⟨q, 0, none⟩ v0).heap[q]? = some (.cells #[v0, a1, a2, a3] T (0, 0)) := Go.Joins.block_setCell (i := 0) h v0
  have h2 : ((w.setCell ⟨q, 0, none⟩ v0).setCell ⟨q, 1, none⟩ v1).heap[q]? = some (.cells #[v0, v1, a2, a3] T (0, 0)) := Go.Joins.block_setCell (i := 1) h1 v1
  have h3 : (((w.setCell ⟨q, 0, none⟩ v0).setCell ⟨q, 1, none⟩ v1).setCell ⟨q, 2, none⟩ v2).heap[q]? = some (.cells #[v0, v1, v2, a3] T (0, 0)) := Go.Joins.block_setCell (i := 2) h2 v2
  have h4 : ((((w.setCell ⟨q, 0, none⟩ v0).setCell ⟨q, 1, none⟩ v1).setCell ⟨q, 2, none⟩ v2).setCell ⟨q, 3, none⟩ v3).heap[q]? = some (.cells #[v0, v1, v2, v3] T (0, 0)) := Go.Joins.block_setCell (i := 3) h3 v3
  exact h4
theorem off4 {w : World} {q r : Nat} {o : Obj} (h : w.heap[r]? = some o) (hn : r ≠ q) (v0 v1 v2 v3 : Value) : ((((w.setCell ⟨q, 0, none⟩ v0).setCell ⟨q, 1, none⟩ v1).setCell ⟨q, 2, none⟩ v2).setCell ⟨q, 3, none⟩ v3).heap[r]? = some o := by
  refine (heap_setCell_other _ ⟨q, 3, none⟩ r _ hn).trans ?_; refine (heap_setCell_other _ ⟨q, 2, none⟩ r _ hn).trans ?_; refine (heap_setCell_other _ ⟨q, 1, none⟩ r _ hn).trans ?_; refine (heap_setCell_other _ ⟨q, 0, none⟩ r _ hn).trans ?_
  exact h
theorem bel4 {w u : World} {B q : Nat} (h : Below B w u) (hq : B ≤ q) (v0 v1 v2 v3 : Value) : Below B w ((((u.setCell ⟨q, 0, none⟩ v0).setCell ⟨q, 1, none⟩ v1).setCell ⟨q, 2, none⟩ v2).setCell ⟨q, 3, none⟩ v3) := h |> fun h => (((h.setCell hq v0).setCell hq v1).setCell hq v2).setCell hq v3
theorem row9 {w : World} {q : Nat} {T : TypeId} {a0 a1 a2 a3 a4 a5 a6 a7 a8 : Value} (h : w.heap[q]? = some (.cells #[a0, a1, a2, a3, a4, a5, a6, a7, a8] T (0, 0))) (v0 v1 v2 v3 v4 v5 v6 v7 v8 : Value) : (((((((((w.setCell ⟨q, 0, none⟩ v0).setCell ⟨q, 1, none⟩ v1).setCell ⟨q, 2, none⟩ v2).setCell ⟨q, 3, none⟩ v3).setCell ⟨q, 4, none⟩ v4).setCell ⟨q, 5, none⟩ v5).setCell ⟨q, 6, none⟩ v6).setCell ⟨q, 7, none⟩ v7).setCell ⟨q, 8, none⟩ v8).heap[q]? = some (.cells #[v0, v1, v2, v3, v4, v5, v6, v7, v8] T (0, 0)) := by
  have h1 : (w.setCell ⟨q, 0, none⟩ v0).heap[q]? = some (.cells #[v0, a1, a2, a3, a4, a5, a6, a7, a8] T (0, 0)) := Go.Joins.block_setCell (i := 0) h v0
  have h2 : ((w.setCell ⟨q, 0, none⟩ v0).setCell ⟨q, 1, none⟩ v1).heap[q]? = some (.cells #[v0, v1, a2, a3, a4, a5, a6, a7, a8] T (0, 0)) := Go.Joins.block_setCell (i := 1) h1 v1
  have h3 : (((w.setCell ⟨q, 0, none⟩ v0).setCell ⟨q, 1, none⟩ v1).setCell ⟨q, 2, none⟩ v2).heap[q]? = some (.cells #[v0, v1, v2, a3, a4, a5, a6, a7, a8] T (0, 0)) := Go.Joins.block_setCell (i := 2) h2 v2
  have h4 : ((((w.setCell ⟨q, 0, none⟩ v0).setCell ⟨q, 1, none⟩ v1).setCell ⟨q, 2, none⟩ v2).setCell ⟨q, 3, none⟩ v3).heap[q]? = some (.cells #[v0, v1, v2, v3, a4, a5, a6, a7, a8] T (0, 0)) := Go.Joins.block_setCell (i := 3) h3 v3
  have h5 : (((((w.setCell ⟨q, 0, none⟩ v0).setCell ⟨q, 1, none⟩ v1).setCell ⟨q, 2, none⟩ v2).setCell ⟨q, 3, none⟩ v3).setCell ⟨q, 4, none⟩ v4).heap[q]? = some (.cells #[v0, v1, v2, v3, v4, a5, a6, a7, a8] T (0, 0)) := Go.Joins.block_setCell (i := 4) h4 v4
  have h6 : ((((((w.setCell ⟨q, 0, none⟩ v0).setCell ⟨q, 1, none⟩ v1).setCell ⟨q, 2, none⟩ v2).setCell ⟨q, 3, none⟩ v3).setCell ⟨q, 4, none⟩ v4).setCell ⟨q, 5, none⟩ v5).heap[q]? = some (.cells #[v0, v1, v2, v3, v4, v5, a6, a7, a8] T (0, 0)) := Go.Joins.block_setCell (i := 5) h5 v5
  have h7 : (((((((w.setCell ⟨q, 0, none⟩ v0).setCell ⟨q, 1, none⟩ v1).setCell ⟨q, 2, none⟩ v2).setCell ⟨q, 3, none⟩ v3).setCell ⟨q, 4, none⟩ v4).setCell ⟨q, 5, none⟩ v5).setCell ⟨q, 6, none⟩ v6).heap[q]? = some (.cells #[v0, v1, v2, v3, v4, v5, v6, a7, a8] T (0, 0)) := Go.Joins.block_setCell (i := 6) h6 v6
  have h8 : ((((((((w.setCell ⟨q, 0, none⟩ v0).setCell ⟨q, 1, none⟩ v1).setCell ⟨q, 2, none⟩ v2).setCell ⟨q, 3, none⟩ v3).setCell ⟨q, 4, none⟩ v4).setCell ⟨q, 5, none⟩ v5).setCell ⟨q, 6, none⟩ v6).setCell ⟨q, 7, none⟩ v7).heap[q]? = some (.cells #[v0, v1, v2, v3, v4, v5, v6, v7, a8] T (0, 0)) := Go.Joins.block_setCell (i := 7) h7 v7
  have h9 : (((((((((w.setCell ⟨q, 0, none⟩ v0).setCell ⟨q, 1, none⟩ v1).setCell ⟨q, 2, none⟩ v2).setCell ⟨q, 3, none⟩ v3).setCell ⟨q, 4, none⟩ v4).setCell ⟨q, 5, none⟩ v5).setCell ⟨q, 6, none⟩ v6).setCell ⟨q, 7, none⟩ v7).setCell ⟨q, 8, none⟩ v8).heap[q]? = some (.cells #[v0, v1, v2, v3, v4, v5, v6, v7, v8] T (0, 0)) := Go.Joins.block_setCell (i := 8) h8 v8
  exact h9
theorem off9 {w : World} {q r : Nat} {o : Obj} (h : w.heap[r]? = some o) (hn : r ≠ q) (v0 v1 v2 v3 v4 v5 v6 v7 v8 : Value) : (((((((((w.setCell ⟨q, 0, none⟩ v0).setCell ⟨q, 1, none⟩ v1).setCell ⟨q, 2, none⟩ v2).setCell ⟨q, 3, none⟩ v3).setCell ⟨q, 4, none⟩ v4).setCell ⟨q, 5, none⟩ v5).setCell ⟨q, 6, none⟩ v6).setCell ⟨q, 7, none⟩ v7).setCell ⟨q, 8, none⟩ v8).heap[r]? = some o := by
  refine (heap_setCell_other _ ⟨q, 8, none⟩ r _ hn).trans ?_; refine (heap_setCell_other _ ⟨q, 7, none⟩ r _ hn).trans ?_; refine (heap_setCell_other _ ⟨q, 6, none⟩ r _ hn).trans ?_; refine (heap_setCell_other _ ⟨q, 5, none⟩ r _ hn).trans ?_; refine (heap_setCell_other _ ⟨q, 4, none⟩ r _ hn).trans ?_; refine (heap_setCell_other _ ⟨q, 3, none⟩ r _ hn).trans ?_; refine (heap_setCell_other _ ⟨q, 2, none⟩ r _ hn).trans ?_; refine (heap_setCell_other _ ⟨q, 1, none⟩ r _ hn).trans ?_; refine (heap_setCell_other _ ⟨q, 0, none⟩ r _ hn).trans ?_
  exact h
theorem bel9 {w u : World} {B q : Nat} (h : Below B w u) (hq : B ≤ q) (v0 v1 v2 v3 v4 v5 v6 v7 v8 : Value) : Below B w (((((((((u.setCell ⟨q, 0, none⟩ v0).setCell ⟨q, 1, none⟩ v1).setCell ⟨q, 2, none⟩ v2).setCell ⟨q, 3, none⟩ v3).setCell ⟨q, 4, none⟩ v4).setCell ⟨q, 5, none⟩ v5).setCell ⟨q, 6, none⟩ v6).setCell ⟨q, 7, none⟩ v7).setCell ⟨q, 8, none⟩ v8) := h |> fun h => ((((((((h.setCell hq v0).setCell hq v1).setCell hq v2).setCell hq v3).setCell hq v4).setCell hq v5).setCell hq v6).setCell hq v7).setCell hq v8
set_option maxHeartbeats 1500000 in
theorem cPollResult {w : World} {p : Nat} {b : PB} (B : w.heap[p]? = some (.cells b.cells 112 (0, 0))) :
    Calls Tryd.prog 18 #[.pointer (some ⟨p, 0, none⟩)] w fun e w' => e = .returned (.tuple #[.agg #[.int .i64 b.own.no, .int .i64 b.own.md, .int .i64 b.own.mr, .int .i64 b.own.ls], .int .i64 b.al, .agg #[.int .i64 b.n, .int .i64 (b.l 0), .int .i64 (b.l 1), .int .i64 (b.l 2), .int .i64 (b.l 3), .int .i64 (b.l 4), .int .i64 (b.l 5), .int .i64 (b.l 6), .int .i64 (b.l 7)]]) ∧ Below w.heap.size w w' := by
  have lp := lt_of_block B
  have keep : ∀ w', Below w.heap.size w w' → w'.cell? ⟨p, 1, none⟩ = some (.int .i64 b.own.no) ∧ w'.cell? ⟨p, 2, none⟩ = some (.int .i64 b.own.md) ∧ w'.cell? ⟨p, 3, none⟩ = some (.int .i64 b.own.mr) ∧ w'.cell? ⟨p, 4, none⟩ = some (.int .i64 b.own.ls) ∧ w'.cell? ⟨p, 5, none⟩ = some (.int .i64 b.al) ∧ w'.cell? ⟨p, 6, none⟩ = some (.int .i64 b.n) ∧ w'.cell? ⟨p, 7, none⟩ = some (.int .i64 (b.l 0)) ∧ w'.cell? ⟨p, 8, none⟩ = some (.int .i64 (b.l 1)) ∧ w'.cell? ⟨p, 9, none⟩ = some (.int .i64 (b.l 2)) ∧ w'.cell? ⟨p, 10, none⟩ = some (.int .i64 (b.l 3)) ∧ w'.cell? ⟨p, 11, none⟩ = some (.int .i64 (b.l 4)) ∧ w'.cell? ⟨p, 12, none⟩ = some (.int .i64 (b.l 5)) ∧ w'.cell? ⟨p, 13, none⟩ = some (.int .i64 (b.l 6)) ∧ w'.cell? ⟨p, 14, none⟩ = some (.int .i64 (b.l 7)) := fun w' hb => by
    have k := (hb.block p lp).trans B
    exact ⟨cell_of_row _ _ _ _ _ _ k, cell_of_row _ _ _ _ _ _ k, cell_of_row _ _ _ _ _ _ k, cell_of_row _ _ _ _ _ _ k, cell_of_row _ _ _ _ _ _ k, cell_of_row _ _ _ _ _ _ k, cell_of_row _ _ _ _ _ _ k, cell_of_row _ _ _ _ _ _ k, cell_of_row _ _ _ _ _ _ k, cell_of_row _ _ _ _ _ _ k, cell_of_row _ _ _ _ _ _ k, cell_of_row _ _ _ _ _ _ k, cell_of_row _ _ _ _ _ _ k, cell_of_row _ _ _ _ _ _ k⟩
  go_enter Tryd.func18, Tryd.ntmps18
  go_upto_region 1 with (fail)
  have h1 := heap_alloc_new w (.cells #[.int .i64 0, .int .i64 0, .int .i64 0, .int .i64 0] 37)
  have h2 := heap_alloc_new (w.alloc (.cells #[.int .i64 0, .int .i64 0, .int .i64 0, .int .i64 0] 37)) (.cells #[.int .i64 0, .int .i64 0, .int .i64 0, .int .i64 0, .int .i64 0, .int .i64 0, .int .i64 0, .int .i64 0, .int .i64 0] 42)
  have hs : (w.alloc (.cells #[.int .i64 0, .int .i64 0, .int .i64 0, .int .i64 0] 37)).heap.size = w.heap.size + 1 := by simp
  rw [hs] at h2
  have h1' : ((w.alloc (.cells #[.int .i64 0, .int .i64 0, .int .i64 0, .int .i64 0] 37)).alloc (.cells #[.int .i64 0, .int .i64 0, .int .i64 0, .int .i64 0, .int .i64 0, .int .i64 0, .int .i64 0, .int .i64 0, .int .i64 0] 42)).heap[w.heap.size]? = some (.cells #[.int .i64 0, .int .i64 0, .int .i64 0, .int .i64 0] 37 (0, 0)) := ((((Below.refl (w.heap.size + 1) (w.alloc (.cells #[.int .i64 0, .int .i64 0, .int .i64 0, .int .i64 0] 37))).alloc (by simp) _)).block _ (by omega)).trans h1
  have hb : Below w.heap.size w ((w.alloc (.cells #[.int .i64 0, .int .i64 0, .int .i64 0, .int .i64 0] 37)).alloc (.cells #[.int .i64 0, .int .i64 0, .int .i64 0, .int .i64 0, .int .i64 0, .int .i64 0, .int .i64 0, .int .i64 0, .int .i64 0] 42)) := S.bal (S.bal (Below.refl _ _) _) _
  clear h1 hs
  generalize ((w.alloc (.cells #[.int .i64 0, .int .i64 0, .int .i64 0, .int .i64 0] 37)).alloc (.cells #[.int .i64 0, .int .i64 0, .int .i64 0, .int .i64 0, .int .i64 0, .int .i64 0, .int .i64 0, .int .i64 0, .int .i64 0] 42)) = wa at h1' h2 hb ⊢
  generalize hra : w.heap.size = ra at h1' ⊢
  have hrb : ∃ rb, rb = ra + 1 := ⟨_, rfl⟩
  rw [hra] at h2
  obtain ⟨rb, hrb⟩ := hrb
  rw [← hrb] at h2 ⊢
  have la := lt_of_block h1'
  have lb := lt_of_block h2
  have hne : ra ≠ rb := by omega
  have hra2 : w.heap.size ≤ ra := by omega
  have hrb2 : w.heap.size ≤ rb := by omega
  have hbd : Below w.heap.size w wa.drew := hb.drew
  have RD := keep _ hbd
  have h1d : wa.drew.heap[ra]? = _ := h1'
  have h2d : wa.drew.heap[rb]? = _ := h2
  have hne' : rb ≠ ra := fun e => hne e.symm
  clear hrb
  refine wp_region_held_drew (S := fun w' => w'.cell? ⟨p, 1, none⟩ = some (.int .i64 b.own.no) ∧ w'.cell? ⟨p, 2, none⟩ = some (.int .i64 b.own.md) ∧ w'.cell? ⟨p, 3, none⟩ = some (.int .i64 b.own.mr) ∧ w'.cell? ⟨p, 4, none⟩ = some (.int .i64 b.own.ls) ∧ w'.cell? ⟨p, 5, none⟩ = some (.int .i64 b.al) ∧ w'.cell? ⟨p, 6, none⟩ = some (.int .i64 b.n) ∧ w'.cell? ⟨p, 7, none⟩ = some (.int .i64 (b.l 0)) ∧ w'.cell? ⟨p, 8, none⟩ = some (.int .i64 (b.l 1)) ∧ w'.cell? ⟨p, 9, none⟩ = some (.int .i64 (b.l 2)) ∧ w'.cell? ⟨p, 10, none⟩ = some (.int .i64 (b.l 3)) ∧ w'.cell? ⟨p, 11, none⟩ = some (.int .i64 (b.l 4)) ∧ w'.cell? ⟨p, 12, none⟩ = some (.int .i64 (b.l 5)) ∧ w'.cell? ⟨p, 13, none⟩ = some (.int .i64 (b.l 6)) ∧ w'.cell? ⟨p, 14, none⟩ = some (.int .i64 (b.l 7))) (by kernel_rfl) RD (fun hHeld => ?_)
  generalize wa.drew = wd at hHeld hbd h1d h2d ⊢
  have a0 : wd.cell? ⟨ra, 0, none⟩ = some (.int .i64 0) := cell_of_row wd _ _ _ _ _ h1d
  have af0 := frozen_of_row wd ra 0 _ _ h1d
  have a1 : wd.cell? ⟨ra, 1, none⟩ = some (.int .i64 0) := cell_of_row wd _ _ _ _ _ h1d
  have af1 := frozen_of_row wd ra 1 _ _ h1d
  have a2 : wd.cell? ⟨ra, 2, none⟩ = some (.int .i64 0) := cell_of_row wd _ _ _ _ _ h1d
  have af2 := frozen_of_row wd ra 2 _ _ h1d
  have a3 : wd.cell? ⟨ra, 3, none⟩ = some (.int .i64 0) := cell_of_row wd _ _ _ _ _ h1d
  have af3 := frozen_of_row wd ra 3 _ _ h1d
  have b0 : wd.cell? ⟨rb, 0, none⟩ = some (.int .i64 0) := cell_of_row wd _ _ _ _ _ h2d
  have bf0 := frozen_of_row wd rb 0 _ _ h2d
  have b1 : wd.cell? ⟨rb, 1, none⟩ = some (.int .i64 0) := cell_of_row wd _ _ _ _ _ h2d
  have bf1 := frozen_of_row wd rb 1 _ _ h2d
  have b2 : wd.cell? ⟨rb, 2, none⟩ = some (.int .i64 0) := cell_of_row wd _ _ _ _ _ h2d
  have bf2 := frozen_of_row wd rb 2 _ _ h2d
  have b3 : wd.cell? ⟨rb, 3, none⟩ = some (.int .i64 0) := cell_of_row wd _ _ _ _ _ h2d
  have bf3 := frozen_of_row wd rb 3 _ _ h2d
  have b4 : wd.cell? ⟨rb, 4, none⟩ = some (.int .i64 0) := cell_of_row wd _ _ _ _ _ h2d
  have bf4 := frozen_of_row wd rb 4 _ _ h2d
  have b5 : wd.cell? ⟨rb, 5, none⟩ = some (.int .i64 0) := cell_of_row wd _ _ _ _ _ h2d
  have bf5 := frozen_of_row wd rb 5 _ _ h2d
  have b6 : wd.cell? ⟨rb, 6, none⟩ = some (.int .i64 0) := cell_of_row wd _ _ _ _ _ h2d
  have bf6 := frozen_of_row wd rb 6 _ _ h2d
  have b7 : wd.cell? ⟨rb, 7, none⟩ = some (.int .i64 0) := cell_of_row wd _ _ _ _ _ h2d
  have bf7 := frozen_of_row wd rb 7 _ _ h2d
  have b8 : wd.cell? ⟨rb, 8, none⟩ = some (.int .i64 0) := cell_of_row wd _ _ _ _ _ h2d
  have bf8 := frozen_of_row wd rb 8 _ _ h2d
  have k1 := bel4 hbd hra2 (.int .i64 b.own.no) (.int .i64 b.own.md) (.int .i64 b.own.mr) (.int .i64 b.own.ls)
  have k12 := bel9 k1 hrb2 (.int .i64 b.n) (.int .i64 (b.l 0)) (.int .i64 (b.l 1)) (.int .i64 (b.l 2)) (.int .i64 (b.l 3)) (.int .i64 (b.l 4)) (.int .i64 (b.l 5)) (.int .i64 (b.l 6)) (.int .i64 (b.l 7))
  refine takeH (i := 0) 5 (.pointer (some ⟨p, 0, none⟩)) rfl rfl (by kernel_rfl) (by kernel_rfl) (by kernel_rfl) (fun _ _ _ h => h) (by rfl) ?_ (by assumption) ?_
  · intro w hSw; (try dsimp only at hSw); go_simp
  simp only [List.setIfInBounds_toArray, List.set_cons_zero, List.set_cons_succ]
  refine takeH (i := 1) 6 (.pointer (some ⟨p, 0, none⟩)) rfl rfl (by kernel_rfl) (by kernel_rfl) (by kernel_rfl) (fun _ _ _ h => h) (by rfl) ?_ (by assumption) ?_
  · intro w hSw; (try dsimp only at hSw); go_simp
  simp only [List.setIfInBounds_toArray, List.set_cons_zero, List.set_cons_succ]
  refine takeH (i := 2) 7 (.pointer (some ⟨p, 1, none⟩)) rfl rfl (by kernel_rfl) (by kernel_rfl) (by kernel_rfl) (fun _ _ _ h => h) (by rfl) ?_ (by assumption) ?_
  · intro w hSw; (try dsimp only at hSw); go_simp
  simp only [List.setIfInBounds_toArray, List.set_cons_zero, List.set_cons_succ]
  refine takeH (i := 3) 8 (.agg #[.int .i64 b.own.no, .int .i64 b.own.md, .int .i64 b.own.mr, .int .i64 b.own.ls]) rfl rfl (by kernel_rfl) (by kernel_rfl) (by kernel_rfl) (fun _ _ _ h => h) (by rfl) ?_ (by assumption) ?_
  · intro w hSw; (try dsimp only at hSw); go_simp
  simp only [List.setIfInBounds_toArray, List.set_cons_zero, List.set_cons_succ]
  refine takeH (i := 4) 9 (.pointer (some ⟨p, 0, none⟩)) rfl rfl (by kernel_rfl) (by kernel_rfl) (by kernel_rfl) (fun _ _ _ h => h) (by rfl) ?_ (by assumption) ?_
  · intro w hSw; (try dsimp only at hSw); go_simp
  simp only [List.setIfInBounds_toArray, List.set_cons_zero, List.set_cons_succ]
  refine takeH (i := 5) 10 (.pointer (some ⟨p, 0, none⟩)) rfl rfl (by kernel_rfl) (by kernel_rfl) (by kernel_rfl) (fun _ _ _ h => h) (by rfl) ?_ (by assumption) ?_
  · intro w hSw; (try dsimp only at hSw); go_simp
  simp only [List.setIfInBounds_toArray, List.set_cons_zero, List.set_cons_succ]
  refine takeH (i := 6) 11 (.pointer (some ⟨p, 5, none⟩)) rfl rfl (by kernel_rfl) (by kernel_rfl) (by kernel_rfl) (fun _ _ _ h => h) (by rfl) ?_ (by assumption) ?_
  · intro w hSw; (try dsimp only at hSw); go_simp
  simp only [List.setIfInBounds_toArray, List.set_cons_zero, List.set_cons_succ]
  refine takeH (i := 7) 12 (.int .i64 b.al) rfl rfl (by kernel_rfl) (by kernel_rfl) (by kernel_rfl) (fun _ _ _ h => h) (by rfl) ?_ (by assumption) ?_
  · intro w hSw; (try dsimp only at hSw); go_simp
  simp only [List.setIfInBounds_toArray, List.set_cons_zero, List.set_cons_succ]
  refine takeH (i := 8) 13 (.pointer (some ⟨p, 0, none⟩)) rfl rfl (by kernel_rfl) (by kernel_rfl) (by kernel_rfl) (fun _ _ _ h => h) (by rfl) ?_ (by assumption) ?_
  · intro w hSw; (try dsimp only at hSw); go_simp
  simp only [List.setIfInBounds_toArray, List.set_cons_zero, List.set_cons_succ]
  refine takeH (i := 9) 14 (.pointer (some ⟨p, 0, none⟩)) rfl rfl (by kernel_rfl) (by kernel_rfl) (by kernel_rfl) (fun _ _ _ h => h) (by rfl) ?_ (by assumption) ?_
  · intro w hSw; (try dsimp only at hSw); go_simp
  simp only [List.setIfInBounds_toArray, List.set_cons_zero, List.set_cons_succ]
  refine takeH (i := 10) 15 (.pointer (some ⟨p, 6, none⟩)) rfl rfl (by kernel_rfl) (by kernel_rfl) (by kernel_rfl) (fun _ _ _ h => h) (by rfl) ?_ (by assumption) ?_
  · intro w hSw; (try dsimp only at hSw); go_simp
  simp only [List.setIfInBounds_toArray, List.set_cons_zero, List.set_cons_succ]
  refine takeH (i := 11) 16 (.agg #[.int .i64 b.n, .int .i64 (b.l 0), .int .i64 (b.l 1), .int .i64 (b.l 2), .int .i64 (b.l 3), .int .i64 (b.l 4), .int .i64 (b.l 5), .int .i64 (b.l 6), .int .i64 (b.l 7)]) rfl rfl (by kernel_rfl) (by kernel_rfl) (by kernel_rfl) (fun _ _ _ h => h) (by rfl) ?_ (by assumption) ?_
  · intro w hSw; (try dsimp only at hSw); go_simp
  simp only [List.setIfInBounds_toArray, List.set_cons_zero, List.set_cons_succ]
  refine wpAnyH_ready (rs := [12]) (by kernel_rfl) (by simp) ?_
  refine AllReadyH.cons rfl (fun K hK => ?_) AllReadyH.nil
  go_simp
  refine hK.out _ _ (keep _ k1) (fun hHeld => ?_)
  clear hK K
  try simp only [Act.put, List.setIfInBounds_toArray, List.set_cons_zero, List.set_cons_succ]
  refine takeH (i := 13) 3 (.int .i64 b.al) rfl rfl (by kernel_rfl) (by kernel_rfl) (by kernel_rfl) (fun _ _ _ h => h) (by rfl) ?_ (by assumption) ?_
  · intro w hSw; (try dsimp only at hSw); go_simp
  simp only [List.setIfInBounds_toArray, List.set_cons_zero, List.set_cons_succ]
  refine wpAnyH_ready (rs := [14]) (by kernel_rfl) (by simp) ?_
  refine AllReadyH.cons rfl (fun K hK => ?_) AllReadyH.nil
  go_simp
  refine hK.out _ _ (keep _ k12) (fun hHeld => ?_)
  clear hK K
  try simp only [Act.put, List.setIfInBounds_toArray, List.set_cons_zero, List.set_cons_succ]
  refine wpAnyH_done (by kernel_rfl) ?_ _
  have g1 := off9 (row4 h1d (.int .i64 b.own.no) (.int .i64 b.own.md) (.int .i64 b.own.mr) (.int .i64 b.own.ls)) hne (.int .i64 b.n) (.int .i64 (b.l 0)) (.int .i64 (b.l 1)) (.int .i64 (b.l 2)) (.int .i64 (b.l 3)) (.int .i64 (b.l 4)) (.int .i64 (b.l 5)) (.int .i64 (b.l 6)) (.int .i64 (b.l 7))
  have g2 := row9 (off4 h2d hne' (.int .i64 b.own.no) (.int .i64 b.own.md) (.int .i64 b.own.mr) (.int .i64 b.own.ls)) (.int .i64 b.n) (.int .i64 (b.l 0)) (.int .i64 (b.l 1)) (.int .i64 (b.l 2)) (.int .i64 (b.l 3)) (.int .i64 (b.l 4)) (.int .i64 (b.l 5)) (.int .i64 (b.l 6)) (.int .i64 (b.l 7))
  have gb := k12
  clear a0 af0 a1 af1 a2 af2 a3 af3 b0 bf0 b1 bf1 b2 bf2 b3 bf3 b4 bf4 b5 bf5 b6 bf6 b7 bf7 b8 bf8 k1 k12
  generalize ((((((((((((wd.setCell ⟨ra, 0, none⟩ (.int .i64 b.own.no)).setCell ⟨ra, 1, none⟩ (.int .i64 b.own.md)).setCell ⟨ra, 2, none⟩ (.int .i64 b.own.mr)).setCell ⟨ra, 3, none⟩ (.int .i64 b.own.ls)).setCell ⟨rb, 0, none⟩ (.int .i64 b.n)).setCell ⟨rb, 1, none⟩ (.int .i64 (b.l 0))).setCell ⟨rb, 2, none⟩ (.int .i64 (b.l 1))).setCell ⟨rb, 3, none⟩ (.int .i64 (b.l 2))).setCell ⟨rb, 4, none⟩ (.int .i64 (b.l 3))).setCell ⟨rb, 5, none⟩ (.int .i64 (b.l 4))).setCell ⟨rb, 6, none⟩ (.int .i64 (b.l 5))).setCell ⟨rb, 7, none⟩ (.int .i64 (b.l 6))).setCell ⟨rb, 8, none⟩ (.int .i64 (b.l 7)) = wf at g1 g2 gb ⊢
  have d0 : wf.cell? ⟨ra, 0, none⟩ = some (.int .i64 b.own.no) := cell_of_row wf _ _ _ _ _ g1
  have d1 : wf.cell? ⟨ra, 1, none⟩ = some (.int .i64 b.own.md) := cell_of_row wf _ _ _ _ _ g1
  have d2 : wf.cell? ⟨ra, 2, none⟩ = some (.int .i64 b.own.mr) := cell_of_row wf _ _ _ _ _ g1
  have d3 : wf.cell? ⟨ra, 3, none⟩ = some (.int .i64 b.own.ls) := cell_of_row wf _ _ _ _ _ g1
  have e0 : wf.cell? ⟨rb, 0, none⟩ = some (.int .i64 b.n) := cell_of_row wf _ _ _ _ _ g2
  have e1 : wf.cell? ⟨rb, 1, none⟩ = some (.int .i64 (b.l 0)) := cell_of_row wf _ _ _ _ _ g2
  have e2 : wf.cell? ⟨rb, 2, none⟩ = some (.int .i64 (b.l 1)) := cell_of_row wf _ _ _ _ _ g2
  have e3 : wf.cell? ⟨rb, 3, none⟩ = some (.int .i64 (b.l 2)) := cell_of_row wf _ _ _ _ _ g2
  have e4 : wf.cell? ⟨rb, 4, none⟩ = some (.int .i64 (b.l 3)) := cell_of_row wf _ _ _ _ _ g2
  have e5 : wf.cell? ⟨rb, 5, none⟩ = some (.int .i64 (b.l 4)) := cell_of_row wf _ _ _ _ _ g2
  have e6 : wf.cell? ⟨rb, 6, none⟩ = some (.int .i64 (b.l 5)) := cell_of_row wf _ _ _ _ _ g2
  have e7 : wf.cell? ⟨rb, 7, none⟩ = some (.int .i64 (b.l 6)) := cell_of_row wf _ _ _ _ _ g2
  have e8 : wf.cell? ⟨rb, 8, none⟩ = some (.int .i64 (b.l 7)) := cell_of_row wf _ _ _ _ _ g2
  go_wp2
  exact bodyPost_ret (v := .tuple #[.agg #[.int .i64 b.own.no, .int .i64 b.own.md, .int .i64 b.own.mr, .int .i64 b.own.ls], .int .i64 b.al, .agg #[.int .i64 b.n, .int .i64 (b.l 0), .int .i64 (b.l 1), .int .i64 (b.l 2), .int .i64 (b.l 3), .int .i64 (b.l 4), .int .i64 (b.l 5), .int .i64 (b.l 6), .int .i64 (b.l 7)]]) (by simp [results, Tryd.results18, go_sem, d0, d1, d2, d3, e0, e1, e2, e3, e4, e5, e6, e7, e8]) rfl ⟨rfl, gb⟩
end Go.Proofs.YtoablodmodnamaaDoor
