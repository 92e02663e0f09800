/-
  Where the reference's graph lies in the heap; what a call leaves alone.
-/
import Derived.Test.YtbihdkdefopijaaYc0
import Derived.Test.YtbihdkdefopijaaSr
import Derived.Test.YtbihdkdefopijaaGc1
namespace Go.Proofs.Ytbihdkdefopijaa
set_option linter.unusedVariables false
set_option linter.unusedSimpArgs false
open Go.ChangeShapes Go.WideShapes Go.ChangeAt Go.RowKit

structure YLoc where
  b : Nat
  tg : Nat
  tc : Nat
  vl : Value
  vs : List Value
def YLoc.fp (L : YLoc) : List Nat := L.b :: L.tg :: (L.vl.ownBlock.toList ++ L.vs.filterMap Value.ownBlock)
structure YAt (w : World) (L : YLoc) (g : Gr) : Prop where
  blk : w.heap[L.b]? = some (.cells #[.slice (some ⟨L.tg, 0, none⟩) g.ts.length L.tc, L.vl] 67 (0, 0))
  thr : w.ownsRow 0 72 9 (.slice (some ⟨L.tg, 0, none⟩) g.ts.length L.tc) g.ts.length (tcells g.ts)
  len : L.vs.length = g.os.length
  row : w.ownsRow 0 60 1 L.vl g.os.length L.vs
  obj : ∀ (i : Nat) (o : List (Int × Int)), g.os[i]? = some o → ∃ u, L.vs[i]? = some u ∧ w.ownsRow 0 37 2 u o.length (vcells o)
  apart : ∀ (i j : Nat) (u v : Value) (k : Nat), L.vs[i]? = some u → L.vs[j]? = some v → u.ownBlock = some k → v.ownBlock = some k → i = j
  non : g.os = [] → L.vl = .slice none 0 0

section
variable {w w' : World} {L M : YLoc} {g : Gr}
theorem YAt.cell0 (h : YAt w L g) : w.cell? ⟨L.b, 0, none⟩ = some (.slice (some ⟨L.tg, 0, none⟩) g.ts.length L.tc) := by rw [cell_of_row w _ _ _ _ _ h.blk]; rfl
theorem YAt.cell1 (h : YAt w L g) : w.cell? ⟨L.b, 1, none⟩ = some L.vl := by rw [cell_of_row w _ _ _ _ _ h.blk]; rfl
theorem YAt.free (h : YAt w L g) (j : Nat) : w.frozen? ⟨L.b, j, none⟩ = false := frozen_of_row w _ _ _ _ h.blk
theorem YAt.tfree (h : YAt w L g) (j : Nat) : w.frozen? ⟨L.tg, j, none⟩ = false := h.thr.frozenAt j
theorem YAt.tblk (h : YAt w L g) : ∃ cur, w.heap[L.tg]? = some (.cells cur 72 (0, 0)) := own_blk h.thr L.tg rfl
theorem YAt.lblk (h : YAt w L g) (k : Nat) (hk : L.vl.ownBlock = some k) : ∃ cur, w.heap[k]? = some (.cells cur 60 (0, 0)) := own_blk h.row k hk
theorem YAt.vblk (h : YAt w L g) (i : Nat) (u : Value) (hi : L.vs[i]? = some u) (k : Nat) (hk : u.ownBlock = some k) : ∃ cur, w.heap[k]? = some (.cells cur 37 (0, 0)) := by
  have hl : i < g.os.length := by have := (List.getElem?_eq_some_iff.1 hi).1; have := h.len; omega
  obtain ⟨u', e1, e2⟩ := h.obj i _ (List.getElem?_eq_getElem hl)
  rw [hi] at e1
  injection e1 with e1
  subst e1
  exact own_blk e2 k hk
theorem YAt.kind (h : YAt w L g) (k : Nat) (hk : k ∈ L.fp) : ∃ cur T', w.heap[k]? = some (.cells cur T' (0, 0)) ∧ (T' = 67 ∨ T' = 72 ∨ T' = 60 ∨ T' = 37) := by
  simp only [YLoc.fp, List.mem_cons, List.mem_append, Option.mem_toList, List.mem_filterMap] at hk
  rcases hk with rfl | rfl | hk | ⟨u, hu, hk⟩
  · exact ⟨_, _, h.blk, .inl rfl⟩
  · obtain ⟨cur, hc⟩ := h.tblk
    exact ⟨_, _, hc, .inr (.inl rfl)⟩
  · obtain ⟨cur, hc⟩ := h.lblk k hk
    exact ⟨_, _, hc, .inr (.inr (.inl rfl))⟩
  · obtain ⟨i, hi⟩ := List.getElem?_of_mem hu
    obtain ⟨cur, hc⟩ := h.vblk i u hi k hk
    exact ⟨_, _, hc, .inr (.inr (.inr rfl))⟩
theorem YAt.lt (h : YAt w L g) : ∀ k ∈ L.fp, k < w.heap.size := fun k hk => by
  obtain ⟨_, _, e, _⟩ := h.kind k hk
  exact lt_of_block e
theorem YAt.bt (h : YAt w L g) : L.b ≠ L.tg := fun e => by
  obtain ⟨cur, hc⟩ := h.tblk
  have hb := h.blk
  rw [e, hc] at hb
  simp at hb
theorem YAt.on {F : List Nat} (h : YAt w M g) (k : Kept F w w') (d : ∀ k ∈ M.fp, k ∉ F) : YAt w' M g where
  blk := (k.block _ (lt_of_block h.blk) (d _ (by simp [YLoc.fp]))).trans h.blk
  thr := own_kept h.thr k fun j hj => by simp [Value.ownBlock] at hj; subst hj; exact d _ (by simp [YLoc.fp])
  len := h.len
  row := own_kept h.row k fun j hj => d _ (by simp [YLoc.fp, hj])
  obj := fun i o hi => by
    obtain ⟨u, e1, e2⟩ := h.obj i o hi
    exact ⟨u, e1, own_kept e2 k fun j hj => d _ (by simp only [YLoc.fp, List.mem_cons, List.mem_append, List.mem_filterMap]; exact .inr (.inr (.inr ⟨u, List.mem_of_getElem? e1, hj⟩)))⟩
  apart := h.apart
  non := h.non
theorem YAt.below (h : YAt w M g) (k : Below w.heap.size w w') : YAt w' M g := h.on (Kept.of_below (F := []) k) fun _ _ => by simp
theorem YAt.alloc (h : YAt w M g) (o : Obj) : YAt (w.alloc o) M g := h.on (Kept.alloc [] w o) fun _ _ => by simp
theorem YAt.drew (h : YAt w M g) : YAt w.drew M g := h.on (Kept.drew [] w) fun _ _ => by simp
theorem YAt.tcell (h : YAt w L g) (k : Nat) (hk : k < g.ts.length) (j : Nat) (hj : j < 9) : w.cell? ⟨L.tg, k * 9 + j, none⟩ = (rcs (g.ts.getD k []))[j]? := by
  rw [h.thr.cellAt (k * 9 + j) (by omega)]
  exact tcells_at _ _ _ _ (by rw [List.getD_eq_getElem?_getD, List.getElem?_eq_getElem hk]; rfl) hj
theorem YAt.t9 (h : YAt w L g) (k : Nat) (hk : k < g.ts.length) : w.cell? ⟨L.tg, k * 9, none⟩ = some (.int .i64 (g.ts.getD k []).length) ∧ w.cell? ⟨L.tg, k * 9 + 1, none⟩ = some (.int .i64 (rl (g.ts.getD k []) 0)) ∧ w.cell? ⟨L.tg, k * 9 + 2, none⟩ = some (.int .i64 (rl (g.ts.getD k []) 1)) ∧ w.cell? ⟨L.tg, k * 9 + 3, none⟩ = some (.int .i64 (rl (g.ts.getD k []) 2)) ∧ w.cell? ⟨L.tg, k * 9 + 4, none⟩ = some (.int .i64 (rl (g.ts.getD k []) 3)) ∧ w.cell? ⟨L.tg, k * 9 + 5, none⟩ = some (.int .i64 (rl (g.ts.getD k []) 4)) ∧ w.cell? ⟨L.tg, k * 9 + 6, none⟩ = some (.int .i64 (rl (g.ts.getD k []) 5)) ∧ w.cell? ⟨L.tg, k * 9 + 7, none⟩ = some (.int .i64 (rl (g.ts.getD k []) 6)) ∧ w.cell? ⟨L.tg, k * 9 + 8, none⟩ = some (.int .i64 (rl (g.ts.getD k []) 7)) :=
  ⟨h.tcell k hk 0 (by decide), h.tcell k hk 1 (by decide), h.tcell k hk 2 (by decide), h.tcell k hk 3 (by decide), h.tcell k hk 4 (by decide), h.tcell k hk 5 (by decide), h.tcell k hk 6 (by decide), h.tcell k hk 7 (by decide), h.tcell k hk 8 (by decide)⟩
end

theorem yIs {w : World} {L : YLoc} {g : Gr} (hg : YAt w L g) (f : g.Fit) (t : Int) :
    Calls Try.prog 38 #[.pointer (some ⟨L.b, 0, none⟩), .int .i64 t] w fun e w' => e = .returned (.bool (g.isT t)) ∧ w' = w := by
  have c0 := hg.cell0
  have t64 := f.t64
  unfold Gr.isT
  by_cases h0 : 0 ≤ t
  · by_cases h1 : t < g.ts.length
    · rw [decide_eq_true h0, decide_eq_true h1]
      go_enter Try.func38, Try.ntmps38
      go_wp2
      go_ret
      exact ⟨by simp [h0, h1], rfl⟩
    · rw [decide_eq_true h0, decide_eq_false h1]
      go_enter Try.func38, Try.ntmps38
      go_wp2
      go_ret
      exact ⟨by simp [h1], rfl⟩
  · rw [decide_eq_false h0]
    go_enter Try.func38, Try.ntmps38
    go_wp2
    go_ret
    exact ⟨by simp, rfl⟩
end Go.Proofs.Ytbihdkdefopijaa
