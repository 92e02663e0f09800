/-
  A machine beside a memory: what both are, said plainly; what a step leaves alone.
-/
import Derived.Test.YtoablodmodnamaaDoorRef
import Derived.Lib.SmallJoins
import Derived.Laws.EntriesVeiled
import Derived.Test.YtoablodmodnamaaDoorHRefs
import Derived.Test.YtoablodmodnamaaDoorSRefs
namespace Go.Proofs.YtoablodmodnamaaDoor
set_option linter.unusedVariables false
set_option maxRecDepth 100000
open Go.ChangeShapes Go.WideShapes Go.RowKit
open S.Plain (t0 t1 tw nx)
open H.Plain (hw pL)

/-- words are words -/
def U64 (x : Int) : Prop := 0 ≤ x ∧ x ≤ 18446744073709551615
def St.Rng (s : St) : Prop := ∀ x ∈ s.ws, U64 x
theorem U64.zero : U64 0 := ⟨by omega, by omega⟩
theorem u64_nx (a x : Int) : U64 (nx a x) := ⟨S.Plain.nx_pos a x, S.Plain.nx_le a x⟩
theorem u64_hw (s c n m g t l : Int) : U64 (hw s c n m g t l) := by unfold H.Plain.hw; constructor <;> omega
namespace St
variable {s : St}
theorem Rng.word (h : s.Rng) (a : Int) : U64 (s.word a) := by
  unfold St.word
  by_cases k : a.toNat < s.ws.length
  · rw [List.getD_eq_getElem?_getD, List.getElem?_eq_getElem k]; exact h _ (by simp)
  · rw [List.getD_eq_getElem?_getD, List.getElem?_eq_none (by omega)]; exact U64.zero
theorem Rng.got (h : s.Rng) (a : Int) : U64 (s.got a) := by unfold St.got; split; exact h.word a; exact U64.zero
theorem Rng.put (h : s.Rng) (a : Int) {x : Int} (hx : U64 x) : (s.put a x).Rng := fun y hy => by
  rcases List.mem_or_eq_of_mem_set hy with h' | rfl
  · exact h y h'
  · exact hx
theorem Rng.tell (h : s.Rng) (op a : Int) (is ok : Bool) : (s.tell op a is ok).Rng := h
theorem Rng.load (h : s.Rng) (a : Int) : (s.load a).Rng := h
theorem Rng.store (h : s.Rng) (a : Int) {x : Int} (hx : U64 x) : (s.store a x).Rng := by
  unfold St.store; split
  · exact (h.put a hx).tell _ _ _ _
  · exact h.tell _ _ _ _
theorem Rng.cas (h : s.Rng) (a o : Int) {x : Int} (hx : U64 x) : (s.cas a o x).Rng := by
  unfold St.cas; split
  · exact (h.put a hx).tell _ _ _ _
  · exact h.tell _ _ _ _
theorem Rng.new (n : Nat) : (St.new n).Rng := fun x hx => by simp [St.new] at hx; rw [hx.2]; exact U64.zero
end St

theorem wid_kept {F : List Nat} {w w' : World} (h : H.Wid w) (k : Kept F w w') (h0 : 0 ∉ F) : H.Wid w' := by
  have e := k.block 0 h.1 h0
  have c : ∀ i, w'.cell? ⟨0, i, none⟩ = w.cell? ⟨0, i, none⟩ := fun i => World.cell?_of_block (a := ⟨0, i, none⟩) e
  refine ⟨Nat.lt_of_lt_of_le h.1 k.size, ?_⟩
  simp only [c]
  exact h.2
/-- a memory, and a machine's block beside it -/
structure At (TM : TypeId) (w : World) (L : Loc) (s : St) (p : Nat) (T : TypeId) (cs : Array Value) : Prop where
  mem : MemAt TM w L s
  blk : w.heap[p]? = some (.cells cs T (0, 0))
  hT : T ≠ TM ∧ T ≠ 76 ∧ T ≠ 154
  wid : H.Wid w
  zero : 0 ∉ L.fp ∧ p ≠ 0
/-- from one place to the next: the memory's own blocks and the machine's alone are written -/
structure Went (w : World) (L : Loc) (p : Nat) (w' : World) (L' : Loc) : Prop where
  kept : Kept (p :: L.fp) w w'
  new : ∀ k ∈ L'.fp, k ∈ L.fp ∨ w.heap.size ≤ k
  b : L'.b = L.b
section
variable {TM T : TypeId} {w w1 w2 : World} {L L1 L2 : Loc} {s s1 : St} {p : Nat} {cs : Array Value}
theorem At.notin (h : At TM w L s p T cs) : p ∉ L.fp := fun hp => by
  obtain ⟨cur, T', e, h1⟩ := h.mem.kind p hp
  rw [h.blk] at e
  simp at e
  obtain ⟨_, rfl⟩ := e
  rcases h1 with h1 | h1 | h1
  · exact h.hT.1 h1
  · exact h.hT.2.1 h1
  · exact h.hT.2.2 h1
theorem Went.refl (w : World) (L : Loc) (p : Nat) : Went w L p w L := ⟨Kept.refl _ _, fun _ h => .inl h, rfl⟩
theorem Went.trans (h : Went w L p w1 L1) (h1 : Went w1 L1 p w2 L2) : Went w L p w2 L2 :=
  ⟨h.kept.trans h1.kept fun k hk => by
    simp only [List.mem_cons] at hk ⊢
    rcases hk with rfl | hk
    · exact .inl (.inl rfl)
    · exact (h.new k hk).imp .inr id, fun k hk => (h1.new k hk).elim (h.new k) fun hk' => .inr (Nat.le_trans h.kept.size hk'), h1.b.trans h.b⟩
theorem Went.of_step (h : Step w L w1 L1) (p : Nat) : Went w L p w1 L1 := ⟨h.kept.mono fun k hk => by simp [hk], h.new, h.b⟩
theorem Went.of_below (h : Below w.heap.size w w1) (L : Loc) (p : Nat) : Went w L p w1 L := ⟨Kept.of_below h, fun _ h => .inl h, rfl⟩
theorem Went.set (w : World) (L : Loc) (p i : Nat) (u : Value) : Went w L p (w.setCell ⟨p, i, none⟩ u) L := ⟨Kept.setCell _ _ _ _ (by simp), fun _ h => .inl h, rfl⟩
theorem At.step (h : At TM w L s p T cs) (hm : MemAt TM w1 L1 s1) (st : Step w L w1 L1) : At TM w1 L1 s1 p T cs :=
  ⟨hm, (st.kept.block p (lt_of_block h.blk) h.notin).trans h.blk, h.hT, wid_kept h.wid st.kept h.zero.1, fun h0 => (st.new 0 h0).elim h.zero.1 fun h' => by have := h.wid.1; omega, h.zero.2⟩
theorem At.below (h : At TM w L s p T cs) (hb : Below w.heap.size w w1) : At TM w1 L s p T cs := ⟨h.mem.below hb, (hb.block p (lt_of_block h.blk)).trans h.blk, h.hT, h.wid.on hb, h.zero⟩
theorem At.alloc (h : At TM w L s p T cs) (o : Obj) : At TM (w.alloc o) L s p T cs := h.below ((Below.refl _ _).alloc (Nat.le_refl _) o)
theorem At.set (h : At TM w L s p T cs) (i : Nat) (u : Value) : At TM (w.setCell ⟨p, i, none⟩ u) L s p T (cs.setIfInBounds i u) :=
  ⟨h.mem.on (Kept.setCell [p] _ _ _ (by simp)) fun k hk e => by simp at e; subst e; exact h.notin hk, Go.Joins.block_setCell h.blk u, h.hT, wid_kept h.wid (Kept.setCell [p] _ _ _ (by simp)) (by simp; exact fun e => h.zero.2 e.symm), h.zero⟩
theorem At.cell (h : At TM w L s p T cs) (i : Nat) : w.cell? ⟨p, i, none⟩ = cs[i]? := cell_of_row w _ _ _ _ _ h.blk
theorem At.free (h : At TM w L s p T cs) (i : Nat) : w.frozen? ⟨p, i, none⟩ = false := frozen_of_row w _ _ _ _ h.blk
end
end Go.Proofs.YtoablodmodnamaaDoor
