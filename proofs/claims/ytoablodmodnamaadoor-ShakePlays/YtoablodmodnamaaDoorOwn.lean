/-
  One memory, and two, as a law has them in hand.
-/
import Derived.Test.YtoablodmodnamaaDoorClone
namespace Go.Proofs.YtoablodmodnamaaDoor
set_option linter.unusedVariables false
set_option maxRecDepth 100000
open Go.ChangeShapes Go.WideShapes Go.RowKit

/-- blocks of other kinds are as they were -/
def Others (w w' : World) : Prop := ∀ (k : Nat) (cs : Array Value) (T : TypeId) (fz : Nat × Nat), T ∉ [142, 80, 76, 154] → w.heap[k]? = some (.cells cs T fz) → w'.heap[k]? = some (.cells cs T fz)
theorem Others.trans {w w1 w2 : World} (h : Others w w1) (h1 : Others w1 w2) : Others w w2 := fun k cs T fz hT hk => h1 k cs T fz hT (h k cs T fz hT hk)
theorem Others.refl (w : World) : Others w w := fun _ _ _ _ _ h => h
theorem others_of {T : TypeId} {w w' : World} {L : Loc} {s : St} (h : MemAt T w L s) (hT : T ∈ [142, 80]) (k : Kept L.fp w w') : Others w w' := fun b cs T' fz hT' hb => by
  refine h.other k hb ⟨?_, ?_, ?_⟩
  · rintro rfl
    simp at hT hT'
    rcases hT with h | h <;> simp [h] at hT'
  · rintro rfl; simp at hT'
  · rintro rfl; simp at hT'
theorem others_below {w w' : World} (h : Below w.heap.size w w') : Others w w' := fun k _ _ _ _ hk => (h.block k (lt_of_block hk)).trans hk

/-- one memory of the call's own -/
structure Own (w0 w : World) (b : Nat) (s : St) (N : Nat) : Prop where
  at_ : ∃ L : Loc, L.b = b ∧ Mm w L s ∧ ∀ k ∈ L.fp, w0.heap.size ≤ k
  bel : Below w0.heap.size w0 w
  fit : s.Fit
  top : s.c ≤ N

theorem Own.call {P : Program} {f : Nat} {args : Array Value} {r : Value} {w0 w : World} {b : Nat} {s s' : St} {N N' : Nat} (h : Own w0 w b s N) (hf : s'.Fit) (hN : s'.c ≤ N')
    (hc : ∀ L : Loc, L.b = b → Mm w L s → Calls P f args w fun e w' => e = .returned r ∧ ∃ L', Mm w' L' s' ∧ Step w L w' L') :
    Calls P f args w fun e w' => e = .returned r ∧ Own w0 w' b s' N' ∧ Others w w' := by
  obtain ⟨⟨L, hb, hm, hl⟩, hbel, _, _⟩ := h
  refine (hc L hb hm).mono ?_
  rintro e w' ⟨rfl, L', hm', st⟩
  have R := st.from hl hbel.size
  exact ⟨rfl, ⟨⟨L', st.b.trans hb, hm', R.2⟩, hbel.trans R.1, hf, hN⟩, others_of hm (by simp) st.kept⟩

section
variable {w0 w : World} {b : Nat} {s : St} {N : Nat}
theorem oLoad (h : Own w0 w b s N) (hN : N < 1000000) (a : Int) :
    Calls Tryd.prog 31 #[.pointer (some ⟨b, 0, none⟩), .int .i64 a] w fun e w' => e = .returned (.int .u64 (s.got a)) ∧ Own w0 w' b (s.load a) (N + 1) ∧ Others w w' :=
  have hc : s.c < 1000000 := by have := h.top; omega
  h.call (h.fit.load hc a) (by rw [St.c_load]; have := h.top; omega) fun L hb hm => hb ▸ cLoad hm h.fit hc a
theorem oStore (h : Own w0 w b s N) (hN : N < 1000000) (a x : Int) :
    Calls Tryd.prog 37 #[.pointer (some ⟨b, 0, none⟩), .int .i64 a, .int .u64 x] w fun e w' => e = .returned (.tuple #[]) ∧ Own w0 w' b (s.store a x) (N + 1) ∧ Others w w' :=
  have hc : s.c < 1000000 := by have := h.top; omega
  h.call (h.fit.store hc a x) (by rw [St.c_store]; have := h.top; omega) fun L hb hm => hb ▸ cStore hm h.fit hc a x
theorem oCAS (h : Own w0 w b s N) (hN : N < 1000000) (a o x : Int) :
    Calls Tryd.prog 62 #[.pointer (some ⟨b, 0, none⟩), .int .i64 a, .int .u64 o, .int .u64 x] w fun e w' => e = .returned (.bool (s.ok1 a o)) ∧ Own w0 w' b (s.cas a o x) (N + 1) ∧ Others w w' :=
  have hc : s.c < 1000000 := by have := h.top; omega
  h.call (h.fit.cas hc a o x) (by rw [St.c_cas]; have := h.top; omega) fun L hb hm => hb ▸ cCAS hm h.fit hc a o x
theorem oTraps (h : Own w0 w b s N) : Calls Tryd.prog 32 #[.pointer (some ⟨b, 0, none⟩)] w fun e w' => e = .returned (.int .i64 s.t) ∧ w' = w := by
  obtain ⟨⟨L, rfl, hm, _⟩, _⟩ := h
  exact cTraps hm
theorem oLen (h : Own w0 w b s N) : Calls Tryd.prog 56 #[.pointer (some ⟨b, 0, none⟩)] w fun e w' => e = .returned (.int .i64 s.ws.length) ∧ w' = w := by
  obtain ⟨⟨L, rfl, hm, _⟩, _⟩ := h
  exact cLen hm
theorem Own.alloc (h : Own w0 w b s N) (o : Obj) : Own w0 (w.alloc o) b s N := by
  obtain ⟨⟨L, rfl, hm, hl⟩, hb, f, t⟩ := h
  exact ⟨⟨L, rfl, hm.alloc o, hl⟩, hb.alloc hb.size o, f, t⟩
theorem Own.drew (h : Own w0 w b s N) : Own w0 w.drew b s N := by
  obtain ⟨⟨L, rfl, hm, hl⟩, hb, f, t⟩ := h
  exact ⟨⟨L, rfl, hm.drew, hl⟩, hb.drew, f, t⟩
/-- a store into a block of another kind -/
theorem Own.setCell (h : Own w0 w b s N) {k j : Nat} {cs : Array Value} {T : TypeId} {fz : Nat × Nat} (hk : w.heap[k]? = some (.cells cs T fz)) (hT : T ∉ [142, 76, 154]) (h0 : w0.heap.size ≤ k) (u : Value) : Own w0 (w.setCell ⟨k, j, none⟩ u) b s N := by
  obtain ⟨⟨L, rfl, hm, hl⟩, hb, f, t⟩ := h
  refine ⟨⟨L, rfl, hm.on (Kept.setCell [k] w _ u (by simp)) (fun i hi e => ?_), hl⟩, hb.setCell h0 u, f, t⟩
  simp at e
  subst e
  obtain ⟨cur, T1, e, h1⟩ := hm.kind i hi
  rw [hk] at e
  simp at e
  obtain ⟨_, rfl, _⟩ := e
  rcases h1 with rfl | rfl | rfl <;> simp at hT
end
theorem oNew (w : World) (n : Nat) (h1 : 2 ≤ n) (h4 : n ≤ 4096) {w0 : World} (hb : Below w0.heap.size w0 w) :
    Calls Tryd.prog 35 #[.int .i64 n] w fun e w' => ∃ b, e = .returned (.tuple #[.pointer (some ⟨b, 0, none⟩), .int .i64 0]) ∧ Own w0 w' b (St.new n) 0 := by
  refine (cNew w n (by omega) h4).mono ?_
  rintro e w' ⟨b, g, cp, rfl, hm, hb', hl⟩
  exact ⟨b, rfl, ⟨⟨_, rfl, hm, fun k hk => Nat.le_trans hb.size (hl k hk)⟩, hb.trans (hb'.mono hb.size), St.Fit.new h1 h4, by simp [St.new]⟩⟩
end Go.Proofs.YtoablodmodnamaaDoor
