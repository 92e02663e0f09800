/-
  One graph, as a law has it in hand.
-/
import Derived.Test.YtbihdkdefopijaaSs
namespace Go.Proofs.Ytbihdkdefopijaa
set_option linter.unusedVariables false
set_option linter.unusedSimpArgs false
open Go.ChangeShapes Go.WideShapes Go.ChangeAt Go.RowKit

/-- blocks of other kinds are as they were -/
def Others (w w' : World) : Prop := ∀ (k : Nat) (cs : Array Value) (T : TypeId) (fz : Nat × Nat), T ∉ [65, 72, 77] → w.heap[k]? = some (.cells cs T fz) → w'.heap[k]? = some (.cells cs T fz)
theorem Others.trans {w w1 w2 : World} (h : Others w w1) (h1 : Others w1 w2) : Others w w2 := fun k cs T fz hT hk => h1 k cs T fz hT (h k cs T fz hT hk)
theorem Others.refl (w : World) : Others w w := fun _ _ _ _ _ h => h
theorem others_of {w w' : World} {L : Loc} {g : Gr} (h : GAt w L g) (k : Kept L.fp w w') : Others w w' := fun b cs T' fz hT' hb => by
  refine (k.block b (lt_of_block hb) fun hk => ?_).trans hb
  obtain ⟨cur, T1, e, h1⟩ := h.kind b hk
  rw [hb] at e
  simp at e
  obtain ⟨_, rfl, _⟩ := e
  rcases h1 with rfl | rfl | rfl <;> simp at hT'
theorem others_below {w w' : World} (h : Below w.heap.size w w') : Others w w' := fun k _ _ _ _ hk => (h.block k (lt_of_block hk)).trans hk
theorem RowR.others {w w' : World} {T e : TypeId} {size : Nat} {v : Value} {rows : List (Nat × List Value)} {p : Nat → Prop} (h : RowR w T e size v rows p) (ho : Others w w') (hT : T ∉ [65, 72, 77]) (he : e ∉ [65, 72, 77]) : RowR w' T e size v rows p :=
  h.on fun k cs T' hb hTe hp => ⟨by rw [ho k cs T' _ (by rcases hTe with rfl | rfl <;> assumption) hb, hb], hp⟩

structure Own (w0 w : World) (b : Nat) (g : Gr) (N : Nat) : Prop where
  at_ : ∃ L : Loc, L.b = b ∧ GAt w L g ∧ ∀ k ∈ L.fp, w0.heap.size ≤ k
  bel : Below w0.heap.size w0 w
  fit : g.Fit
  top : g.os.length ≤ N

section
variable {w0 w : World} {b : Nat} {g : Gr} {N : Nat}
theorem Own.mono (h : Own w0 w b g N) {N' : Nat} (hN : N ≤ N') : Own w0 w b g N' := ⟨h.at_, h.bel, h.fit, Nat.le_trans h.top hN⟩
theorem Own.below {w' : World} (h : Own w0 w b g N) (hb : Below w.heap.size w w') : Own w0 w' b g N := by
  obtain ⟨⟨L, rfl, hg, hl⟩, h1, f, t⟩ := h
  exact ⟨⟨L, rfl, hg.below hb, hl⟩, bt h1 hb, f, t⟩
theorem Own.alloc (h : Own w0 w b g N) (o : Obj) : Own w0 (w.alloc o) b g N := h.below (bal (Below.refl _ _) o)
theorem Own.drew (h : Own w0 w b g N) : Own w0 w.drew b g N := h.below (Below.refl _ _).drew
theorem Own.drewN (h : Own w0 w b g N) (n : Nat) : Own w0 (w.drewN n) b g N := h.below (bdr (Below.refl _ _) n)
/-- a store into a block of another kind -/
theorem Own.setCell (h : Own w0 w b g N) {k j : Nat} {cs : Array Value} {T : TypeId} {fz : Nat × Nat} (hk : w.heap[k]? = some (.cells cs T fz)) (hT : T ∉ [65, 72, 77]) (h0 : w0.heap.size ≤ k) (u : Value) : Own w0 (w.setCell ⟨k, j, none⟩ u) b g N := by
  obtain ⟨⟨L, rfl, hg, hl⟩, hb, f, t⟩ := h
  refine ⟨⟨L, rfl, hg.on (Kept.setCell [k] w _ u (by simp)) (fun i hi e => ?_), hl⟩, hb.setCell h0 u, f, t⟩
  simp at e
  subst e
  obtain ⟨cur, T1, e, h1⟩ := hg.kind i hi
  rw [hk] at e
  simp at e
  obtain ⟨_, rfl, _⟩ := e
  rcases h1 with rfl | rfl | rfl <;> simp at hT
theorem Own.call {P : Program} {f : Nat} {args : Array Value} {r : Value} {g' : Gr} {N' : Nat} (h : Own w0 w b g N) (hf : g'.Fit) (hN : g'.os.length ≤ N')
    (hc : ∀ L : Loc, L.b = b → GAt w L g → Calls P f args w fun e w' => e = .returned r ∧ ∃ L', GAt w' L' g' ∧ Step w L w' L') :
    Calls P f args w fun e w' => e = .returned r ∧ Own w0 w' b g' N' ∧ Others w w' := by
  obtain ⟨⟨L, hb, hg, hl⟩, hbel, _, _⟩ := h
  refine (hc L hb hg).mono ?_
  rintro e w' ⟨rfl, L', hg', st⟩
  have R := st.from hl hbel.size
  exact ⟨rfl, ⟨⟨L', st.b.trans hb, hg', R.2⟩, hbel.trans R.1, hf, hN⟩, others_of hg st.kept⟩
theorem oAlloc (h : Own w0 w b g N) (hN : N < 1000) (t n : Int) :
    Calls Try.prog 13 #[.pointer (some ⟨b, 0, none⟩), .int .i64 t, .int .i64 n] w fun e w' => e = .returned (.int .i64 (g.allocE t n)) ∧ Own w0 w' b (g.alloc t n) (N + 1) ∧ Others w w' :=
  h.call (h.fit.alloc t n (by have := h.top; omega)) (by have := g.n_alloc t n; have := h.top; omega) fun L hb hg => hb ▸ cAllocG hg h.fit t n
theorem oPut (h : Own w0 w b g N) (t i : Int) :
    Calls Try.prog 17 #[.pointer (some ⟨b, 0, none⟩), .int .i64 t, .int .i64 i] w fun e w' => e = .returned (.int .i64 (g.putE t i)) ∧ Own w0 w' b (g.put t i) N ∧ Others w w' :=
  h.call (h.fit.put t i) (by rw [Gr.n_put]; exact h.top) fun L hb hg => hb ▸ cPutG hg h.fit t i
theorem oDup (h : Own w0 w b g N) (t i : Int) :
    Calls Try.prog 25 #[.pointer (some ⟨b, 0, none⟩), .int .i64 t, .int .i64 i] w fun e w' => e = .returned (.int .i64 (g.dupE t i)) ∧ Own w0 w' b (g.dup t i) N ∧ Others w w' :=
  h.call (h.fit.dup t i) (by rw [Gr.n_dup]; exact h.top) fun L hb hg => hb ▸ cDupG hg h.fit t i
theorem oDrop (h : Own w0 w b g N) (t : Int) :
    Calls Try.prog 27 #[.pointer (some ⟨b, 0, none⟩), .int .i64 t] w fun e w' => e = .returned (.int .i64 (g.dropE t)) ∧ Own w0 w' b (g.drop t) N ∧ Others w w' :=
  h.call (h.fit.drop t) (by rw [Gr.n_drop]; exact h.top) fun L hb hg => hb ▸ cDropG hg h.fit t
theorem oWrite (h : Own w0 w b g N) (t i k c d : Int) :
    Calls Try.prog 19 #[.pointer (some ⟨b, 0, none⟩), .int .i64 t, .int .i64 i, .int .i64 k, .agg #[.int .i64 c, .int .i64 d]] w fun e w' => e = .returned (.int .i64 (g.writeE t i k (c, d))) ∧ Own w0 w' b (g.write t i k (c, d)) N ∧ Others w w' :=
  h.call (h.fit.write t i k (c, d)) (by rw [Gr.n_write]; exact h.top) fun L hb hg => hb ▸ cWriteG hg h.fit t i k c d
theorem oSwap (h : Own w0 w b g N) (t i k c d c' d' : Int) :
    Calls Try.prog 21 #[.pointer (some ⟨b, 0, none⟩), .int .i64 t, .int .i64 i, .int .i64 k, .agg #[.int .i64 c, .int .i64 d], .agg #[.int .i64 c', .int .i64 d']] w fun e w' => e = .returned (.tuple #[.bool (g.swapY t i k (c, d) (c', d')), .int .i64 (g.swapE t i k (c, d) (c', d'))]) ∧ Own w0 w' b (g.swap t i k (c, d) (c', d')) N ∧ Others w w' :=
  h.call (h.fit.swap t i k (c, d) (c', d')) (by rw [Gr.n_swap]; exact h.top) fun L hb hg => hb ▸ cSwapG hg h.fit t i k c d c' d'
theorem oLook (h : Own w0 w b g N) (t i k : Int) :
    Calls Try.prog 15 #[.pointer (some ⟨b, 0, none⟩), .int .i64 t, .int .i64 i, .int .i64 k] w fun e w' => e = .returned (.tuple #[vv (g.lookV t i k), .int .i64 (g.lookE t i k)]) ∧ Own w0 w' b g N ∧ Below w.heap.size w w' := by
  have h' := h
  obtain ⟨⟨L, rfl, hg, hl⟩, hbel, _, _⟩ := h'
  refine (cLookG hg h.fit t i k).mono ?_
  rintro e w' ⟨rfl, hb⟩
  exact ⟨rfl, h.below hb, hb⟩
theorem oEq (h : Own w0 w b g N) (t i k : Int) :
    Calls Try.prog 23 #[.pointer (some ⟨b, 0, none⟩), .int .i64 t, .int .i64 i, .int .i64 k] w fun e w' => e = .returned (.tuple #[.bool (g.eqY t i k), .int .i64 (g.eqE t i k)]) ∧ Own w0 w' b g N ∧ Below w.heap.size w w' := by
  have h' := h
  obtain ⟨⟨L, rfl, hg, hl⟩, hbel, _, _⟩ := h'
  refine (cEq hg h.fit t i k).mono ?_
  rintro e w' ⟨rfl, hb⟩
  exact ⟨rfl, h.below hb, hb⟩
theorem oShape (h : Own w0 w b g N) :
    Calls Try.prog 31 #[.pointer (some ⟨b, 0, none⟩)] w fun e w' => ∃ vr vl, e = .returned (.agg #[vr, vl]) ∧ Own w0 w' b g N ∧ Below w.heap.size w w' ∧ RowsI w' vr (Sh.roots g) (fun k => w.heap.size ≤ k) ∧ RowsV w' vl (Sh.objs g) (fun k => w.heap.size ≤ k) := by
  have h' := h
  obtain ⟨⟨L, rfl, hg, hl⟩, hbel, _, _⟩ := h'
  refine (cShape hg h.fit).mono ?_
  rintro e w' ⟨vr, vl, rfl, hb, h1, h2⟩
  exact ⟨vr, vl, rfl, h.below hb, hb, h1, h2⟩
end
theorem oNew (w : World) (n : Nat) (h1 : 1 ≤ n) (h4 : n ≤ 64) {w0 : World} (hb : Below w0.heap.size w0 w) :
    Calls Try.prog 10 #[.int .i64 n] w fun e w' => ∃ b, e = .returned (.tuple #[.pointer (some ⟨b, 0, none⟩), .int .i64 0]) ∧ Own w0 w' b (Gr.new n) 0 ∧ Below w.heap.size w w' := by
  refine (cNew w n h1 h4).mono ?_
  rintro e w' ⟨L, rfl, hg, hb', hl⟩
  exact ⟨L.b, rfl, ⟨⟨L, rfl, hg, fun k hk => Nat.le_trans hb.size (hl k hk)⟩, bt hb hb', Gr.Fit.new h1 h4, by simp [Gr.new]⟩, hb'⟩

/-- which of n kinds -/
def kd (c n : Int) : Int := (if c < 0 then -(c + 1) else c) % n
theorem kd_bounds (c n : Int) (h : 0 < n) : 0 ≤ kd c n ∧ kd c n < n := ⟨Int.emod_nonneg _ (by omega), Int.emod_lt_of_pos _ h⟩
theorem cKind (w : World) (c n : Int) (hc : -9223372036854775808 ≤ c) (hc' : c ≤ 9223372036854775807) (hn : 0 < n) :
    Calls Try.prog 12 #[.int .i64 c, .int .i64 n] w fun e w' => e = .returned (.int .i64 (kd c n)) ∧ w' = w := by
  unfold kd
  by_cases h : c < 0
  · rw [if_pos h, ← Int.tmod_eq_emod_of_nonneg (by omega), Int.neg_tmod]
    go_enter Try.func12, Try.ntmps12
    go_wp2
    go_ret
    exact ⟨rfl, rfl⟩
  · rw [if_neg h]
    go_enter Try.func12, Try.ntmps12
    go_wp2
    go_ret
    exact ⟨rfl, rfl⟩

/-- sizes of a shape -/
theorem lrun_rows {os : List (List (Int × Int))} (h7 : ∀ m k, (Sh.kth os m k).length ≤ 7) : ∀ (f k : Nat) (m : List Int), (Sh.lrun os f k m).2.length ≤ f ∧ ∀ r ∈ (Sh.lrun os f k m).2, r.length ≤ 7 := by
  intro f
  induction f with
  | zero => intro k m; simp [Sh.lrun]
  | succ f ih =>
    intro k m
    simp only [Sh.lrun]
    split
    · have := ih (k + 1) (Sh.fmeets m (Sh.kth os m k)).1
      refine ⟨by simp; omega, fun r hr => ?_⟩
      simp at hr
      rcases hr with rfl | hr
      · rw [Sh.fmeets_len]; exact h7 m k
      · exact this.2 r hr
    · simp
theorem rruns_rows : ∀ (ts : List (List Int)) (m : List Int), (∀ r ∈ ts, r.length ≤ 8) → ∀ r ∈ (Sh.rruns m ts).2, r.length ≤ 8 := by
  intro ts
  induction ts with
  | nil => intro m _ r hr; simp [Sh.rruns] at hr
  | cons x ts ih =>
    intro m h r hr
    simp [Sh.rruns] at hr
    rcases hr with rfl | hr
    · rw [Sh.meets_len]; exact h x (by simp)
    · exact ih _ (fun r hr => h r (by simp [hr])) r hr
theorem shape_sizes {g : Gr} (f : g.Fit) : (Sh.roots g).length ≤ 1000 ∧ (Sh.objs g).length ≤ 10000 ∧ (∀ r ∈ Sh.roots g, r.length ≤ 1000) ∧ ∀ r ∈ Sh.objs g, r.length ≤ 1000 := by
  have h1 := lrun_rows (os := g.os) (fun m k => (Sh.kth_fit f m k).2) (g.os.length + 1) 0 (Sh.rruns [] g.ts).1
  have h2 := rruns_rows g.ts [] f.r8
  refine ⟨?_, ?_, fun r hr => ?_, fun r hr => ?_⟩
  · unfold Sh.roots; rw [Sh.rruns_len]; have := f.t64; omega
  · unfold Sh.objs; have := f.ob; omega
  · have := h2 r hr; omega
  · have := h1.2 r hr; omega
/-- two shapes of one graph are the same -/
theorem oSame {w : World} {g : Gr} (f : g.Fit) {p q p' q' : Nat → Prop} (ar al br bl : Value) (h1 : RowsI w ar (Sh.roots g) p) (h2 : RowsV w al (Sh.objs g) p') (h3 : RowsI w br (Sh.roots g) q) (h4 : RowsV w bl (Sh.objs g) q') :
    Calls Try.prog 30 #[.agg #[ar, al], .agg #[br, bl]] w fun e w' => e = .returned (.bool true) ∧ Below w.heap.size w w' :=
  have s := shape_sizes f
  cSame ar al br bl _ _ h1 h2 h3 h4 s.1 s.2.1 s.2.2.1 s.2.2.2
end Go.Proofs.Ytbihdkdefopijaa
