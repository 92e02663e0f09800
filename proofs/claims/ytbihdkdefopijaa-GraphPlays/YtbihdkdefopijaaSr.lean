/-
  Rows of rows: what a shape is made of.
-/
import Derived.Test.YtbihdkdefopijaaSn2
namespace Go.Proofs.Ytbihdkdefopijaa
set_option linter.unusedVariables false
set_option linter.unusedSimpArgs false
open Go.ChangeShapes Go.WideShapes Go.ChangeAt Go.RowKit Go.Maps

theorem own_blk {w : World} {e : TypeId} {size n : Nat} {v : Value} {xs : List Value} (h : w.ownsRow 0 e size v n xs) (k : Nat) (hk : v.ownBlock = some k) : ∃ cur, w.heap[k]? = some (.cells cur e (0, 0)) := by
  rcases h.2 with ⟨h', _⟩ | ⟨g, cp, cur, h', _, hg, _⟩
  · rw [h'] at hk; simp [Value.ownBlock] at hk
  · rw [h'] at hk; simp [Value.ownBlock] at hk; subst hk; exact ⟨cur, hg⟩
theorem own_same {w w' : World} {e : TypeId} {size n : Nat} {v : Value} {xs : List Value} (h : w.ownsRow 0 e size v n xs) (hs : ∀ k, v.ownBlock = some k → w'.heap[k]? = w.heap[k]?) : w'.ownsRow 0 e size v n xs := by
  refine ⟨h.1, ?_⟩
  rcases h.2 with hn | ⟨g, cap, cur, rfl, h1, h2, r⟩
  · exact .inl hn
  · exact .inr ⟨g, cap, cur, rfl, h1, (hs g rfl).trans h2, r⟩

/-- a row of rows; each of its blocks is as p says -/
def RowR (w : World) (T e : TypeId) (size : Nat) (v : Value) (rows : List (Nat × List Value)) (p : Nat → Prop) : Prop :=
  (∀ k, v.ownBlock = some k → p k) ∧ ∃ vs : List Value, vs.length = rows.length ∧ w.ownsRow 0 T 1 v rows.length vs ∧ ∀ (i : Nat) (x : Nat × List Value), rows[i]? = some x → ∃ u, vs[i]? = some u ∧ w.ownsRow 0 e size u x.1 x.2 ∧ ∀ k, u.ownBlock = some k → p k
theorem RowR.nil (w : World) (T e : TypeId) (size : Nat) (p : Nat → Prop) : RowR w T e size (.slice none 0 0) [] p :=
  ⟨fun k hk => by simp [Value.ownBlock] at hk, [], rfl, World.ownsRow_nil _ _ _ _, fun i x h => by simp at h⟩
theorem RowR.on {w w' : World} {T e : TypeId} {size : Nat} {v : Value} {rows : List (Nat × List Value)} {p q : Nat → Prop} (h : RowR w T e size v rows p)
    (hk : ∀ k cs T', w.heap[k]? = some (.cells cs T' (0, 0)) → (T' = T ∨ T' = e) → p k → w'.heap[k]? = w.heap[k]? ∧ q k) : RowR w' T e size v rows q := by
  obtain ⟨hp, vs, hl, hv, hu⟩ := h
  refine ⟨fun k e1 => ?_, vs, hl, own_same hv fun k e1 => ?_, fun i x hi => ?_⟩
  · obtain ⟨cur, hc⟩ := own_blk hv k e1
    exact (hk k cur T hc (.inl rfl) (hp k e1)).2
  · obtain ⟨cur, hc⟩ := own_blk hv k e1
    exact (hk k cur T hc (.inl rfl) (hp k e1)).1
  · obtain ⟨u, h1, h2, h3⟩ := hu i x hi
    refine ⟨u, h1, own_same h2 fun k e1 => ?_, fun k e1 => ?_⟩
    · obtain ⟨cur, hc⟩ := own_blk h2 k e1
      exact (hk k cur e hc (.inr rfl) (h3 k e1)).1
    · obtain ⟨cur, hc⟩ := own_blk h2 k e1
      exact (hk k cur e hc (.inr rfl) (h3 k e1)).2
theorem RowR.mono {w : World} {T e : TypeId} {size : Nat} {v : Value} {rows : List (Nat × List Value)} {p q : Nat → Prop} (h : RowR w T e size v rows p) (hk : ∀ k, p k → q k) : RowR w T e size v rows q :=
  h.on fun k _ _ _ _ hp => ⟨rfl, hk k hp⟩
/-- one more row -/
theorem RowR.add {w w3 : World} {T e : TypeId} {size : Nat} {v : Value} {rows : List (Nat × List Value)} {p : Nat → Prop} (h : RowR w T e size v rows p) (hTe : e ≠ T) {x : Nat × List Value} {u : Value} (hu : w.ownsRow 0 e size u x.1 x.2) (hup : ∀ k, u.ownBlock = some k → p k)
    {g cp : Nat} {vs : List Value} (hvs : w.ownsRow 0 T 1 v rows.length vs)
    (hown : w3.ownsRow 0 T 1 (.slice (some ⟨g, 0, none⟩) (rows.length + 1) cp) (rows.length + 1) (vs ++ [u])) (hgr : w.grownBy w3 v.ownBlock) (hg : p g) :
    RowR w3 T e size (.slice (some ⟨g, 0, none⟩) (rows.length + 1) cp) (rows ++ [x]) p := by
  obtain ⟨hp, vs', hl, hv, hu'⟩ := h
  have hne : ∀ (y : Value) (n : Nat) (xs : List Value), w.ownsRow 0 e size y n xs → ∀ k, y.ownBlock = some k → w3.heap[k]? = w.heap[k]? := fun y n xs hy k hk => by
    obtain ⟨cur, hc⟩ := own_blk hy k hk
    refine hgr.block k (lt_of_block hc) fun e1 => ?_
    obtain ⟨cur', hc'⟩ := own_blk hv k e1.symm
    rw [hc] at hc'
    simp at hc'
    exact hTe hc'.2
  have hvl : vs.length = rows.length := by have := hvs.1; simpa using this
  have heq : vs = vs' := by
    by_cases h0 : rows.length = 0
    · rw [List.eq_nil_of_length_eq_zero (hvl.trans h0), List.eq_nil_of_length_eq_zero (hl.trans h0)]
    · rcases hvs.2 with ⟨_, h1⟩ | ⟨g1, c1, cur1, e1, _, hb1, _, _, _, r1⟩
      · omega
      · rcases hv.2 with ⟨_, h2⟩ | ⟨g2, c2, cur2, e2, _, hb2, _, _, _, r2⟩
        · omega
        · rw [e1] at e2
          simp at e2
          obtain ⟨rfl, rfl⟩ := e2
          rw [hb1] at hb2
          simp at hb2
          subst hb2
          rw [← r1, ← r2]
  subst heq
  refine ⟨fun k hk => by simp [Value.ownBlock] at hk; subst hk; exact hg, vs ++ [u], by simp [hvl], by simpa using hown, fun i y hi => ?_⟩
  by_cases hlt : i < rows.length
  · rw [List.getElem?_append_left hlt] at hi
    obtain ⟨u', h1, h2, h3⟩ := hu' i y hi
    exact ⟨u', by rw [List.getElem?_append_left (by omega)]; exact h1, own_same h2 (hne _ _ _ h2), h3⟩
  · rw [List.getElem?_append_right (by omega)] at hi
    have h0 : i - rows.length = 0 := by
      have := (List.getElem?_eq_some_iff.1 hi).1
      simp at this
      omega
    rw [h0] at hi
    simp at hi
    subst hi
    exact ⟨u, by rw [List.getElem?_append_right (by omega), hvl, h0]; rfl, own_same hu (hne _ _ _ hu), hup⟩
def irow (r : List Int) : Nat × List Value := (r.length, ints r)
def vrw (o : List (Int × Int)) : Nat × List Value := (o.length, vcells o)
abbrev RowsI (w : World) (v : Value) (rr : List (List Int)) (p : Nat → Prop) : Prop := RowR w 53 3 1 v (rr.map irow) p
abbrev RowsV (w : World) (v : Value) (ll : List (List (Int × Int))) (p : Nat → Prop) : Prop := RowR w 60 37 2 v (ll.map vrw) p
theorem infoIs : (Try.prog.info? 53).map (fun i => (i.zero, i.size, i.bytes)) = some (some (.slice none 0 0), 1, 24) := by kernel_rfl
theorem infoVs : (Try.prog.info? 60).map (fun i => (i.zero, i.size, i.bytes)) = some (some (.slice none 0 0), 1, 24) := by kernel_rfl

/-- where a shape is being made -/
structure Sv (w0 wr : World) (R0 nb mb sb : Nat) (C : Mt) (vr vl : Value) (m : List Int) (rr : List (List Int)) (ll : List (List (Int × Int))) : Prop where
  nb : C.nb = nb
  mb : C.mb = mb
  met : Met wr C m
  new : ∀ k ∈ C.fp, w0.heap.size ≤ k
  s : wr.heap[sb]? = some (.cells #[vr, vl] 50 (0, 0))
  sC : sb ∉ C.fp
  s0 : w0.heap.size ≤ sb
  r : wr.heap[R0]? = some (.cells #[.slice none 0 0, .slice none 0 0] 50 (0, 0))
  rC : R0 ∉ C.fp
  r0 : w0.heap.size ≤ R0
  rs : R0 ≠ sb
  ri : RowsI wr vr rr fun k => k ∉ C.fp ∧ w0.heap.size ≤ k
  rv : RowsV wr vl ll fun k => k ∉ C.fp ∧ w0.heap.size ≤ k
  bel : Below w0.heap.size w0 wr
section
variable {w0 wr w' : World} {R0 nb mb sb : Nat} {C C' : Mt} {vr vl : Value} {m m' : List Int} {rr : List (List Int)} {ll : List (List (Int × Int))}
/-- nothing of it is touched -/
theorem Sv.kept (h : Sv w0 wr R0 nb mb sb C vr vl m rr ll) (k : Kept [] wr w') : Sv w0 w' R0 nb mb sb C vr vl m rr ll where
  nb := h.nb
  mb := h.mb
  met := h.met.on k fun _ _ => by simp
  new := h.new
  s := (k.block _ (lt_of_block h.s) (by simp)).trans h.s
  sC := h.sC
  s0 := h.s0
  r := (k.block _ (lt_of_block h.r) (by simp)).trans h.r
  rC := h.rC
  r0 := h.r0
  rs := h.rs
  ri := h.ri.on fun j cs T' hb _ hp => ⟨k.block _ (lt_of_block hb) (by simp), hp⟩
  rv := h.rv.on fun j cs T' hb _ hp => ⟨k.block _ (lt_of_block hb) (by simp), hp⟩
  bel := h.bel.trans (k.below (fun _ hk => by simp at hk) h.bel.size)
theorem Sv.alloc (h : Sv w0 wr R0 nb mb sb C vr vl m rr ll) (o : Obj) : Sv w0 (wr.alloc o) R0 nb mb sb C vr vl m rr ll := h.kept (Kept.alloc [] wr o)
theorem Sv.drew (h : Sv w0 wr R0 nb mb sb C vr vl m rr ll) : Sv w0 wr.drew R0 nb mb sb C vr vl m rr ll := h.kept (Kept.drew [] wr)
/-- more is met -/
theorem Sv.step (h : Sv w0 wr R0 nb mb sb C vr vl m rr ll) (hM : Met w' C' m') (st : StepM wr C w' C') : Sv w0 w' R0 nb mb sb C' vr vl m' rr ll where
  nb := st.nb.trans h.nb
  mb := st.mb.trans h.mb
  met := hM
  new := fun k hk => (st.new k hk).elim (h.new k) fun h' => Nat.le_trans h.bel.size h'
  s := (st.other (lt_of_block h.s) h.sC).1.trans h.s
  sC := (st.other (lt_of_block h.s) h.sC).2.1
  s0 := h.s0
  r := (st.other (lt_of_block h.r) h.rC).1.trans h.r
  rC := (st.other (lt_of_block h.r) h.rC).2.1
  r0 := h.r0
  rs := h.rs
  ri := h.ri.on fun j cs T' hb _ hp => ⟨(st.other (lt_of_block hb) hp.1).1, (st.other (lt_of_block hb) hp.1).2.1, hp.2⟩
  rv := h.rv.on fun j cs T' hb _ hp => ⟨(st.other (lt_of_block hb) hp.1).1, (st.other (lt_of_block hb) hp.1).2.1, hp.2⟩
  bel := h.bel.trans (st.kept.below h.new h.bel.size)
theorem Sv.cell0 (h : Sv w0 wr R0 nb mb sb C vr vl m rr ll) : wr.cell? ⟨sb, 0, none⟩ = some vr := by rw [cell_of_row wr _ _ _ _ _ h.s]; rfl
theorem Sv.cell1 (h : Sv w0 wr R0 nb mb sb C vr vl m rr ll) : wr.cell? ⟨sb, 1, none⟩ = some vl := by rw [cell_of_row wr _ _ _ _ _ h.s]; rfl
theorem Sv.free (h : Sv w0 wr R0 nb mb sb C vr vl m rr ll) (j : Nat) : wr.frozen? ⟨sb, j, none⟩ = false := frozen_of_row wr _ _ _ _ h.s
/-- a row of numbers is laid down -/
theorem Sv.addI (h : Sv w0 wr R0 nb mb sb C vr vl m rr ll) {w3 : World} {u : Value} {row : List Int} (hu : wr.ownsRow 0 3 1 u row.length (ints row)) (hup : ∀ k, u.ownBlock = some k → k ∉ C.fp ∧ w0.heap.size ≤ k) {g cp : Nat} {vs : List Value} (hvs : wr.ownsRow 0 53 1 vr rr.length vs)
    (hown : w3.ownsRow 0 53 1 (.slice (some ⟨g, 0, none⟩) (rr.length + 1) cp) (rr.length + 1) (vs ++ [u])) (hgr : wr.grownBy w3 vr.ownBlock) (hg : vr.ownBlock = some g ∨ wr.heap.size ≤ g) :
    Sv w0 (w3.setCell ⟨sb, 0, none⟩ (.slice (some ⟨g, 0, none⟩) (rr.length + 1) cp)) R0 nb mb sb C (.slice (some ⟨g, 0, none⟩) (rr.length + 1) cp) vl m (rr ++ [row]) ll ∧ w3.cell? ⟨sb, 0, none⟩ = some vr ∧ w3.frozen? ⟨sb, 0, none⟩ = false := by
  have hlen : (rr.map irow).length = rr.length := by simp
  have hpg : g ∉ C.fp ∧ w0.heap.size ≤ g := by
    rcases hg with hg | hg
    · exact h.ri.1 g hg
    · exact ⟨fun e => by have := h.met.lt g e; omega, Nat.le_trans h.bel.size hg⟩
  have kind : ∀ k, vr.ownBlock = some k → ∃ cur, wr.heap[k]? = some (.cells cur 53 (0, 0)) := fun k hk => own_blk hvs k hk
  have other : ∀ (k : Nat) (cs : Array Value) (T : TypeId), wr.heap[k]? = some (.cells cs T (0, 0)) → T ≠ 53 → w3.heap[k]? = wr.heap[k]? := fun k cs T hk hT => hgr.block k (lt_of_block hk) fun e => by
    obtain ⟨cur, hc⟩ := kind k e.symm
    rw [hk] at hc
    simp at hc
    exact hT hc.2
  have hC : ∀ k ∈ C.fp, w3.heap[k]? = wr.heap[k]? := fun k hk => hgr.block k (h.met.lt k hk) fun e => (h.ri.1 k e.symm).1 hk
  have hs3 : w3.heap[sb]? = some (.cells #[vr, vl] 50 (0, 0)) := (other sb _ _ h.s (by decide)).trans h.s
  have R := RowR.add (p := fun k => k ∉ C.fp ∧ w0.heap.size ≤ k) (x := irow row) h.ri (by decide) hu hup (by rw [hlen]; exact hvs) (by rw [hlen]; exact hown) hgr hpg
  have KS := Kept.setCell [sb] w3 ⟨sb, 0, none⟩ (.slice (some ⟨g, 0, none⟩) (rr.length + 1) cp) (by simp)
  have ne : ∀ (k : Nat) (cs : Array Value) (T : TypeId), w3.heap[k]? = some (.cells cs T (0, 0)) → T ≠ 50 → (w3.setCell ⟨sb, 0, none⟩ (.slice (some ⟨g, 0, none⟩) (rr.length + 1) cp)).heap[k]? = w3.heap[k]? := fun k cs T hk hT => KS.block k (lt_of_block hk) fun e => by
    simp at e
    subst e
    rw [hk] at hs3
    simp at hs3
    exact hT hs3.2
  refine ⟨⟨h.nb, h.mb, ?_, h.new, ?_, h.sC, h.s0, ?_, h.rC, h.r0, h.rs, ?_, ?_, ?_⟩, by rw [cell_of_row w3 _ _ _ _ _ hs3]; rfl, frozen_of_row w3 _ _ _ _ hs3⟩
  · have M3 : Met w3 C m := by
      refine h.met.on (F := (vr.ownBlock.toList)) (Kept.grown _ hgr fun k hk => by simp [hk]) fun k hk e => ?_
      simp at e
      exact (h.ri.1 k e).1 hk
    exact M3.on KS fun k hk e => by simp at e; subst e; exact h.sC hk
  · rw [heap_setCell_same w3 _ 0 _ _ _ hs3]; rfl
  · rw [KS.block R0 (by have := (other R0 _ _ h.r (by decide)).trans h.r; exact lt_of_block this) (by simp; exact h.rs)]
    exact (other R0 _ _ h.r (by decide)).trans h.r
  · have := R.on (w' := w3.setCell ⟨sb, 0, none⟩ (.slice (some ⟨g, 0, none⟩) (rr.length + 1) cp)) (q := fun k => k ∉ C.fp ∧ w0.heap.size ≤ k) fun k cs T' hb hT hp => ⟨ne k cs T' hb (by rcases hT with rfl | rfl <;> decide), hp⟩
    rw [hlen] at this
    show RowR _ _ _ _ _ ((rr ++ [row]).map irow) _
    rw [List.map_append]
    exact this
  · refine h.rv.on fun k cs T' hb hT hp => ?_
    have e1 := other k cs T' hb (by rcases hT with rfl | rfl <;> decide)
    exact ⟨(ne k cs T' (e1.trans hb) (by rcases hT with rfl | rfl <;> decide)).trans e1, hp⟩
  · exact (h.bel.grown hgr h.bel.size fun k hk => (h.ri.1 k hk).2).setCell h.s0 _
/-- a row of fields is laid down -/
theorem Sv.addV (h : Sv w0 wr R0 nb mb sb C vr vl m rr ll) {w3 : World} {u : Value} {row : List (Int × Int)} (hu : wr.ownsRow 0 37 2 u row.length (vcells row)) (hup : ∀ k, u.ownBlock = some k → k ∉ C.fp ∧ w0.heap.size ≤ k) {g cp : Nat} {vs : List Value} (hvs : wr.ownsRow 0 60 1 vl ll.length vs)
    (hown : w3.ownsRow 0 60 1 (.slice (some ⟨g, 0, none⟩) (ll.length + 1) cp) (ll.length + 1) (vs ++ [u])) (hgr : wr.grownBy w3 vl.ownBlock) (hg : vl.ownBlock = some g ∨ wr.heap.size ≤ g) :
    Sv w0 (w3.setCell ⟨sb, 1, none⟩ (.slice (some ⟨g, 0, none⟩) (ll.length + 1) cp)) R0 nb mb sb C vr (.slice (some ⟨g, 0, none⟩) (ll.length + 1) cp) m rr (ll ++ [row]) ∧ w3.cell? ⟨sb, 1, none⟩ = some vl ∧ w3.frozen? ⟨sb, 1, none⟩ = false := by
  have hlen : (ll.map vrw).length = ll.length := by simp
  have hpg : g ∉ C.fp ∧ w0.heap.size ≤ g := by
    rcases hg with hg | hg
    · exact h.rv.1 g hg
    · exact ⟨fun e => by have := h.met.lt g e; omega, Nat.le_trans h.bel.size hg⟩
  have kind : ∀ k, vl.ownBlock = some k → ∃ cur, wr.heap[k]? = some (.cells cur 60 (0, 0)) := fun k hk => own_blk hvs k hk
  have other : ∀ (k : Nat) (cs : Array Value) (T : TypeId), wr.heap[k]? = some (.cells cs T (0, 0)) → T ≠ 60 → w3.heap[k]? = wr.heap[k]? := fun k cs T hk hT => hgr.block k (lt_of_block hk) fun e => by
    obtain ⟨cur, hc⟩ := kind k e.symm
    rw [hk] at hc
    simp at hc
    exact hT hc.2
  have hs3 : w3.heap[sb]? = some (.cells #[vr, vl] 50 (0, 0)) := (other sb _ _ h.s (by decide)).trans h.s
  have R := RowR.add (p := fun k => k ∉ C.fp ∧ w0.heap.size ≤ k) (x := vrw row) h.rv (by decide) hu hup (by rw [hlen]; exact hvs) (by rw [hlen]; exact hown) hgr hpg
  have KS := Kept.setCell [sb] w3 ⟨sb, 1, none⟩ (.slice (some ⟨g, 0, none⟩) (ll.length + 1) cp) (by simp)
  have ne : ∀ (k : Nat) (cs : Array Value) (T : TypeId), w3.heap[k]? = some (.cells cs T (0, 0)) → T ≠ 50 → (w3.setCell ⟨sb, 1, none⟩ (.slice (some ⟨g, 0, none⟩) (ll.length + 1) cp)).heap[k]? = w3.heap[k]? := fun k cs T hk hT => KS.block k (lt_of_block hk) fun e => by
    simp at e
    subst e
    rw [hk] at hs3
    simp at hs3
    exact hT hs3.2
  refine ⟨⟨h.nb, h.mb, ?_, h.new, ?_, h.sC, h.s0, ?_, h.rC, h.r0, h.rs, ?_, ?_, ?_⟩, by rw [cell_of_row w3 _ _ _ _ _ hs3]; rfl, frozen_of_row w3 _ _ _ _ hs3⟩
  · have M3 : Met w3 C m := by
      refine h.met.on (F := (vl.ownBlock.toList)) (Kept.grown _ hgr fun k hk => by simp [hk]) fun k hk e => ?_
      simp at e
      exact (h.rv.1 k e).1 hk
    exact M3.on KS fun k hk e => by simp at e; subst e; exact h.sC hk
  · rw [heap_setCell_same w3 _ 1 _ _ _ hs3]; rfl
  · rw [KS.block R0 (by have := (other R0 _ _ h.r (by decide)).trans h.r; exact lt_of_block this) (by simp; exact h.rs)]
    exact (other R0 _ _ h.r (by decide)).trans h.r
  · refine h.ri.on fun k cs T' hb hT hp => ?_
    have e1 := other k cs T' hb (by rcases hT with rfl | rfl <;> decide)
    exact ⟨(ne k cs T' (e1.trans hb) (by rcases hT with rfl | rfl <;> decide)).trans e1, hp⟩
  · have := R.on (w' := w3.setCell ⟨sb, 1, none⟩ (.slice (some ⟨g, 0, none⟩) (ll.length + 1) cp)) (q := fun k => k ∉ C.fp ∧ w0.heap.size ≤ k) fun k cs T' hb hT hp => ⟨ne k cs T' hb (by rcases hT with rfl | rfl <;> decide), hp⟩
    rw [hlen] at this
    show RowR _ _ _ _ _ ((ll ++ [row]).map vrw) _
    rw [List.map_append]
    exact this
  · exact (h.bel.grown hgr h.bel.size fun k hk => (h.rv.1 k hk).2).setCell h.s0 _
end
end Go.Proofs.Ytbihdkdefopijaa
