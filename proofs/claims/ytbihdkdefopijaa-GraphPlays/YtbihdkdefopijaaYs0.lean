/-
  The reference's Shape: number of any object; where a shape is being made.
-/
import Derived.Test.YtbihdkdefopijaaYn
namespace Go.Proofs.Ytbihdkdefopijaa
set_option linter.unusedVariables false
set_option linter.unusedSimpArgs false
open Go.ChangeShapes Go.WideShapes Go.ChangeAt Go.RowKit

theorem yNumber (w : World) (m : List Int) (ao : Option Addr) (cp : Nat) (hm : m.length ≤ 1001) (hown : w.ownsRow 0 3 1 (.slice ao m.length cp) m.length (ints m)) (x : Int) :
    Calls Try.prog 55 #[.slice ao m.length cp, .int .i64 x] w fun e w' => ∃ v', e = .returned (.tuple #[v', .int .i64 (Sh.num (Sh.add m x) x)]) ∧ w'.ownsRow 0 3 1 v' (Sh.add m x).length (ints (Sh.add m x)) ∧ Below w.heap.size w w' ∧ (v' = .slice ao m.length cp ∨ ∀ k, v'.ownBlock = some k → w.heap.size ≤ k) := by
  by_cases h0 : x = 0
  · subst h0
    refine (yNumber0 w m ao cp).mono ?_
    rintro e w1 ⟨rfl, hw⟩
    rw [hw]
    have eA : Sh.add m 0 = m := Sh.add_of_mem (.inl rfl)
    have eN : Sh.num m 0 = 0 := by simp [Sh.num]
    rw [eA, eN]
    exact ⟨_, rfl, hown, Below.refl _ _, .inl rfl⟩
  · exact yNumber1 w m ao cp hm hown x (by simpa using h0) h0

/-- where a shape is being made; q: the block of the row that is being filled -/
structure Yv (w0 wr : World) (R0 sb : Nat) (q : Option Nat) (vm vr vl : Value) (m : List Int) (rr : List (List Int)) (ll : List (List (Int × Int))) : Prop where
  met : wr.ownsRow 0 3 1 vm m.length (ints m)
  mp : ∀ k, vm.ownBlock = some k → q ≠ some k ∧ w0.heap.size ≤ k
  qk : ∀ k, q = some k → k < wr.heap.size ∧ w0.heap.size ≤ k ∧ k ≠ sb ∧ k ≠ R0
  s : wr.heap[sb]? = some (.cells #[vr, vl] 50 (0, 0))
  s0 : w0.heap.size ≤ sb
  r : wr.heap[R0]? = some (.cells #[.slice none 0 0, .slice none 0 0] 50 (0, 0))
  r0 : w0.heap.size ≤ R0
  rs : R0 ≠ sb
  ri : RowsI wr vr rr fun k => q ≠ some k ∧ w0.heap.size ≤ k
  rv : RowsV wr vl ll fun k => q ≠ some k ∧ w0.heap.size ≤ k
  bel : Below w0.heap.size w0 wr
section
variable {w0 wr w' : World} {R0 sb : Nat} {q : Option Nat} {vm vm' vr vl : Value} {m m' : List Int} {rr : List (List Int)} {ll : List (List (Int × Int))}
theorem Yv.cell0 (h : Yv w0 wr R0 sb q vm vr vl m rr ll) : wr.cell? ⟨sb, 0, none⟩ = some vr := by rw [cell_of_row wr _ _ _ _ _ h.s]; rfl
theorem Yv.cell1 (h : Yv w0 wr R0 sb q vm vr vl m rr ll) : wr.cell? ⟨sb, 1, none⟩ = some vl := by rw [cell_of_row wr _ _ _ _ _ h.s]; rfl
theorem Yv.free (h : Yv w0 wr R0 sb q vm vr vl m rr ll) (j : Nat) : wr.frozen? ⟨sb, j, none⟩ = false := frozen_of_row wr _ _ _ _ h.s
/-- the row that is filled grows, or another one takes its place; all else stays -/
theorem Yv.go (h : Yv w0 wr R0 sb q vm vr vl m rr ll) (q' : Option Nat) (hb : Below w0.heap.size wr w') (st : ∀ k, k < wr.heap.size → q ≠ some k → w'.heap[k]? = wr.heap[k]?) (hq : ∀ k, q' = some k → (q = some k ∨ wr.heap.size ≤ k) ∧ k < w'.heap.size) : Yv w0 w' R0 sb q' vm vr vl m rr ll := by
  have na : ∀ k, k < wr.heap.size → q ≠ some k → q' ≠ some k := fun k hk hn e => by
    rcases (hq k e).1 with h1 | h1
    · exact hn h1
    · omega
  have qs : q ≠ some sb := fun e => (h.qk _ e).2.2.1 rfl
  have qr : q ≠ some R0 := fun e => (h.qk _ e).2.2.2 rfl
  have ls := lt_of_block h.s
  have lr := lt_of_block h.r
  refine ⟨own_same h.met fun k hk => ?_, fun k hk => ?_, fun k hk => ?_, (st sb ls qs).trans h.s, h.s0, (st R0 lr qr).trans h.r, h.r0, h.rs, h.ri.on fun k cs T' hb _ hp => ?_, h.rv.on fun k cs T' hb _ hp => ?_, h.bel.trans hb⟩
  · obtain ⟨_, hc⟩ := own_blk h.met k hk
    exact st k (lt_of_block hc) (h.mp k hk).1
  · obtain ⟨_, hc⟩ := own_blk h.met k hk
    exact ⟨na k (lt_of_block hc) (h.mp k hk).1, (h.mp k hk).2⟩
  · have h1 := hq k hk
    have := h.bel.size
    refine ⟨h1.2, ?_, ?_, ?_⟩
    · rcases h1.1 with h2 | h2
      · exact (h.qk k h2).2.1
      · omega
    · rcases h1.1 with h2 | h2
      · exact (h.qk k h2).2.2.1
      · omega
    · rcases h1.1 with h2 | h2
      · exact (h.qk k h2).2.2.2
      · omega
  · exact ⟨st k (lt_of_block hb) hp.1, na k (lt_of_block hb) hp.1, hp.2⟩
  · exact ⟨st k (lt_of_block hb) hp.1, na k (lt_of_block hb) hp.1, hp.2⟩
theorem Yv.alloc (h : Yv w0 wr R0 sb q vm vr vl m rr ll) (o : Obj) : Yv w0 (wr.alloc o) R0 sb q vm vr vl m rr ll :=
  h.go q ((Below.refl _ _).alloc h.bel.size o) (fun k hk _ => Below.heap_alloc _ _ _ hk) fun k hk => ⟨.inl hk, by have := (h.qk k hk).1; simp; omega⟩
theorem Yv.drew (h : Yv w0 wr R0 sb q vm vr vl m rr ll) : Yv w0 wr.drew R0 sb q vm vr vl m rr ll :=
  h.go q (Below.refl _ _).drew (fun k hk _ => rfl) fun k hk => ⟨.inl hk, (h.qk k hk).1⟩
/-- a new row is begun -/
theorem Yv.row (h : Yv w0 wr R0 sb q vm vr vl m rr ll) (o : Obj) : Yv w0 (wr.alloc o) R0 sb (some wr.heap.size) vm vr vl m rr ll :=
  h.go _ ((Below.refl _ _).alloc h.bel.size o) (fun k hk _ => Below.heap_alloc _ _ _ hk) fun k hk => by injection hk with hk; subst hk; exact ⟨.inr (Nat.le_refl _), by simp⟩
/-- the row grows -/
theorem Yv.grow (h : Yv w0 wr R0 sb q vm vr vl m rr ll) (hgr : wr.grownBy w' q) (g : Nat) (hg : q = some g ∨ wr.heap.size ≤ g) (hl : g < w'.heap.size) : Yv w0 w' R0 sb (some g) vm vr vl m rr ll :=
  h.go _ ((Below.refl _ _).grown hgr h.bel.size fun k hk => (h.qk k hk).2.1) (fun k hk hn => hgr.block k hk fun e => hn e.symm) fun k hk => by injection hk with hk; subst hk; exact ⟨hg, hl⟩
/-- an object is met -/
theorem Yv.meet (h : Yv w0 wr R0 sb q vm vr vl m rr ll) (hm : w'.ownsRow 0 3 1 vm' m'.length (ints m')) (hb : Below wr.heap.size wr w') (hv : vm' = vm ∨ ∀ k, vm'.ownBlock = some k → wr.heap.size ≤ k) : Yv w0 w' R0 sb q vm' vr vl m' rr ll := by
  have hb0 : Below w0.heap.size wr w' := ⟨hb.os, hb.tape, hb.output, hb.size, fun k hk => hb.block k (by have := h.bel.size; omega)⟩
  have h1 := h.go (w' := w') q hb0 (fun k hk _ => hb.block k hk) fun k hk => ⟨.inl hk, by have := (h.qk k hk).1; have := hb.size; omega⟩
  refine ⟨hm, fun k hk => ?_, h1.qk, h1.s, h1.s0, h1.r, h1.r0, h1.rs, h1.ri, h1.rv, h1.bel⟩
  rcases hv with rfl | hv
  · exact h.mp k hk
  · have := hv k hk
    refine ⟨fun e => ?_, Nat.le_trans h.bel.size this⟩
    have := (h.qk k e).1
    omega
/-- a row of numbers is laid down -/
theorem Yv.addI (h : Yv w0 wr R0 sb q vm vr vl m rr ll) {w3 : World} {u : Value} {row : List Int} (hu : wr.ownsRow 0 3 1 u row.length (ints row)) (hup : ∀ k, u.ownBlock = some k → w0.heap.size ≤ k) {g cp : Nat} {vs : List Value} (hvs : wr.ownsRow 0 53 1 vr rr.length vs)
    (hown : w3.ownsRow 0 53 1 (.slice (some ⟨g, 0, none⟩) (rr.length + 1) cp) (rr.length + 1) (vs ++ [u])) (hgr : wr.grownBy w3 vr.ownBlock) (hg : vr.ownBlock = some g ∨ wr.heap.size ≤ g) :
    Yv w0 (w3.setCell ⟨sb, 0, none⟩ (.slice (some ⟨g, 0, none⟩) (rr.length + 1) cp)) R0 sb none vm (.slice (some ⟨g, 0, none⟩) (rr.length + 1) cp) vl m (rr ++ [row]) ll ∧ w3.cell? ⟨sb, 0, none⟩ = some vr ∧ w3.frozen? ⟨sb, 0, none⟩ = false := by
  have hlen : (rr.map irow).length = rr.length := by simp
  have hpg : w0.heap.size ≤ g := by
    rcases hg with hg | hg
    · exact (h.ri.1 g hg).2
    · exact Nat.le_trans h.bel.size hg
  have kind : ∀ k, vr.ownBlock = some k → ∃ cur, wr.heap[k]? = some (.cells cur 53 (0, 0)) := fun k hk => own_blk hvs k hk
  have other : ∀ (k : Nat) (cs : Array Value) (T : TypeId), wr.heap[k]? = some (.cells cs T (0, 0)) → T ≠ 53 → w3.heap[k]? = wr.heap[k]? := fun k cs T hk hT => hgr.block k (lt_of_block hk) fun e => by
    obtain ⟨cur, hc⟩ := kind k e.symm
    rw [hk] at hc
    simp at hc
    exact hT hc.2
  have hs3 : w3.heap[sb]? = some (.cells #[vr, vl] 50 (0, 0)) := (other sb _ _ h.s (by decide)).trans h.s
  have R := RowR.add (p := fun k => w0.heap.size ≤ k) (x := irow row) (h.ri.mono fun _ hp => hp.2) (by decide) hu hup (by rw [hlen]; exact hvs) (by rw [hlen]; exact hown) hgr hpg
  have KS := Kept.setCell [sb] w3 ⟨sb, 0, none⟩ (.slice (some ⟨g, 0, none⟩) (rr.length + 1) cp) (by simp)
  have ne : ∀ (k : Nat) (cs : Array Value) (T : TypeId), w3.heap[k]? = some (.cells cs T (0, 0)) → T ≠ 50 → (w3.setCell ⟨sb, 0, none⟩ (.slice (some ⟨g, 0, none⟩) (rr.length + 1) cp)).heap[k]? = w3.heap[k]? := fun k cs T hk hT => KS.block k (lt_of_block hk) fun e => by
    simp at e
    subst e
    rw [hk] at hs3
    simp at hs3
    exact hT hs3.2
  refine ⟨⟨own_same h.met fun k hk => ?_, fun k hk => ⟨by simp, (h.mp k hk).2⟩, (fun k hk => by cases hk), ?_, h.s0, ?_, h.r0, h.rs, ?_, ?_, ?_⟩, by rw [cell_of_row w3 _ _ _ _ _ hs3]; rfl, frozen_of_row w3 _ _ _ _ hs3⟩
  · obtain ⟨cur, hc⟩ := own_blk h.met k hk
    have e1 := other k cur _ hc (by decide)
    exact (ne k cur _ (e1.trans hc) (by decide)).trans e1
  · rw [heap_setCell_same w3 _ 0 _ _ _ hs3]; rfl
  · rw [KS.block R0 (by have := (other R0 _ _ h.r (by decide)).trans h.r; exact lt_of_block this) (by simp; exact h.rs)]
    exact (other R0 _ _ h.r (by decide)).trans h.r
  · have := R.on (w' := w3.setCell ⟨sb, 0, none⟩ (.slice (some ⟨g, 0, none⟩) (rr.length + 1) cp)) (q := fun k => (none : Option Nat) ≠ some k ∧ w0.heap.size ≤ k) fun k cs T' hb hT hp => ⟨ne k cs T' hb (by rcases hT with rfl | rfl <;> decide), by simp, hp⟩
    rw [hlen] at this
    show RowR _ _ _ _ _ ((rr ++ [row]).map irow) _
    rw [List.map_append]
    exact this
  · refine h.rv.on fun k cs T' hb hT hp => ?_
    have e1 := other k cs T' hb (by rcases hT with rfl | rfl <;> decide)
    exact ⟨(ne k cs T' (e1.trans hb) (by rcases hT with rfl | rfl <;> decide)).trans e1, by simp, hp.2⟩
  · exact (h.bel.grown hgr h.bel.size fun k hk => (h.ri.1 k hk).2).setCell h.s0 _
/-- a row of fields is laid down -/
theorem Yv.addV (h : Yv w0 wr R0 sb q vm vr vl m rr ll) {w3 : World} {u : Value} {row : List (Int × Int)} (hu : wr.ownsRow 0 37 2 u row.length (vcells row)) (hup : ∀ k, u.ownBlock = some k → w0.heap.size ≤ k) {g cp : Nat} {vs : List Value} (hvs : wr.ownsRow 0 60 1 vl ll.length vs)
    (hown : w3.ownsRow 0 60 1 (.slice (some ⟨g, 0, none⟩) (ll.length + 1) cp) (ll.length + 1) (vs ++ [u])) (hgr : wr.grownBy w3 vl.ownBlock) (hg : vl.ownBlock = some g ∨ wr.heap.size ≤ g) :
    Yv w0 (w3.setCell ⟨sb, 1, none⟩ (.slice (some ⟨g, 0, none⟩) (ll.length + 1) cp)) R0 sb none vm vr (.slice (some ⟨g, 0, none⟩) (ll.length + 1) cp) m rr (ll ++ [row]) ∧ w3.cell? ⟨sb, 1, none⟩ = some vl ∧ w3.frozen? ⟨sb, 1, none⟩ = false := by
  have hlen : (ll.map vrw).length = ll.length := by simp
  have hpg : w0.heap.size ≤ g := by
    rcases hg with hg | hg
    · exact (h.rv.1 g hg).2
    · exact Nat.le_trans h.bel.size hg
  have kind : ∀ k, vl.ownBlock = some k → ∃ cur, wr.heap[k]? = some (.cells cur 60 (0, 0)) := fun k hk => own_blk hvs k hk
  have other : ∀ (k : Nat) (cs : Array Value) (T : TypeId), wr.heap[k]? = some (.cells cs T (0, 0)) → T ≠ 60 → w3.heap[k]? = wr.heap[k]? := fun k cs T hk hT => hgr.block k (lt_of_block hk) fun e => by
    obtain ⟨cur, hc⟩ := kind k e.symm
    rw [hk] at hc
    simp at hc
    exact hT hc.2
  have hs3 : w3.heap[sb]? = some (.cells #[vr, vl] 50 (0, 0)) := (other sb _ _ h.s (by decide)).trans h.s
  have R := RowR.add (p := fun k => w0.heap.size ≤ k) (x := vrw row) (h.rv.mono fun _ hp => hp.2) (by decide) hu hup (by rw [hlen]; exact hvs) (by rw [hlen]; exact hown) hgr hpg
  have KS := Kept.setCell [sb] w3 ⟨sb, 1, none⟩ (.slice (some ⟨g, 0, none⟩) (ll.length + 1) cp) (by simp)
  have ne : ∀ (k : Nat) (cs : Array Value) (T : TypeId), w3.heap[k]? = some (.cells cs T (0, 0)) → T ≠ 50 → (w3.setCell ⟨sb, 1, none⟩ (.slice (some ⟨g, 0, none⟩) (ll.length + 1) cp)).heap[k]? = w3.heap[k]? := fun k cs T hk hT => KS.block k (lt_of_block hk) fun e => by
    simp at e
    subst e
    rw [hk] at hs3
    simp at hs3
    exact hT hs3.2
  refine ⟨⟨own_same h.met fun k hk => ?_, fun k hk => ⟨by simp, (h.mp k hk).2⟩, (fun k hk => by cases hk), ?_, h.s0, ?_, h.r0, h.rs, ?_, ?_, ?_⟩, by rw [cell_of_row w3 _ _ _ _ _ hs3]; rfl, frozen_of_row w3 _ _ _ _ hs3⟩
  · obtain ⟨cur, hc⟩ := own_blk h.met k hk
    have e1 := other k cur _ hc (by decide)
    exact (ne k cur _ (e1.trans hc) (by decide)).trans e1
  · rw [heap_setCell_same w3 _ 1 _ _ _ hs3]; rfl
  · rw [KS.block R0 (by have := (other R0 _ _ h.r (by decide)).trans h.r; exact lt_of_block this) (by simp; exact h.rs)]
    exact (other R0 _ _ h.r (by decide)).trans h.r
  · refine h.ri.on fun k cs T' hb hT hp => ?_
    have e1 := other k cs T' hb (by rcases hT with rfl | rfl <;> decide)
    exact ⟨(ne k cs T' (e1.trans hb) (by rcases hT with rfl | rfl <;> decide)).trans e1, by simp, hp.2⟩
  · have := R.on (w' := w3.setCell ⟨sb, 1, none⟩ (.slice (some ⟨g, 0, none⟩) (ll.length + 1) cp)) (q := fun k => (none : Option Nat) ≠ some k ∧ w0.heap.size ≤ k) fun k cs T' hb hT hp => ⟨ne k cs T' hb (by rcases hT with rfl | rfl <;> decide), by simp, hp⟩
    rw [hlen] at this
    show RowR _ _ _ _ _ ((ll ++ [row]).map vrw) _
    rw [List.map_append]
    exact this
  · exact (h.bel.grown hgr h.bel.size fun k hk => (h.rv.1 k hk).2).setCell h.s0 _
theorem yv_end (h : Yv w0 wr R0 sb q vm vr vl m rr ll) :
    Below w0.heap.size w0 ((wr.setCell ⟨R0, 0, none⟩ vr).setCell ⟨R0, 1, none⟩ vl) ∧ RowsI ((wr.setCell ⟨R0, 0, none⟩ vr).setCell ⟨R0, 1, none⟩ vl) vr rr (fun k => w0.heap.size ≤ k) ∧ RowsV ((wr.setCell ⟨R0, 0, none⟩ vr).setCell ⟨R0, 1, none⟩ vl) vl ll (fun k => w0.heap.size ≤ k) := by
  have K : Kept [R0] wr ((wr.setCell ⟨R0, 0, none⟩ vr).setCell ⟨R0, 1, none⟩ vl) := (Kept.setCell [R0] wr _ _ (by simp)).trans (Kept.setCell [R0] _ _ _ (by simp)) fun _ hk => .inl hk
  have ne : ∀ (k : Nat) (cs : Array Value) (T : TypeId), wr.heap[k]? = some (.cells cs T (0, 0)) → T ≠ 50 → ((wr.setCell ⟨R0, 0, none⟩ vr).setCell ⟨R0, 1, none⟩ vl).heap[k]? = wr.heap[k]? := fun k cs T hk hT => K.block k (lt_of_block hk) fun e => by
    simp at e
    subst e
    have := h.r
    rw [hk] at this
    simp at this
    exact hT this.2
  exact ⟨(h.bel.setCell h.r0 _).setCell h.r0 _, h.ri.on fun k cs T' hb hT hp => ⟨ne k cs T' hb (by rcases hT with rfl | rfl <;> decide), hp.2⟩, h.rv.on fun k cs T' hb hT hp => ⟨ne k cs T' hb (by rcases hT with rfl | rfl <;> decide), hp.2⟩⟩
end
theorem yv_start (w : World) : Yv w (((w.alloc (.cells #[.slice none 0 0, .slice none 0 0] 50)).alloc (.cells #[.slice none 0 0, .slice none 0 0] 50)).alloc (.cells #[] 3)) w.heap.size (w.heap.size + 1) none (.slice (some ⟨w.heap.size + 1 + 1, 0, none⟩) 0 0) (.slice none 0 0) (.slice none 0 0) [] [] [] := by
  have h1 := heap_alloc_new w (.cells #[.slice none 0 0, .slice none 0 0] 50)
  have h2 := heap_alloc_new (w.alloc (.cells #[.slice none 0 0, .slice none 0 0] 50)) (.cells #[.slice none 0 0, .slice none 0 0] 50)
  have h3 := heap_alloc_new ((w.alloc (.cells #[.slice none 0 0, .slice none 0 0] 50)).alloc (.cells #[.slice none 0 0, .slice none 0 0] 50)) (.cells #[] 3)
  simp only [World.size_alloc] at h2 h3
  refine ⟨⟨rfl, .inr ⟨w.heap.size + 1 + 1, 0, #[], rfl, Nat.zero_le _, h3, Nat.le_refl _, Nat.zero_le _, rfl, rfl⟩⟩, fun k hk => ⟨by simp, by simp [Value.ownBlock] at hk; omega⟩, (fun k hk => by cases hk), ?_, by omega, ?_, Nat.le_refl _, by omega, RowR.nil _ _ _ _ _, RowR.nil _ _ _ _ _, bal (bal (bal (Below.refl _ _) _) _) _⟩
  · exact (Below.heap_alloc _ _ _ (by simp)).trans h2
  · exact ((Below.heap_alloc _ _ _ (by simp; omega)).trans (Below.heap_alloc _ _ _ (by simp))).trans h1
end Go.Proofs.Ytbihdkdefopijaa
