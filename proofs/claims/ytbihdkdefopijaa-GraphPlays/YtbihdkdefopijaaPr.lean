/-
  The program's graph and the reference's side by side, as a law has them in hand.
-/
import Derived.Test.YtbihdkdefopijaaOg
import Derived.Test.YtbihdkdefopijaaYc8
import Derived.Test.YtbihdkdefopijaaYs
import Derived.Test.YtbihdkdefopijaaGk
namespace Go.Proofs.Ytbihdkdefopijaa
set_option linter.unusedVariables false
set_option linter.unusedSimpArgs false
open Go.ChangeShapes Go.WideShapes Go.ChangeAt Go.RowKit

/-- blocks of the law's own are as they were -/
def Keeps (X : List Nat) (w w' : World) : Prop := ∀ k ∈ X, w'.heap[k]? = w.heap[k]?
theorem RowR.below {w w' : World} {T e : TypeId} {size : Nat} {v : Value} {rows : List (Nat × List Value)} {p : Nat → Prop} (h : RowR w T e size v rows p) (hb : Below w.heap.size w w') : RowR w' T e size v rows p :=
  h.on fun k cs T' hk _ hp => ⟨hb.block k (lt_of_block hk), hp⟩

structure Pair (w0 w : World) (X : List Nat) (b y : Nat) (g h : Gr) : Prop where
  at_ : ∃ (L : Loc) (M : YLoc), L.b = b ∧ M.b = y ∧ GAt w L g ∧ YAt w M h ∧ (∀ k ∈ L.fp, w0.heap.size ≤ k ∧ k ∉ M.fp ∧ k ∉ X) ∧ ∀ k ∈ M.fp, w0.heap.size ≤ k ∧ k ∉ X
  xl : ∀ k ∈ X, k < w.heap.size
  bel : Below w0.heap.size w0 w
  fg : g.Fit
  fh : h.Fit

section
variable {w0 w w' : World} {X : List Nat} {b y : Nat} {g h : Gr}
theorem Pair.below (p : Pair w0 w X b y g h) (hb : Below w.heap.size w w') : Pair w0 w' X b y g h := by
  obtain ⟨⟨L, M, e1, e2, hL, hM, h1, h2⟩, xl, bel, fg, fh⟩ := p
  exact ⟨⟨L, M, e1, e2, hL.below hb, hM.below hb, h1, h2⟩, fun k hk => Nat.lt_of_lt_of_le (xl k hk) hb.size, bt bel hb, fg, fh⟩
theorem Pair.keeps (p : Pair w0 w X b y g h) (hb : Below w.heap.size w w') : Keeps X w w' := fun k hk => hb.block k (p.xl k hk)
theorem Pair.alloc (p : Pair w0 w X b y g h) (o : Obj) : Pair w0 (w.alloc o) X b y g h := p.below (bal (Below.refl _ _) o)
theorem Pair.drew (p : Pair w0 w X b y g h) : Pair w0 w.drew X b y g h := p.below (Below.refl _ _).drew
/-- a block of the law's own is made -/
theorem Pair.box (p : Pair w0 w X b y g h) (o : Obj) : Pair w0 (w.alloc o) (w.heap.size :: X) b y g h := by
  obtain ⟨⟨L, M, e1, e2, hL, hM, h1, h2⟩, xl, bel, fg, fh⟩ := p
  refine ⟨⟨L, M, e1, e2, hL.alloc o, hM.alloc o, fun k hk => ⟨(h1 k hk).1, (h1 k hk).2.1, ?_⟩, fun k hk => ⟨(h2 k hk).1, ?_⟩⟩, fun k hk => ?_, bal bel o, fg, fh⟩
  · have := hL.lt k hk
    simp only [List.mem_cons, not_or]
    exact ⟨by omega, (h1 k hk).2.2⟩
  · have := hM.lt k hk
    simp only [List.mem_cons, not_or]
    exact ⟨by omega, (h2 k hk).2⟩
  · simp only [List.mem_cons] at hk
    rcases hk with rfl | hk
    · simp
    · have := xl k hk; simp; omega
theorem Pair.less {X' : List Nat} (p : Pair w0 w X b y g h) (hX : ∀ k ∈ X', k ∈ X) : Pair w0 w X' b y g h := by
  obtain ⟨⟨L, M, e1, e2, hL, hM, h1, h2⟩, xl, bel, fg, fh⟩ := p
  exact ⟨⟨L, M, e1, e2, hL, hM, fun k hk => ⟨(h1 k hk).1, (h1 k hk).2.1, fun e => (h1 k hk).2.2 (hX k e)⟩, fun k hk => ⟨(h2 k hk).1, fun e => (h2 k hk).2 (hX k e)⟩⟩, fun k hk => xl k (hX k hk), bel, fg, fh⟩
/-- a call of the program's graph -/
theorem Pair.callG {P : Program} {f : Nat} {args : Array Value} {r : Value} {g' : Gr} (p : Pair w0 w X b y g h) (hf : g'.Fit)
    (hc : ∀ L : Loc, L.b = b → GAt w L g → Calls P f args w fun e w' => e = .returned r ∧ ∃ L', GAt w' L' g' ∧ Step w L w' L') :
    Calls P f args w fun e w' => e = .returned r ∧ Pair w0 w' X b y g' h ∧ Keeps X w w' := by
  obtain ⟨⟨L, M, e1, e2, hL, hM, h1, h2⟩, xl, bel, fg, fh⟩ := p
  refine (hc L e1 hL).mono ?_
  rintro e w' ⟨rfl, L', hg', st⟩
  have R := st.from (fun k hk => (h1 k hk).1) bel.size
  refine ⟨rfl, ⟨⟨L', M, st.b.trans e1, e2, hg', hM.on st.kept (fun k hk e => (h1 k e).2.1 hk), fun k hk => ⟨R.2 k hk, fun e => ?_, fun e => ?_⟩, h2⟩, fun k hk => Nat.lt_of_lt_of_le (xl k hk) st.kept.size, bel.trans R.1, hf, fh⟩, fun k hk => st.kept.block k (xl k hk) fun e => (h1 k e).2.2 hk⟩
  · rcases st.new k hk with h' | h'
    · exact (h1 k h').2.1 e
    · have := hM.lt k e; omega
  · rcases st.new k hk with h' | h'
    · exact (h1 k h').2.2 e
    · have := xl k e; omega
/-- a call of the reference's graph -/
theorem Pair.callY {P : Program} {f : Nat} {args : Array Value} {r : Value} {h' : Gr} (p : Pair w0 w X b y g h) (hf : h'.Fit)
    (hc : ∀ M : YLoc, M.b = y → YAt w M h → Calls P f args w fun e w' => e = .returned r ∧ ∃ M', YAt w' M' h' ∧ YStep w M w' M') :
    Calls P f args w fun e w' => e = .returned r ∧ Pair w0 w' X b y g h' ∧ Keeps X w w' := by
  obtain ⟨⟨L, M, e1, e2, hL, hM, h1, h2⟩, xl, bel, fg, fh⟩ := p
  refine (hc M e2 hM).mono ?_
  rintro e w' ⟨rfl, M', hg', st⟩
  have R := st.from (fun k hk => (h2 k hk).1) bel.size
  refine ⟨rfl, ⟨⟨L, M', e1, st.b.trans e2, hL.on st.kept (fun k hk e => (h1 k hk).2.1 e), hg', fun k hk => ⟨(h1 k hk).1, fun e => ?_, (h1 k hk).2.2⟩, fun k hk => ⟨R.2 k hk, fun e => ?_⟩⟩, fun k hk => Nat.lt_of_lt_of_le (xl k hk) st.kept.size, bel.trans R.1, fg, hf⟩, fun k hk => st.kept.block k (xl k hk) fun e => (h2 k e).2 hk⟩
  · rcases st.new k e with h' | h'
    · exact (h1 k hk).2.1 h'
    · have := hL.lt k hk; omega
  · rcases st.new k hk with h' | h'
    · exact (h2 k h').2 e
    · have := xl k e; omega
theorem one {w : World} {L : YLoc} {g' : Gr} {w' : World} (h : YAt w' L g' ∧ YStep w L w' L) : ∃ M', YAt w' M' g' ∧ YStep w L w' M' := ⟨L, h⟩

theorem pAlloc (p : Pair w0 w X b y g h) (hN : g.os.length < 1000) (t n : Int) :
    Calls Try.prog 13 #[.pointer (some ⟨b, 0, none⟩), .int .i64 t, .int .i64 n] w fun e w' => e = .returned (.int .i64 (g.allocE t n)) ∧ Pair w0 w' X b y (g.alloc t n) h ∧ Keeps X w w' :=
  p.callG (p.fg.alloc t n (by omega)) fun L hb hg => hb ▸ cAllocG hg p.fg t n
theorem pPut (p : Pair w0 w X b y g h) (t i : Int) :
    Calls Try.prog 17 #[.pointer (some ⟨b, 0, none⟩), .int .i64 t, .int .i64 i] w fun e w' => e = .returned (.int .i64 (g.putE t i)) ∧ Pair w0 w' X b y (g.put t i) h ∧ Keeps X w w' :=
  p.callG (p.fg.put t i) fun L hb hg => hb ▸ cPutG hg p.fg t i
theorem pDup (p : Pair w0 w X b y g h) (t i : Int) :
    Calls Try.prog 25 #[.pointer (some ⟨b, 0, none⟩), .int .i64 t, .int .i64 i] w fun e w' => e = .returned (.int .i64 (g.dupE t i)) ∧ Pair w0 w' X b y (g.dup t i) h ∧ Keeps X w w' :=
  p.callG (p.fg.dup t i) fun L hb hg => hb ▸ cDupG hg p.fg t i
theorem pDrop (p : Pair w0 w X b y g h) (t : Int) :
    Calls Try.prog 27 #[.pointer (some ⟨b, 0, none⟩), .int .i64 t] w fun e w' => e = .returned (.int .i64 (g.dropE t)) ∧ Pair w0 w' X b y (g.drop t) h ∧ Keeps X w w' :=
  p.callG (p.fg.drop t) fun L hb hg => hb ▸ cDropG hg p.fg t
theorem pWrite (p : Pair w0 w X b y g h) (t i k c d : Int) :
    Calls Try.prog 19 #[.pointer (some ⟨b, 0, none⟩), .int .i64 t, .int .i64 i, .int .i64 k, .agg #[.int .i64 c, .int .i64 d]] w fun e w' => e = .returned (.int .i64 (g.writeE t i k (c, d))) ∧ Pair w0 w' X b y (g.write t i k (c, d)) h ∧ Keeps X w w' :=
  p.callG (p.fg.write t i k (c, d)) fun L hb hg => hb ▸ cWriteG hg p.fg t i k c d
theorem pSwap (p : Pair w0 w X b y g h) (t i k c d c' d' : Int) :
    Calls Try.prog 21 #[.pointer (some ⟨b, 0, none⟩), .int .i64 t, .int .i64 i, .int .i64 k, .agg #[.int .i64 c, .int .i64 d], .agg #[.int .i64 c', .int .i64 d']] w fun e w' => e = .returned (.tuple #[.bool (g.swapY t i k (c, d) (c', d')), .int .i64 (g.swapE t i k (c, d) (c', d'))]) ∧ Pair w0 w' X b y (g.swap t i k (c, d) (c', d')) h ∧ Keeps X w w' :=
  p.callG (p.fg.swap t i k (c, d) (c', d')) fun L hb hg => hb ▸ cSwapG hg p.fg t i k c d c' d'
theorem pLook (p : Pair w0 w X b y g h) (t i k : Int) :
    Calls Try.prog 15 #[.pointer (some ⟨b, 0, none⟩), .int .i64 t, .int .i64 i, .int .i64 k] w fun e w' => e = .returned (.tuple #[vv (g.lookV t i k), .int .i64 (g.lookE t i k)]) ∧ Pair w0 w' X b y g h ∧ Below w.heap.size w w' := by
  have p' := p
  obtain ⟨⟨L, M, rfl, e2, hL, hM, h1, h2⟩, xl, bel, fg, fh⟩ := p'
  refine (cLookG hL fg t i k).mono ?_
  rintro e w' ⟨rfl, hb⟩
  exact ⟨rfl, p.below hb, hb⟩
theorem pEq (p : Pair w0 w X b y g h) (t i k : Int) :
    Calls Try.prog 23 #[.pointer (some ⟨b, 0, none⟩), .int .i64 t, .int .i64 i, .int .i64 k] w fun e w' => e = .returned (.tuple #[.bool (g.eqY t i k), .int .i64 (g.eqE t i k)]) ∧ Pair w0 w' X b y g h ∧ Below w.heap.size w w' := by
  have p' := p
  obtain ⟨⟨L, M, rfl, e2, hL, hM, h1, h2⟩, xl, bel, fg, fh⟩ := p'
  refine (cEq hL fg t i k).mono ?_
  rintro e w' ⟨rfl, hb⟩
  exact ⟨rfl, p.below hb, hb⟩
theorem pShape (p : Pair w0 w X b y g h) :
    Calls Try.prog 31 #[.pointer (some ⟨b, 0, none⟩)] w fun e w' => ∃ vr vl, e = .returned (.agg #[vr, vl]) ∧ Pair w0 w' X b y g h ∧ Below w.heap.size w w' ∧ RowsI w' vr (Sh.roots g) (fun k => w.heap.size ≤ k) ∧ RowsV w' vl (Sh.objs g) (fun k => w.heap.size ≤ k) := by
  have p' := p
  obtain ⟨⟨L, M, rfl, e2, hL, hM, h1, h2⟩, xl, bel, fg, fh⟩ := p'
  refine (cShape hL fg).mono ?_
  rintro e w' ⟨vr, vl, rfl, hb, r1, r2⟩
  exact ⟨vr, vl, rfl, p.below hb, hb, r1, r2⟩

theorem qAlloc (p : Pair w0 w X b y g h) (hN : h.os.length < 1000) (t n : Int) :
    Calls Try.prog 14 #[.pointer (some ⟨y, 0, none⟩), .int .i64 t, .int .i64 n] w fun e w' => e = .returned (.int .i64 (h.allocE t n)) ∧ Pair w0 w' X b y g (h.alloc t n) ∧ Keeps X w w' :=
  p.callY (p.fh.alloc t n (by omega)) fun M hb hg => hb ▸ yAlloc hg p.fh t n
theorem qPut (p : Pair w0 w X b y g h) (t i : Int) :
    Calls Try.prog 18 #[.pointer (some ⟨y, 0, none⟩), .int .i64 t, .int .i64 i] w fun e w' => e = .returned (.int .i64 (h.putE t i)) ∧ Pair w0 w' X b y g (h.put t i) ∧ Keeps X w w' :=
  p.callY (p.fh.put t i) fun M hb hg => hb ▸ (yPut hg p.fh t i).mono fun _ _ r => ⟨r.1, one r.2⟩
theorem qDup (p : Pair w0 w X b y g h) (t i : Int) :
    Calls Try.prog 26 #[.pointer (some ⟨y, 0, none⟩), .int .i64 t, .int .i64 i] w fun e w' => e = .returned (.int .i64 (h.dupE t i)) ∧ Pair w0 w' X b y g (h.dup t i) ∧ Keeps X w w' :=
  p.callY (p.fh.dup t i) fun M hb hg => hb ▸ (yDup hg p.fh t i).mono fun _ _ r => ⟨r.1, one r.2⟩
theorem qDrop (p : Pair w0 w X b y g h) (t : Int) :
    Calls Try.prog 28 #[.pointer (some ⟨y, 0, none⟩), .int .i64 t] w fun e w' => e = .returned (.int .i64 (h.dropE t)) ∧ Pair w0 w' X b y g (h.drop t) ∧ Keeps X w w' :=
  p.callY (p.fh.drop t) fun M hb hg => hb ▸ (yDrop hg p.fh t).mono fun _ _ r => ⟨r.1, one r.2⟩
theorem qWrite (p : Pair w0 w X b y g h) (t i k c d : Int) :
    Calls Try.prog 20 #[.pointer (some ⟨y, 0, none⟩), .int .i64 t, .int .i64 i, .int .i64 k, .agg #[.int .i64 c, .int .i64 d]] w fun e w' => e = .returned (.int .i64 (h.writeE t i k (c, d))) ∧ Pair w0 w' X b y g (h.write t i k (c, d)) ∧ Keeps X w w' :=
  p.callY (p.fh.write t i k (c, d)) fun M hb hg => hb ▸ (yWrite hg p.fh t i k c d).mono fun _ _ r => ⟨r.1, one r.2⟩
theorem qSwap (p : Pair w0 w X b y g h) (t i k c d c' d' : Int) :
    Calls Try.prog 22 #[.pointer (some ⟨y, 0, none⟩), .int .i64 t, .int .i64 i, .int .i64 k, .agg #[.int .i64 c, .int .i64 d], .agg #[.int .i64 c', .int .i64 d']] w fun e w' => e = .returned (.tuple #[.bool (h.swapY t i k (c, d) (c', d')), .int .i64 (h.swapE t i k (c, d) (c', d'))]) ∧ Pair w0 w' X b y g (h.swap t i k (c, d) (c', d')) ∧ Keeps X w w' :=
  p.callY (p.fh.swap t i k (c, d) (c', d')) fun M hb hg => hb ▸ (ySwap hg p.fh t i k c d c' d').mono fun _ _ r => ⟨r.1, one r.2⟩
theorem qLook (p : Pair w0 w X b y g h) (t i k : Int) :
    Calls Try.prog 16 #[.pointer (some ⟨y, 0, none⟩), .int .i64 t, .int .i64 i, .int .i64 k] w fun e w' => e = .returned (.tuple #[vv (h.lookV t i k), .int .i64 (h.lookE t i k)]) ∧ Pair w0 w' X b y g h ∧ Below w.heap.size w w' := by
  have p' := p
  obtain ⟨⟨L, M, e1, rfl, hL, hM, h1, h2⟩, xl, bel, fg, fh⟩ := p'
  refine (yLook hM fh t i k).mono ?_
  rintro e w' ⟨rfl, hb⟩
  exact ⟨rfl, p.below hb, hb⟩
theorem qEq (p : Pair w0 w X b y g h) (t i k : Int) :
    Calls Try.prog 24 #[.pointer (some ⟨y, 0, none⟩), .int .i64 t, .int .i64 i, .int .i64 k] w fun e w' => e = .returned (.tuple #[.bool (h.eqY t i k), .int .i64 (h.eqE t i k)]) ∧ Pair w0 w' X b y g h ∧ Below w.heap.size w w' := by
  have p' := p
  obtain ⟨⟨L, M, e1, rfl, hL, hM, h1, h2⟩, xl, bel, fg, fh⟩ := p'
  refine (yEq hM fh t i k).mono ?_
  rintro e w' ⟨rfl, hb⟩
  exact ⟨rfl, p.below hb, hb⟩
theorem qShape (p : Pair w0 w X b y g h) :
    Calls Try.prog 32 #[.pointer (some ⟨y, 0, none⟩)] w fun e w' => ∃ vr vl, e = .returned (.agg #[vr, vl]) ∧ Pair w0 w' X b y g h ∧ Below w.heap.size w w' ∧ RowsI w' vr (Sh.roots h) (fun k => w.heap.size ≤ k) ∧ RowsV w' vl (Sh.objs h) (fun k => w.heap.size ≤ k) := by
  have p' := p
  obtain ⟨⟨L, M, e1, rfl, hL, hM, h1, h2⟩, xl, bel, fg, fh⟩ := p'
  refine (yShape hM fh).mono ?_
  rintro e w' ⟨vr, vl, rfl, hb, r1, r2⟩
  exact ⟨vr, vl, rfl, p.below hb, hb, r1, r2⟩

/-- an old graph beside the pair -/
structure Trio (w0 w : World) (X : List Nat) (a b y : Nat) (o g h : Gr) : Prop where
  old : ∃ A : Loc, A.b = a ∧ GAt w A o ∧ (∀ k ∈ A.fp, w0.heap.size ≤ k ∧ k ∉ X) ∧ Pair w0 w (A.fp ++ X) b y g h
  fo : o.Fit
theorem Trio.pair {a : Nat} {o : Gr} (t : Trio w0 w X a b y o g h) : Pair w0 w X b y g h := by
  obtain ⟨⟨A, _, _, _, p⟩, _⟩ := t
  exact p.less fun k hk => by simp [hk]
theorem Trio.call {P : Program} {f : Nat} {args : Array Value} {r : Value} {a : Nat} {o o' : Gr} (t : Trio w0 w X a b y o g h) (hf : o'.Fit)
    (hc : ∀ A : Loc, A.b = a → GAt w A o → Calls P f args w fun e w' => e = .returned r ∧ ∃ A', GAt w' A' o' ∧ Step w A w' A') :
    Calls P f args w fun e w' => e = .returned r ∧ Trio w0 w' X a b y o' g h ∧ Keeps X w w' := by
  obtain ⟨⟨A, ea, hA, h0, ⟨⟨L, M, e1, e2, hL, hM, h1, h2⟩, xl, bel, fg, fh⟩⟩, fo⟩ := t
  refine (hc A ea hA).mono ?_
  rintro e w' ⟨rfl, A', hg', st⟩
  have R := st.from (fun k hk => (h0 k hk).1) bel.size
  have xX : ∀ k ∈ X, k < w.heap.size := fun k hk => xl k (by simp [hk])
  refine ⟨rfl, ⟨⟨A', st.b.trans ea, hg', fun k hk => ⟨R.2 k hk, fun e => ?_⟩, ⟨⟨L, M, e1, e2, hL.on st.kept (fun k hk e => (h1 k hk).2.2 (by simp [e])), hM.on st.kept (fun k hk e => (h2 k hk).2 (by simp [e])), fun k hk => ⟨(h1 k hk).1, (h1 k hk).2.1, fun e => ?_⟩, fun k hk => ⟨(h2 k hk).1, fun e => ?_⟩⟩, fun k hk => ?_, bel.trans R.1, fg, fh⟩⟩, hf⟩, fun k hk => st.kept.block k (xX k hk) fun e => (h0 k e).2 hk⟩
  · rcases st.new k hk with h' | h'
    · exact (h0 k h').2 e
    · have := xX k e; omega
  · simp only [List.mem_append] at e
    rcases e with e | e
    · rcases st.new k e with h' | h'
      · exact (h1 k hk).2.2 (by simp [h'])
      · have := hL.lt k hk; omega
    · exact (h1 k hk).2.2 (by simp [e])
  · simp only [List.mem_append] at e
    rcases e with e | e
    · rcases st.new k e with h' | h'
      · exact (h2 k hk).2 (by simp [h'])
      · have := hM.lt k hk; omega
    · exact (h2 k hk).2 (by simp [e])
  · simp only [List.mem_append] at hk
    rcases hk with hk | hk
    · exact hg'.lt k hk
    · exact Nat.lt_of_lt_of_le (xX k hk) st.kept.size
theorem pClone (p : Pair w0 w X b y g h) :
    Calls Try.prog 29 #[.pointer (some ⟨b, 0, none⟩)] w fun e w' => ∃ b', e = .returned (.pointer (some ⟨b', 0, none⟩)) ∧ Trio w0 w' X b b' y g g h ∧ Below w.heap.size w w' := by
  have p' := p
  obtain ⟨⟨L, M, rfl, e2, hL, hM, h1, h2⟩, xl, bel, fg, fh⟩ := p'
  refine (cClone hL fg).mono ?_
  rintro e w' ⟨L', rfl, hL', hb, hn⟩
  refine ⟨L'.b, rfl, ⟨⟨L, rfl, hL.below hb, fun k hk => ⟨(h1 k hk).1, (h1 k hk).2.2⟩, ⟨⟨L', M, rfl, e2, hL', hM.below hb, fun k hk => ⟨Nat.le_trans bel.size (hn k hk), fun e => ?_, fun e => ?_⟩, fun k hk => ⟨(h2 k hk).1, fun e => ?_⟩⟩, fun k hk => ?_, bt bel hb, fg, fh⟩⟩, fg⟩, hb⟩
  · have := hM.lt k e
    have := hn k hk
    omega
  · simp only [List.mem_append] at e
    have := hn k hk
    rcases e with e | e
    · have := hL.lt k e; omega
    · have := xl k e; omega
  · simp only [List.mem_append] at e
    rcases e with e | e
    · exact (h1 k e).2.1 hk
    · exact (h2 k hk).2 e
  · simp only [List.mem_append] at hk
    rcases hk with e | e
    · exact Nat.lt_of_lt_of_le (hL.lt k e) hb.size
    · exact Nat.lt_of_lt_of_le (xl k e) hb.size
section
variable {a : Nat} {o : Gr}
theorem tAlloc (t : Trio w0 w X a b y o g h) (hN : o.os.length < 1000) (i n : Int) :
    Calls Try.prog 13 #[.pointer (some ⟨a, 0, none⟩), .int .i64 i, .int .i64 n] w fun e w' => e = .returned (.int .i64 (o.allocE i n)) ∧ Trio w0 w' X a b y (o.alloc i n) g h ∧ Keeps X w w' :=
  t.call (t.fo.alloc i n (by omega)) fun L hb hg => hb ▸ cAllocG hg t.fo i n
theorem tWrite (t : Trio w0 w X a b y o g h) (i j k c d : Int) :
    Calls Try.prog 19 #[.pointer (some ⟨a, 0, none⟩), .int .i64 i, .int .i64 j, .int .i64 k, .agg #[.int .i64 c, .int .i64 d]] w fun e w' => e = .returned (.int .i64 (o.writeE i j k (c, d))) ∧ Trio w0 w' X a b y (o.write i j k (c, d)) g h ∧ Keeps X w w' :=
  t.call (t.fo.write i j k (c, d)) fun L hb hg => hb ▸ cWriteG hg t.fo i j k c d
theorem tDrop (t : Trio w0 w X a b y o g h) (i : Int) :
    Calls Try.prog 27 #[.pointer (some ⟨a, 0, none⟩), .int .i64 i] w fun e w' => e = .returned (.int .i64 (o.dropE i)) ∧ Trio w0 w' X a b y (o.drop i) g h ∧ Keeps X w w' :=
  t.call (t.fo.drop i) fun L hb hg => hb ▸ cDropG hg t.fo i
end
end
/-- two new graphs -/
theorem pNew (w0 w : World) (n : Nat) (h1 : 1 ≤ n) (h4 : n ≤ 64) (L : Loc) (hL : GAt w L (Gr.new n)) (hb : Below w0.heap.size w0 w) (hl : ∀ k ∈ L.fp, w0.heap.size ≤ k) :
    Calls Try.prog 11 #[.int .i64 n] w fun e w' => ∃ y, e = .returned (.tuple #[.pointer (some ⟨y, 0, none⟩), .int .i64 0]) ∧ Pair w0 w' [] L.b y (Gr.new n) (Gr.new n) := by
  refine (yNew w n h1 h4).mono ?_
  rintro e w' ⟨M, rfl, hM, hb', hm⟩
  refine ⟨M.b, rfl, ⟨⟨L, M, rfl, rfl, hL.below hb', hM, fun k hk => ⟨hl k hk, fun e => ?_, by simp⟩, fun k hk => ⟨Nat.le_trans hb.size (hm k hk), by simp⟩⟩, fun k hk => by simp at hk, bt hb hb', Gr.Fit.new h1 h4, Gr.Fit.new h1 h4⟩⟩
  have := hL.lt k hk
  have := hm k e
  omega
end Go.Proofs.Ytbihdkdefopijaa
