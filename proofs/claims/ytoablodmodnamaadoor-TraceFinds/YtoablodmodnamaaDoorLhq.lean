/-
  A memory, and two, with machines beside them, as a law has them in hand.
-/
import Derived.Test.YtoablodmodnamaaDoorRefq
import Derived.Lib.SmallJoins
import Derived.Laws.EntriesVeiled
import Derived.Test.YtoablodmodnamaaDoorHRefsq
import Derived.Test.YtoablodmodnamaaDoorSRefsq
namespace Go.Proofs.YtoablodmodnamaaDoor
set_option linter.unusedVariables false
set_option maxRecDepth 100000
open Go.ChangeShapes Go.WideShapes Go.RowKit
open S.Plain (t0 t1 tw nx)
open H.Plain (hw pL)

/-- words are words -/
def U64 (x : Int) : Prop := 0 ≤ x ∧ x ≤ 18446744073709551615
def St.Rng (s : St) : Prop := ∀ x ∈ s.ws, U64 x
theorem U64.zero : U64 0 := ⟨by omega, by omega⟩
theorem u64_nx (a x : Int) : U64 (nx a x) := ⟨S.Plain.nx_pos a x, S.Plain.nx_le a x⟩
theorem u64_hw (s c n m g t l : Int) : U64 (hw s c n m g t l) := by unfold H.Plain.hw; constructor <;> omega
namespace St
variable {s : St}
theorem Rng.word (h : s.Rng) (a : Int) : U64 (s.word a) := by
  unfold St.word
  by_cases k : a.toNat < s.ws.length
  · rw [List.getD_eq_getElem?_getD, List.getElem?_eq_getElem k]; exact h _ (by simp)
  · rw [List.getD_eq_getElem?_getD, List.getElem?_eq_none (by omega)]; exact U64.zero
theorem Rng.got (h : s.Rng) (a : Int) : U64 (s.got a) := by unfold St.got; split; exact h.word a; exact U64.zero
theorem Rng.put (h : s.Rng) (a : Int) {x : Int} (hx : U64 x) : (s.put a x).Rng := fun y hy => by
  rcases List.mem_or_eq_of_mem_set hy with h' | rfl
  · exact h y h'
  · exact hx
theorem Rng.tell (h : s.Rng) (op a : Int) (is ok : Bool) : (s.tell op a is ok).Rng := h
theorem Rng.load (h : s.Rng) (a : Int) : (s.load a).Rng := h
theorem Rng.store (h : s.Rng) (a : Int) {x : Int} (hx : U64 x) : (s.store a x).Rng := by
  unfold St.store; split
  · exact (h.put a hx).tell _ _ _ _
  · exact h.tell _ _ _ _
theorem Rng.cas (h : s.Rng) (a o : Int) {x : Int} (hx : U64 x) : (s.cas a o x).Rng := by
  unfold St.cas; split
  · exact (h.put a hx).tell _ _ _ _
  · exact h.tell _ _ _ _
theorem Rng.new (n : Nat) : (St.new n).Rng := fun x hx => by simp [St.new] at hx; rw [hx.2]; exact U64.zero
end St

theorem wid_kept {F : List Nat} {w w' : World} (h : H.Wid w) (k : Kept F w w') (h0 : 0 ∉ F) : H.Wid w' := by
  have e := k.block 0 h.1 h0
  have c : ∀ i, w'.cell? ⟨0, i, none⟩ = w.cell? ⟨0, i, none⟩ := fun i => World.cell?_of_block (a := ⟨0, i, none⟩) e
  refine ⟨Nat.lt_of_lt_of_le h.1 k.size, ?_⟩
  simp only [c]
  exact h.2
/-- a memory, and a machine's block beside it -/
structure At (TM : TypeId) (w : World) (L : Loc) (s : St) (p : Nat) (T : TypeId) (cs : Array Value) : Prop where
  mem : MemAt TM w L s
  blk : w.heap[p]? = some (.cells cs T (0, 0))
  hT : T ≠ TM ∧ T ≠ 76 ∧ T ≠ 154
  wid : H.Wid w
  zero : 0 ∉ L.fp ∧ p ≠ 0
/-- from one place to the next: the memory's own blocks and the machine's alone are written -/
structure Went (w : World) (L : Loc) (p : Nat) (w' : World) (L' : Loc) : Prop where
  kept : Kept (p :: L.fp) w w'
  new : ∀ k ∈ L'.fp, k ∈ L.fp ∨ w.heap.size ≤ k
  b : L'.b = L.b
section
variable {TM T : TypeId} {w w1 w2 : World} {L L1 L2 : Loc} {s s1 : St} {p : Nat} {cs : Array Value}
theorem At.notin (h : At TM w L s p T cs) : p ∉ L.fp := fun hp => by
  obtain ⟨cur, T', e, h1⟩ := h.mem.kind p hp
  rw [h.blk] at e
  simp at e
  obtain ⟨_, rfl⟩ := e
  rcases h1 with h1 | h1 | h1
  · exact h.hT.1 h1
  · exact h.hT.2.1 h1
  · exact h.hT.2.2 h1
theorem Went.refl (w : World) (L : Loc) (p : Nat) : Went w L p w L := ⟨Kept.refl _ _, fun _ h => .inl h, rfl⟩
theorem Went.trans (h : Went w L p w1 L1) (h1 : Went w1 L1 p w2 L2) : Went w L p w2 L2 :=
  ⟨h.kept.trans h1.kept fun k hk => by
    simp only [List.mem_cons] at hk ⊢
    rcases hk with rfl | hk
    · exact .inl (.inl rfl)
    · exact (h.new k hk).imp .inr id, fun k hk => (h1.new k hk).elim (h.new k) fun hk' => .inr (Nat.le_trans h.kept.size hk'), h1.b.trans h.b⟩
theorem Went.of_step (h : Step w L w1 L1) (p : Nat) : Went w L p w1 L1 := ⟨h.kept.mono fun k hk => by simp [hk], h.new, h.b⟩
theorem Went.of_below (h : Below w.heap.size w w1) (L : Loc) (p : Nat) : Went w L p w1 L := ⟨Kept.of_below h, fun _ h => .inl h, rfl⟩
theorem Went.set (w : World) (L : Loc) (p i : Nat) (u : Value) : Went w L p (w.setCell ⟨p, i, none⟩ u) L := ⟨Kept.setCell _ _ _ _ (by simp), fun _ h => .inl h, rfl⟩
theorem At.step (h : At TM w L s p T cs) (hm : MemAt TM w1 L1 s1) (st : Step w L w1 L1) : At TM w1 L1 s1 p T cs :=
  ⟨hm, (st.kept.block p (lt_of_block h.blk) h.notin).trans h.blk, h.hT, wid_kept h.wid st.kept h.zero.1, fun h0 => (st.new 0 h0).elim h.zero.1 fun h' => by have := h.wid.1; omega, h.zero.2⟩
theorem At.below (h : At TM w L s p T cs) (hb : Below w.heap.size w w1) : At TM w1 L s p T cs := ⟨h.mem.below hb, (hb.block p (lt_of_block h.blk)).trans h.blk, h.hT, h.wid.on hb, h.zero⟩
theorem At.alloc (h : At TM w L s p T cs) (o : Obj) : At TM (w.alloc o) L s p T cs := h.below ((Below.refl _ _).alloc (Nat.le_refl _) o)
theorem At.set (h : At TM w L s p T cs) (i : Nat) (u : Value) : At TM (w.setCell ⟨p, i, none⟩ u) L s p T (cs.setIfInBounds i u) :=
  ⟨h.mem.on (Kept.setCell [p] _ _ _ (by simp)) fun k hk e => by simp at e; subst e; exact h.notin hk, Go.Joins.block_setCell h.blk u, h.hT, wid_kept h.wid (Kept.setCell [p] _ _ _ (by simp)) (by simp; exact fun e => h.zero.2 e.symm), h.zero⟩
theorem At.cell (h : At TM w L s p T cs) (i : Nat) : w.cell? ⟨p, i, none⟩ = cs[i]? := cell_of_row w _ _ _ _ _ h.blk
theorem At.free (h : At TM w L s p T cs) (i : Nat) : w.frozen? ⟨p, i, none⟩ = false := frozen_of_row w _ _ _ _ h.blk
end
end Go.Proofs.YtoablodmodnamaaDoor

namespace Go.Proofs.YtoablodmodnamaaDoor
set_option linter.unusedVariables false
set_option maxRecDepth 100000
open Go.ChangeShapes Go.WideShapes Go.RowKit
open S.Plain (t0 t1 tw nx)
open H.Plain (hw pL)

theorem bel_trans {a u v : World} (h : Below a.heap.size a u) (hb : Below u.heap.size u v) : Below a.heap.size a v := h.trans (hb.mono h.size)

/-- the kinds of a memory's blocks -/
def MTs : List TypeId := [142, 80, 76, 154]
/-- a block that is none of a memory's: of another kind, or a box of one word -/
def Fr (T : TypeId) (cs : Array Value) : Prop := T ∉ MTs ∨ (T = 76 ∧ cs.size = 1)
/-- blocks of other kinds are as they were, but for F -/
structure Oth (F : List Nat) (w w' : World) : Prop where
  size : w.heap.size ≤ w'.heap.size
  blk : ∀ (k : Nat) (cs : Array Value) (T : TypeId) (fz : Nat × Nat), k ∉ F → Fr T cs → w.heap[k]? = some (.cells cs T fz) → w'.heap[k]? = some (.cells cs T fz)
section
variable {F G : List Nat} {w w1 w2 w' : World}
theorem Oth.refl (F : List Nat) (w : World) : Oth F w w := ⟨Nat.le_refl _, fun _ _ _ _ _ _ h => h⟩
theorem Oth.trans (h : Oth F w w1) (h1 : Oth F w1 w2) : Oth F w w2 := ⟨Nat.le_trans h.size h1.size, fun k cs T fz hF hT hk => h1.blk k cs T fz hF hT (h.blk k cs T fz hF hT hk)⟩
theorem Oth.mono (h : Oth F w w1) (hs : ∀ k ∈ F, k ∈ G) : Oth G w w1 := ⟨h.size, fun k cs T fz hG => h.blk k cs T fz fun hF => hG (hs k hF)⟩
theorem Oth.below (h : Below w.heap.size w w1) : Oth F w w1 := ⟨h.size, fun k _ _ _ _ _ hk => (h.block k (lt_of_block hk)).trans hk⟩
theorem Oth.kept (h : Kept F w w1) : Oth F w w1 := ⟨h.size, fun k _ _ _ hF _ hk => (h.block k (lt_of_block hk) hF).trans hk⟩
theorem Oth.set (w : World) (p i : Nat) (u : Value) (h : p ∈ F) : Oth F w (w.setCell ⟨p, i, none⟩ u) := Oth.kept (Kept.setCell F _ _ _ h)
theorem Oth.drew (F : List Nat) (w : World) : Oth F w w.drew := Oth.below (Below.refl _ _).drew
theorem Oth.alloc (F : List Nat) (w : World) (o : Obj) : Oth F w (w.alloc o) := Oth.below ((Below.refl _ _).alloc (Nat.le_refl _) o)
theorem notin_fp {TM T : TypeId} {L : Loc} {s : St} {k : Nat} {cs : Array Value} {fz : Nat × Nat} (h : MemAt TM w L s) (hTM : TM ∈ MTs) (f : s.Fit) (hT : Fr T cs) (hk : w.heap[k]? = some (.cells cs T fz)) : k ∉ L.fp := fun hf => by
  have n1 := f.n1
  rcases hT with hT | ⟨hT, h1⟩
  · obtain ⟨cur, T', e, h1⟩ := h.kind k hf
    rw [hk] at e
    simp at e
    obtain ⟨_, rfl, _⟩ := e
    rcases h1 with rfl | rfl | rfl
    · exact hT hTM
    · simp [MTs] at hT
    · simp [MTs] at hT
  · subst hT
    simp only [Loc.fp, List.mem_cons, Option.mem_toList] at hf
    rcases hf with rfl | rfl | hf
    · have := h.blk
      rw [hk] at this
      simp at this
      exact h.ht.1 this.2.1.symm
    · obtain ⟨cur, hc, a1, a2, a3, a4⟩ := h.gblk
      rw [hk] at hc
      simp at hc
      rw [hc.1] at h1
      omega
    · obtain ⟨cur, hc⟩ := h.ublk k hf
      rw [hk] at hc
      simp at hc
theorem Oth.went {TM : TypeId} {L L' : Loc} {s : St} {p : Nat} (h : MemAt TM w L s) (hTM : TM ∈ MTs) (f : s.Fit) (g : Went w L p w' L') : Oth [p] w w' :=
  ⟨g.kept.size, fun k cs T fz hF hT hk => (g.kept.block k (lt_of_block hk) fun hm => by
    simp only [List.mem_cons] at hm
    rcases hm with rfl | hm
    · simp at hF
    · exact notin_fp h hTM f hT hk hm).trans hk⟩
theorem Oth.step {TM : TypeId} {L L' : Loc} {s : St} (h : MemAt TM w L s) (hTM : TM ∈ MTs) (f : s.Fit) (g : Step w L w' L') : Oth F w w' :=
  ⟨g.kept.size, fun k cs T fz hF hT hk => (g.kept.block k (lt_of_block hk) fun hm => notin_fp h hTM f hT hk hm).trans hk⟩
/-- a row of another kind -/
theorem own_oth {base : Nat} {e : TypeId} {size n : Nat} {v : Value} {xs : List Value} (h : w.ownsRow base e size v n xs) (ho : Oth F w w') (he : e ∉ MTs) (d : ∀ k, v.ownBlock = some k → k ∉ F) : w'.ownsRow base e size v n xs := by
  refine ⟨h.1, ?_⟩
  rcases h.2 with hn | ⟨g, cap, cur, rfl, h1, h2, r⟩
  · exact .inl hn
  · exact .inr ⟨g, cap, cur, rfl, h1, ho.blk g _ _ _ (d g rfl) (.inl he) h2, r⟩
end

/-- a block of the law's own, of another kind -/
structure Blk (w0 w : World) (p : Nat) (T : TypeId) (cs : Array Value) : Prop where
  at_ : w.heap[p]? = some (.cells cs T (0, 0))
  old : w0.heap.size ≤ p
  hT : T ∉ MTs
section
variable {w0 w w' : World} {p : Nat} {T : TypeId} {cs : Array Value} {F : List Nat}
theorem Blk.oth (h : Blk w0 w p T cs) (ho : Oth F w w') (hp : p ∉ F) : Blk w0 w' p T cs := ⟨ho.blk _ _ _ _ hp (.inl h.hT) h.at_, h.old, h.hT⟩
theorem Blk.set (h : Blk w0 w p T cs) (i : Nat) (u : Value) : Blk w0 (w.setCell ⟨p, i, none⟩ u) p T (cs.setIfInBounds i u) := ⟨Go.Joins.block_setCell h.at_ u, h.old, h.hT⟩
theorem Blk.below (h : Blk w0 w p T cs) (hb : Below w.heap.size w w') : Blk w0 w' p T cs := h.oth (F := []) (Oth.below hb) (by simp)
theorem Blk.cell (h : Blk w0 w p T cs) (i : Nat) : w.cell? ⟨p, i, none⟩ = cs[i]? := cell_of_row w _ _ _ _ _ h.at_
theorem Blk.free (h : Blk w0 w p T cs) (i : Nat) : w.frozen? ⟨p, i, none⟩ = false := frozen_of_row w _ _ _ _ h.at_
theorem Blk.lt (h : Blk w0 w p T cs) : p < w.heap.size := lt_of_block h.at_
theorem Blk.new (h : w0.heap.size ≤ w.heap.size) (cs : Array Value) (hT : T ∉ MTs) : Blk w0 (w.alloc (.cells cs T)) w.heap.size T cs := ⟨heap_alloc_new _ _, h, hT⟩
theorem Blk.ne {q : Nat} {T' : TypeId} {cs' : Array Value} (h : Blk w0 w p T cs) (h' : Blk w0 w q T' cs') (hT : T ≠ T') : p ≠ q := fun e => by
  have := h.at_
  rw [e, h'.at_] at this
  simp at this
  exact hT this.2.symm
end

/-- one memory -/
structure Hand (w0 w : World) (b : Nat) (s : St) (N : Nat) : Prop where
  at_ : ∃ L : Loc, L.b = b ∧ Mm w L s ∧ ∀ k ∈ L.fp, w0.heap.size ≤ k
  bel : Below w0.heap.size w0 w
  fit : s.Fit
  top : s.c ≤ N
  rng : s.Rng
  wid : H.Wid w0
section
variable {w0 w w' : World} {b p : Nat} {s s' : St} {N : Nat} {T : TypeId} {cs : Array Value} {F : List Nat}
theorem Hand.kept (h : Hand w0 w b s N) (k : Kept F w w') (hF : ∀ k ∈ F, w0.heap.size ≤ k ∧ ∃ cs T fz, T ∉ MTs ∧ w.heap[k]? = some (.cells cs T fz)) : Hand w0 w' b s N := by
  obtain ⟨⟨L, e, hm, hl⟩, hb, f, t, r, wd⟩ := h
  refine ⟨⟨L, e, hm.on k fun j hj hjF => ?_, hl⟩, hb.trans (k.below (fun j hj => (hF j hj).1) hb.size), f, t, r, wd⟩
  obtain ⟨_, _, _, _, hT, hk⟩ := hF j hjF
  exact notin_fp hm (by simp [MTs]) f (.inl hT) hk hj
theorem Hand.below (h : Hand w0 w b s N) (hb : Below w.heap.size w w') : Hand w0 w' b s N := h.kept (F := []) (Kept.of_below hb) fun _ h => by simp at h
theorem Hand.alloc (h : Hand w0 w b s N) (o : Obj) : Hand w0 (w.alloc o) b s N := h.below ((Below.refl _ _).alloc (Nat.le_refl _) o)
theorem Hand.drew (h : Hand w0 w b s N) : Hand w0 w.drew b s N := h.below (Below.refl _ _).drew
theorem Hand.drewN (h : Hand w0 w b s N) (n : Nat) : Hand w0 (w.drewN n) b s N := h.below (S.bdr (Below.refl _ _) n)
theorem Hand.set (h : Hand w0 w b s N) (hp : Blk w0 w p T cs) (i : Nat) (u : Value) : Hand w0 (w.setCell ⟨p, i, none⟩ u) b s N :=
  h.kept (Kept.setCell [p] _ _ _ (by simp)) fun k hk => by simp at hk; subst hk; exact ⟨hp.old, _, _, _, hp.hT, hp.at_⟩
theorem Hand.mono (h : Hand w0 w b s N) {N' : Nat} (hN : N ≤ N') : Hand w0 w b s N' := ⟨h.at_, h.bel, h.fit, by have := h.top; omega, h.rng, h.wid⟩
theorem Hand.tight (h : Hand w0 w b s N) : Hand w0 w b s s.c.toNat := ⟨h.at_, h.bel, h.fit, by omega, h.rng, h.wid⟩
theorem Hand.lift {wa : World} (h : Hand wa w b s N) (hb : Below w0.heap.size w0 wa) (hw : H.Wid w0) : Hand w0 w b s N := by
  obtain ⟨⟨L, e, hm, hl⟩, hb', f, t, r, wd⟩ := h
  exact ⟨⟨L, e, hm, fun k hk => Nat.le_trans hb.size (hl k hk)⟩, hb.trans (hb'.mono hb.size), f, t, r, hw⟩
theorem Hand.widw (h : Hand w0 w b s N) : H.Wid w := h.wid.on h.bel
theorem Hand.went (h : Hand w0 w b s N) (hp : Blk w0 w p T cs) : ∃ L : Loc, L.b = b ∧ At 142 w L s p T cs ∧ ∀ {w' : World} {L' : Loc} {s' : St} {cs' : Array Value} {N' : Nat}, At 142 w' L' s' p T cs' → Went w L p w' L' → s'.Fit → s'.Rng → s'.c ≤ N' →
    Hand w0 w' b s' N' ∧ Blk w0 w' p T cs' ∧ Oth [p] w w' := by
  have hwd := h.widw
  obtain ⟨⟨L, e, hm, hl⟩, hb, f, t, r, wd⟩ := h
  have h0 := wd.1
  have hT := hp.hT
  simp only [MTs, List.mem_cons, List.not_mem_nil, or_false, not_or] at hT
  refine ⟨L, e, ⟨hm, hp.at_, ⟨hT.1, hT.2.2.1, hT.2.2.2⟩, hwd, fun hz => by have := hl 0 hz; omega, by have := hp.old; omega⟩, ?_⟩
  intro w' L' s' cs' N' A' g f' r' t'
  have hl' : ∀ k ∈ L'.fp, w0.heap.size ≤ k := fun k hk => (g.new k hk).elim (hl k) fun h' => Nat.le_trans hb.size h'
  refine ⟨⟨⟨L', g.b.trans e, A'.mem, hl'⟩, hb.trans (g.kept.below (fun k hk => ?_) hb.size), f', t', r', wd⟩, ⟨A'.blk, hp.old, hp.hT⟩, Oth.went hm (by simp [MTs]) f g⟩
  simp only [List.mem_cons] at hk
  rcases hk with rfl | hk
  · exact hp.old
  · exact hl k hk
theorem hCall {f : Nat} {args : Array Value} {r : Value} {s' : St} {N' : Nat} (h : Hand w0 w b s N) (hf : s'.Fit) (hr : s'.Rng) (hN : s'.c ≤ N')
    (hc : ∀ L : Loc, L.b = b → Mm w L s → Calls Tryd.prog f args w fun e w' => e = .returned r ∧ ∃ L', Mm w' L' s' ∧ Step w L w' L') :
    Calls Tryd.prog f args w fun e w' => e = .returned r ∧ Hand w0 w' b s' N' ∧ Oth [] w w' := by
  obtain ⟨⟨L, hb, hm, hl⟩, hbel, fit0, _, _, wd⟩ := h
  refine (hc L hb hm).mono ?_
  rintro e w' ⟨rfl, L', hm', st⟩
  have R := st.from hl hbel.size
  exact ⟨rfl, ⟨⟨L', st.b.trans hb, hm', R.2⟩, hbel.trans R.1, hf, hN, hr, wd⟩, Oth.step hm (by simp [MTs]) fit0 st⟩
theorem hLoad (h : Hand w0 w b s N) (hN : N < 1000000) (a : Int) :
    Calls Tryd.prog 31 #[.pointer (some ⟨b, 0, none⟩), .int .i64 a] w fun e w' => e = .returned (.int .u64 (s.got a)) ∧ Hand w0 w' b (s.load a) (N + 1) ∧ Oth [] w w' :=
  have hc : s.c < 1000000 := by have := h.top; omega
  hCall h (h.fit.load hc a) (h.rng.load a) (by rw [St.c_load]; have := h.top; omega) fun L hb hm => hb ▸ cLoad hm h.fit hc a
theorem hStore (h : Hand w0 w b s N) (hN : N < 1000000) (a : Int) {x : Int} (hx : U64 x) :
    Calls Tryd.prog 37 #[.pointer (some ⟨b, 0, none⟩), .int .i64 a, .int .u64 x] w fun e w' => e = .returned (.tuple #[]) ∧ Hand w0 w' b (s.store a x) (N + 1) ∧ Oth [] w w' :=
  have hc : s.c < 1000000 := by have := h.top; omega
  hCall h (h.fit.store hc a x) (h.rng.store a hx) (by rw [St.c_store]; have := h.top; omega) fun L hb hm => hb ▸ cStore hm h.fit hc a x
theorem hTraps (h : Hand w0 w b s N) : Calls Tryd.prog 32 #[.pointer (some ⟨b, 0, none⟩)] w fun e w' => e = .returned (.int .i64 s.t) ∧ w' = w := by
  obtain ⟨⟨L, rfl, hm, _⟩, _⟩ := h
  exact cTraps hm
end
theorem hNew (w : World) (n : Nat) (h1 : 2 ≤ n) (h4 : n ≤ 4096) {w0 : World} (hb : Below w0.heap.size w0 w) (wd : H.Wid w0) :
    Calls Tryd.prog 35 #[.int .i64 n] w fun e w' => ∃ b, e = .returned (.tuple #[.pointer (some ⟨b, 0, none⟩), .int .i64 0]) ∧ Hand w0 w' b (St.new n) 0 := by
  refine (cNew w n (by omega) h4).mono ?_
  rintro e w' ⟨b, g, cp, rfl, hm, hb', hl⟩
  exact ⟨b, rfl, ⟨⟨_, rfl, hm, fun k hk => Nat.le_trans hb.size (hl k hk)⟩, hb.trans (hb'.mono hb.size), St.Fit.new h1 h4, by simp [St.new], St.Rng.new n, wd⟩⟩
end Go.Proofs.YtoablodmodnamaaDoor
