/-
  A machine beside a memory: what both are, said plainly; what a step leaves alone.
-/
import Derived.Test.YtbojljkdpebheaaDoorRef
import Derived.Lib.SmallJoins
import Derived.Laws.EntriesVeiled
import Derived.Test.YtbojljkdpebheaaDoorHRefs
import Derived.Test.YtbojljkdpebheaaDoorSRefs
import Derived.Test.YtbojljkdpebheaaDoorPCalls2
namespace Go.Proofs.YtbojljkdpebheaaDoor
set_option linter.unusedVariables false
set_option linter.unusedSimpArgs false
set_option maxRecDepth 100000
open Go.ChangeShapes Go.WideShapes Go.RowKit
open S.Plain (t0 t1 tw nx)
open H.Plain (hw pL)

/-- words are words -/
def U64 (x : Int) : Prop := 0 ≤ x ∧ x ≤ 18446744073709551615
def St.Rng (s : St) : Prop := ∀ x ∈ s.ws, U64 x
theorem U64.zero : U64 0 := ⟨by omega, by omega⟩
theorem u64_nx (a x : Int) : U64 (nx a x) := ⟨S.Plain.nx_pos a x, S.Plain.nx_le a x⟩
theorem u64_hw (s c n m g t l : Int) : U64 (hw s c n m g t l) := by unfold H.Plain.hw; constructor <;> omega
namespace St
variable {s : St}
theorem Rng.word (h : s.Rng) (a : Int) : U64 (s.word a) := by
  unfold St.word
  by_cases k : a.toNat < s.ws.length
  · rw [List.getD_eq_getElem?_getD, List.getElem?_eq_getElem k]; exact h _ (by simp)
  · rw [List.getD_eq_getElem?_getD, List.getElem?_eq_none (by omega)]; exact U64.zero
theorem Rng.got (h : s.Rng) (a : Int) : U64 (s.got a) := by unfold St.got; split; exact h.word a; exact U64.zero
theorem Rng.put (h : s.Rng) (a : Int) {x : Int} (hx : U64 x) : (s.put a x).Rng := fun y hy => by
  rcases List.mem_or_eq_of_mem_set hy with h' | rfl
  · exact h y h'
  · exact hx
theorem Rng.tell (h : s.Rng) (op a : Int) (is ok : Bool) : (s.tell op a is ok).Rng := h
theorem Rng.load (h : s.Rng) (a : Int) : (s.load a).Rng := h
theorem Rng.store (h : s.Rng) (a : Int) {x : Int} (hx : U64 x) : (s.store a x).Rng := by
  unfold St.store; split
  · exact (h.put a hx).tell _ _ _ _
  · exact h.tell _ _ _ _
theorem Rng.cas (h : s.Rng) (a o : Int) {x : Int} (hx : U64 x) : (s.cas a o x).Rng := by
  unfold St.cas; split
  · exact (h.put a hx).tell _ _ _ _
  · exact h.tell _ _ _ _
theorem Rng.new (n : Nat) : (St.new n).Rng := fun x hx => by simp [St.new] at hx; rw [hx.2]; exact U64.zero
end St

/-- a Pop: where its list's head stands, the link and the head that it saw, its next step (0: done) -/
structure PopS where
  hd : Int
  link : Int
  seen : Int
  pc : Nat
/-- a Push -/
structure PushS where
  hd : Int
  fst : Int
  lst : Int
  cls : Int
  seen : Int
  pc : Nat
def PopS.new (h : Int) : PopS := ⟨h, 0, 0, 1⟩
def PushS.new (h f l c : Int) : PushS := ⟨h, f, l, c, 0, 1⟩
/-- a step: what the machine is then, and the memory -/
def PopS.next (x : PopS) (s : St) : PopS :=
  match x.pc with
  | 1 => ⟨x.hd, x.link, s.got x.hd, if t0 (s.got x.hd) = 0 then 0 else 2⟩
  | 2 => ⟨x.hd, pL (s.got (t0 x.seen)), x.seen, 3⟩
  | 3 => ⟨x.hd, x.link, x.seen, if s.ok1 x.hd x.seen then 0 else 1⟩
  | _ => x
def PopS.mem (x : PopS) (s : St) : St :=
  match x.pc with
  | 1 => s.load x.hd
  | 2 => s.load (t0 x.seen)
  | 3 => s.cas x.hd x.seen (nx x.seen x.link)
  | _ => s
def PushS.next (x : PushS) (s : St) : PushS :=
  match x.pc with
  | 1 => ⟨x.hd, x.fst, x.lst, x.cls, s.got x.hd, 2⟩
  | 2 => ⟨x.hd, x.fst, x.lst, x.cls, x.seen, 3⟩
  | 3 => ⟨x.hd, x.fst, x.lst, x.cls, x.seen, if s.ok1 x.hd x.seen then 0 else 1⟩
  | _ => x
def PushS.mem (x : PushS) (s : St) : St :=
  match x.pc with
  | 1 => s.load x.hd
  | 2 => s.store x.lst (hw 0 x.cls 0 0 0 0 (t0 x.seen))
  | 3 => s.cas x.hd x.seen (nx x.seen x.fst)
  | _ => s
/-- what a Pop tells -/
def PopS.at_ (x : PopS) : Int := if x.pc = 0 then t0 x.seen else 0
def PopS.saw (x : PopS) : Int := if x.pc = 0 then x.seen else 0
structure PopS.Ok (x : PopS) : Prop where
  seen : U64 x.seen
  pc : x.pc ≤ 3
structure PushS.Ok (x : PushS) : Prop where
  seen : U64 x.seen
  pc : x.pc ≤ 3
theorem PopS.ok_new (h : Int) : (PopS.new h).Ok := ⟨U64.zero, by simp [PopS.new]⟩
theorem PushS.ok_new (h f l c : Int) : (PushS.new h f l c).Ok := ⟨U64.zero, by simp [PushS.new]⟩
theorem pc_cases {n : Nat} (h : n ≤ 3) : n = 0 ∨ n = 1 ∨ n = 2 ∨ n = 3 := by omega
theorem PopS.Ok.next {x : PopS} {s : St} (h : x.Ok) (r : s.Rng) : (x.next s).Ok := by
  obtain ⟨hd, link, seen, pc⟩ := x
  rcases pc_cases h.pc with rfl | rfl | rfl | rfl
  · exact h
  · exact ⟨r.got _, by simp only [PopS.next]; split <;> omega⟩
  · exact ⟨h.seen, by simp only [PopS.next]; omega⟩
  · exact ⟨h.seen, by simp only [PopS.next]; split <;> omega⟩
theorem PushS.Ok.next {x : PushS} {s : St} (h : x.Ok) (r : s.Rng) : (x.next s).Ok := by
  obtain ⟨hd, f, l, c, seen, pc⟩ := x
  rcases pc_cases h.pc with rfl | rfl | rfl | rfl
  · exact h
  · exact ⟨r.got _, by simp [PushS.next]⟩
  · exact ⟨h.seen, by simp [PushS.next]⟩
  · exact ⟨h.seen, by simp only [PushS.next]; split <;> omega⟩
theorem PopS.rng {x : PopS} {s : St} (h : x.Ok) (r : s.Rng) : (x.mem s).Rng := by
  obtain ⟨hd, link, seen, pc⟩ := x
  rcases pc_cases h.pc with rfl | rfl | rfl | rfl
  · exact r
  · exact r
  · exact r
  · exact r.cas _ _ (u64_nx _ _)
theorem PushS.rng {x : PushS} {s : St} (h : x.Ok) (r : s.Rng) : (x.mem s).Rng := by
  obtain ⟨hd, f, l, c, seen, pc⟩ := x
  rcases pc_cases h.pc with rfl | rfl | rfl | rfl
  · exact r
  · exact r
  · exact r.store _ (u64_hw ..)
  · exact r.cas _ _ (u64_nx _ _)
theorem PopS.fit {x : PopS} {s : St} (h : x.Ok) (f : s.Fit) (hc : s.c < 1000000) : (x.mem s).Fit := by
  obtain ⟨hd, link, seen, pc⟩ := x
  rcases pc_cases h.pc with rfl | rfl | rfl | rfl
  · exact f
  · exact f.load hc _
  · exact f.load hc _
  · exact f.cas hc _ _ _
theorem PushS.fit {x : PushS} {s : St} (h : x.Ok) (f : s.Fit) (hc : s.c < 1000000) : (x.mem s).Fit := by
  obtain ⟨hd, a, l, c, seen, pc⟩ := x
  rcases pc_cases h.pc with rfl | rfl | rfl | rfl
  · exact f
  · exact f.load hc _
  · exact f.store hc _ _
  · exact f.cas hc _ _ _
theorem PopS.count {x : PopS} {s : St} (h : x.Ok) : (x.mem s).c ≤ s.c + 1 := by
  obtain ⟨hd, link, seen, pc⟩ := x
  rcases pc_cases h.pc with rfl | rfl | rfl | rfl
  · simp only [PopS.mem]; omega
  · simp only [PopS.mem, St.c_load]; omega
  · simp only [PopS.mem, St.c_load]; omega
  · simp only [PopS.mem, St.c_cas]; omega
theorem PushS.count {x : PushS} {s : St} (h : x.Ok) : (x.mem s).c ≤ s.c + 1 := by
  obtain ⟨hd, f, l, c, seen, pc⟩ := x
  rcases pc_cases h.pc with rfl | rfl | rfl | rfl
  · simp only [PushS.mem]; omega
  · simp only [PushS.mem, St.c_load]; omega
  · simp only [PushS.mem, St.c_store]; omega
  · simp only [PushS.mem, St.c_cas]; omega

/-- as cells -/
def popFn : Nat → Value
  | 1 => .func (.func 69) #[] #[]
  | 2 => .func (.func 85) #[] #[]
  | 3 => .func (.func 99) #[] #[]
  | _ => .nilFunc
def pushFn : Nat → Value
  | 1 => .func (.func 43) #[] #[]
  | 2 => .func (.func 57) #[] #[]
  | 3 => .func (.func 68) #[] #[]
  | _ => .nilFunc
def PopS.cells (x : PopS) : Array Value := #[.int .i64 x.hd, .int .i64 x.link, .int .u64 x.seen, popFn x.pc]
def PushS.cells (x : PushS) : Array Value := #[.int .i64 x.hd, .int .i64 x.fst, .int .i64 x.lst, .int .i64 x.cls, .int .u64 x.seen, pushFn x.pc]

/-- the package variables lie where they were laid -/
def Laid (w : World) : Prop := H.Wid w ∧ P.Wid w
theorem Laid.on {w u : World} (h : Laid w) (hb : Below w.heap.size w u) : Laid u := ⟨H.Wid.on h.1 hb, P.Wid.on h.2 hb⟩
theorem Laid.two {w : World} (h : Laid w) : 2 ≤ w.heap.size := by
  have h1 := h.1.1
  have h2 := h.2.1
  omega
theorem wid_kept {F : List Nat} {w w' : World} (h : Laid w) (k : Kept F w w') (h0 : ∀ j, j < 2 → j ∉ F) : Laid w' := by
  have c : ∀ j i, j < 2 → w'.cell? ⟨j, i, none⟩ = w.cell? ⟨j, i, none⟩ := fun j i hj => World.cell?_of_block (a := ⟨j, i, none⟩) (k.block j (by have := h.two; omega) (h0 j hj))
  have c0 := fun i => c 0 i (by decide)
  have c1 := fun i => c 1 i (by decide)
  refine ⟨⟨Nat.lt_of_lt_of_le h.1.1 k.size, ?_⟩, Nat.lt_of_lt_of_le h.2.1 k.size, ?_⟩
  · simp only [c0, c1]; exact h.1.2
  · simp only [c0, c1]; exact h.2.2
/-- a memory, and a machine's block beside it -/
structure At (TM : TypeId) (w : World) (L : Loc) (s : St) (p : Nat) (T : TypeId) (cs : Array Value) : Prop where
  mem : MemAt TM w L s
  blk : w.heap[p]? = some (.cells cs T (0, 0))
  hT : T ≠ TM ∧ T ≠ 45 ∧ T ≠ 92
  wid : Laid w
  zero : (∀ j, j < 2 → j ∉ L.fp) ∧ 2 ≤ p
/-- from one place to the next: the memory's own blocks and the machine's alone are written -/
structure Went (w : World) (L : Loc) (p : Nat) (w' : World) (L' : Loc) : Prop where
  kept : Kept (p :: L.fp) w w'
  new : ∀ k ∈ L'.fp, k ∈ L.fp ∨ w.heap.size ≤ k
  b : L'.b = L.b
section
variable {TM T : TypeId} {w w1 w2 : World} {L L1 L2 : Loc} {s s1 : St} {p : Nat} {cs : Array Value}
theorem At.notin (h : At TM w L s p T cs) : p ∉ L.fp := fun hp => by
  obtain ⟨cur, T', e, h1⟩ := h.mem.kind p hp
  rw [h.blk] at e
  simp at e
  obtain ⟨_, rfl⟩ := e
  rcases h1 with h1 | h1 | h1
  · exact h.hT.1 h1
  · exact h.hT.2.1 h1
  · exact h.hT.2.2 h1
theorem Went.refl (w : World) (L : Loc) (p : Nat) : Went w L p w L := ⟨Kept.refl _ _, fun _ h => .inl h, rfl⟩
theorem Went.trans (h : Went w L p w1 L1) (h1 : Went w1 L1 p w2 L2) : Went w L p w2 L2 :=
  ⟨h.kept.trans h1.kept fun k hk => by
    simp only [List.mem_cons] at hk ⊢
    rcases hk with rfl | hk
    · exact .inl (.inl rfl)
    · exact (h.new k hk).imp .inr id, fun k hk => (h1.new k hk).elim (h.new k) fun hk' => .inr (Nat.le_trans h.kept.size hk'), h1.b.trans h.b⟩
theorem Went.of_step (h : Step w L w1 L1) (p : Nat) : Went w L p w1 L1 := ⟨h.kept.mono fun k hk => by simp [hk], h.new, h.b⟩
theorem Went.of_below (h : Below w.heap.size w w1) (L : Loc) (p : Nat) : Went w L p w1 L := ⟨Kept.of_below h, fun _ h => .inl h, rfl⟩
theorem Went.set (w : World) (L : Loc) (p i : Nat) (u : Value) : Went w L p (w.setCell ⟨p, i, none⟩ u) L := ⟨Kept.setCell _ _ _ _ (by simp), fun _ h => .inl h, rfl⟩
theorem At.step (h : At TM w L s p T cs) (hm : MemAt TM w1 L1 s1) (st : Step w L w1 L1) : At TM w1 L1 s1 p T cs :=
  ⟨hm, (st.kept.block p (lt_of_block h.blk) h.notin).trans h.blk, h.hT, wid_kept h.wid st.kept h.zero.1, fun j hj h0 => (st.new j h0).elim (h.zero.1 j hj) fun h' => by have := h.wid.two; omega, h.zero.2⟩
theorem At.below (h : At TM w L s p T cs) (hb : Below w.heap.size w w1) : At TM w1 L s p T cs := ⟨h.mem.below hb, (hb.block p (lt_of_block h.blk)).trans h.blk, h.hT, h.wid.on hb, h.zero⟩
theorem At.alloc (h : At TM w L s p T cs) (o : Obj) : At TM (w.alloc o) L s p T cs := h.below ((Below.refl _ _).alloc (Nat.le_refl _) o)
theorem At.set (h : At TM w L s p T cs) (i : Nat) (u : Value) : At TM (w.setCell ⟨p, i, none⟩ u) L s p T (cs.setIfInBounds i u) :=
  ⟨h.mem.on (Kept.setCell [p] _ _ _ (by simp)) fun k hk e => by simp at e; subst e; exact h.notin hk, Go.Joins.block_setCell h.blk u, h.hT, wid_kept h.wid (Kept.setCell [p] _ _ _ (by simp)) (fun j hj e => by simp at e; have := h.zero.2; omega), h.zero⟩
theorem At.cell (h : At TM w L s p T cs) (i : Nat) : w.cell? ⟨p, i, none⟩ = cs[i]? := cell_of_row w _ _ _ _ _ h.blk
theorem At.free (h : At TM w L s p T cs) (i : Nat) : w.frozen? ⟨p, i, none⟩ = false := frozen_of_row w _ _ _ _ h.blk
end
end Go.Proofs.YtbojljkdpebheaaDoor
