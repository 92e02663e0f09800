/-
  What a memory is, said plainly; where it lies in the heap; what a call leaves alone.
-/
import Derived.Test.YtoablodmodnamaaDoorRows
import Derived.WalkKit
import Derived.OwnWalk
import Derived.OneCell
namespace Go.Proofs.YtoablodmodnamaaDoor
set_option linter.unusedVariables false
open Go.RowKit

/-- a memory: its words, how many accesses and traps there were, the accesses that are not taken -/
structure St where
  ws : List Int
  c : Int
  t : Int
  l : List (Int × Int × Bool)

namespace St
def is1 (s : St) (a : Int) : Bool := decide (0 ≤ a) && decide (a < s.ws.length)
def is2 (s : St) (a : Int) : Bool := decide (0 ≤ a) && (decide (a % 2 = 0) && decide (a + 1 < s.ws.length))
def word (s : St) (a : Int) : Int := s.ws.getD a.toNat 0
def tell (s : St) (op a : Int) (is ok : Bool) : St := ⟨s.ws, s.c + 1, if is then s.t else s.t + 1, s.l ++ [(op, a, ok)]⟩
def put (s : St) (a x : Int) : St := ⟨s.ws.set a.toNat x, s.c, s.t, s.l⟩
def got (s : St) (a : Int) : Int := if s.is1 a then s.word a else 0
def load (s : St) (a : Int) : St := s.tell 1 a (s.is1 a) (s.is1 a)
def store (s : St) (a x : Int) : St := (if s.is1 a then s.put a x else s).tell 2 a (s.is1 a) (s.is1 a)
def ok1 (s : St) (a old : Int) : Bool := s.is1 a && (s.word a == old)
def cas (s : St) (a old x : Int) : St := (if s.ok1 a old then s.put a x else s).tell 3 a (s.is1 a) (s.ok1 a old)
def ok2 (s : St) (a o0 o1 : Int) : Bool := s.is2 a && (s.word a == o0 && s.word (a + 1) == o1)
def cas2 (s : St) (a o0 o1 x0 x1 : Int) : St := (if s.ok2 a o0 o1 then (s.put a x0).put (a + 1) x1 else s).tell 4 a (s.is2 a) (s.ok2 a o0 o1)
def took (s : St) : St := ⟨s.ws, s.c, s.t, []⟩
def new (n : Nat) : St := ⟨List.replicate n 0, 0, 0, []⟩
/-- its numbers fit -/
structure Fit (s : St) : Prop where
  t0 : 0 ≤ s.t
  tc : s.t ≤ s.c
  lc : (s.l.length : Int) ≤ s.c
  c1 : s.c ≤ 1000000
  n1 : 2 ≤ s.ws.length
  n4 : s.ws.length ≤ 4096
theorem Fit.tell {s : St} (h : s.Fit) (hc : s.c < 1000000) (op a : Int) (is ok : Bool) : (s.tell op a is ok).Fit := by
  obtain ⟨h1, h2, h3, h4, h5, h6⟩ := h
  refine ⟨?_, ?_, ?_, ?_, h5, h6⟩
  · simp only [St.tell]; split <;> omega
  · simp only [St.tell]; split <;> omega
  · simp only [St.tell, List.length_append, List.length_singleton]; omega
  · simp only [St.tell]; omega
theorem Fit.put {s : St} (h : s.Fit) (a x : Int) : (s.put a x).Fit := ⟨h.t0, h.tc, h.lc, h.c1, by simp [St.put]; exact h.n1, by simp [St.put]; exact h.n4⟩
theorem Fit.load {s : St} (h : s.Fit) (hc : s.c < 1000000) (a : Int) : (s.load a).Fit := h.tell hc _ _ _ _
theorem Fit.store {s : St} (h : s.Fit) (hc : s.c < 1000000) (a x : Int) : (s.store a x).Fit := by
  unfold St.store
  split
  · exact (h.put a x).tell hc _ _ _ _
  · exact h.tell hc _ _ _ _
theorem Fit.cas {s : St} (h : s.Fit) (hc : s.c < 1000000) (a o x : Int) : (s.cas a o x).Fit := by
  unfold St.cas
  split
  · exact (h.put a x).tell hc _ _ _ _
  · exact h.tell hc _ _ _ _
theorem Fit.cas2 {s : St} (h : s.Fit) (hc : s.c < 1000000) (a o0 o1 x0 x1 : Int) : (s.cas2 a o0 o1 x0 x1).Fit := by
  unfold St.cas2
  split
  · exact ((h.put a x0).put (a + 1) x1).tell hc _ _ _ _
  · exact h.tell hc _ _ _ _
theorem Fit.took {s : St} (h : s.Fit) : s.took.Fit := ⟨h.t0, h.tc, by simp [St.took]; exact Int.le_trans h.t0 h.tc, h.c1, h.n1, h.n4⟩
theorem Fit.new {n : Nat} (h1 : 2 ≤ n) (h4 : n ≤ 4096) : (St.new n).Fit := ⟨by simp [St.new], by simp [St.new], by simp [St.new], by simp [St.new], by simp [St.new]; exact h1, by simp [St.new]; exact h4⟩
theorem c_load (s : St) (a : Int) : (s.load a).c = s.c + 1 := rfl
theorem c_store (s : St) (a x : Int) : (s.store a x).c = s.c + 1 := by unfold St.store; split <;> rfl
theorem c_cas (s : St) (a o x : Int) : (s.cas a o x).c = s.c + 1 := by unfold St.cas; split <;> rfl
theorem c_cas2 (s : St) (a o0 o1 x0 x1 : Int) : (s.cas2 a o0 o1 x0 x1).c = s.c + 1 := by unfold St.cas2; split <;> rfl
theorem n_load (s : St) (a : Int) : (s.load a).ws.length = s.ws.length := rfl
theorem n_store (s : St) (a x : Int) : (s.store a x).ws.length = s.ws.length := by unfold St.store; split <;> simp [St.tell, St.put]
theorem n_cas (s : St) (a o x : Int) : (s.cas a o x).ws.length = s.ws.length := by unfold St.cas; split <;> simp [St.tell, St.put]
theorem n_cas2 (s : St) (a o0 o1 x0 x1 : Int) : (s.cas2 a o0 o1 x0 x1).ws.length = s.ws.length := by unfold St.cas2; split <;> simp [St.tell, St.put]
end St

/-- words and accesses, as cells -/
def wds (l : List Int) : List Value := l.map (.int .u64)
def accs : List (Int × Int × Bool) → List Value
  | [] => []
  | x :: r => .int .i64 x.1 :: .int .i64 x.2.1 :: .bool x.2.2 :: accs r
theorem accs_append (l m : List (Int × Int × Bool)) : accs (l ++ m) = accs l ++ accs m := by
  induction l with
  | nil => rfl
  | cons x r ih => simp [accs, ih]
theorem accs_length (l : List (Int × Int × Bool)) : (accs l).length = l.length * 3 := by
  induction l with
  | nil => rfl
  | cons x r ih => simp only [accs, List.length_cons, ih]; omega
theorem wds_length (l : List Int) : (wds l).length = l.length := by simp [wds]
theorem wds_at (l : List Int) (j : Nat) (h : j < l.length) : (wds l)[j]? = some (.int .u64 (l.getD j 0)) := by simp [wds, h]
theorem wds_set (l : List Int) (j : Nat) (x : Int) : wds (l.set j x) = (wds l).set j (.int .u64 x) := by simp [wds, List.map_set]
theorem accs_at (l : List (Int × Int × Bool)) : ∀ (j : Nat) (x : Int × Int × Bool), l[j]? = some x → (accs l)[j * 3]? = some (.int .i64 x.1) ∧ (accs l)[j * 3 + 1]? = some (.int .i64 x.2.1) ∧ (accs l)[j * 3 + 2]? = some (.bool x.2.2) := by
  induction l with
  | nil => intro j x h; simp at h
  | cons y r ih =>
    intro j x h
    cases j with
    | zero => simp at h; subst h; simp [accs]
    | succ j =>
      have := ih j x (by simpa using h)
      rw [show (j + 1) * 3 = j * 3 + 1 + 1 + 1 by omega]
      simpa [accs] using this

/-- all that was there is as it was, but for the blocks F -/
structure Kept (F : List Nat) (w w' : World) : Prop where
  os : w'.os = w.os
  tape : w'.tape = w.tape
  output : w'.output = w.output
  size : w.heap.size ≤ w'.heap.size
  block : ∀ k, k < w.heap.size → k ∉ F → w'.heap[k]? = w.heap[k]?

theorem Kept.refl (F : List Nat) (w : World) : Kept F w w := ⟨rfl, rfl, rfl, Nat.le_refl _, fun _ _ _ => rfl⟩
theorem Kept.trans {F F1 : List Nat} {w w1 w2 : World} (h : Kept F w w1) (h1 : Kept F1 w1 w2) (hs : ∀ k ∈ F1, k ∈ F ∨ w.heap.size ≤ k) : Kept F w w2 :=
  ⟨h1.os.trans h.os, h1.tape.trans h.tape, h1.output.trans h.output, Nat.le_trans h.size h1.size, fun k hk hF => (h1.block k (Nat.lt_of_lt_of_le hk h.size) (fun hk1 => by
    rcases hs k hk1 with h' | h'
    · exact hF h'
    · omega)).trans (h.block k hk hF)⟩
theorem Kept.mono {F F1 : List Nat} {w w1 : World} (h : Kept F w w1) (hs : ∀ k ∈ F, k ∈ F1) : Kept F1 w w1 := ⟨h.os, h.tape, h.output, h.size, fun k hk hF => h.block k hk fun h' => hF (hs k h')⟩
theorem Kept.alloc (F : List Nat) (w : World) (o : Obj) : Kept F w (w.alloc o) := ⟨rfl, rfl, rfl, by simp, fun k hk _ => Below.heap_alloc _ _ _ hk⟩
theorem Kept.drew (F : List Nat) (w : World) : Kept F w w.drew := ⟨rfl, rfl, rfl, Nat.le_refl _, fun _ _ _ => rfl⟩
theorem Kept.setCell (F : List Nat) (w : World) (p : Addr) (u : Value) (hp : p.block ∈ F) : Kept F w (w.setCell p u) :=
  ⟨rfl, rfl, rfl, by simp [World.setCell], fun k _ hF => Below.heap_setCell _ _ _ _ fun e => hF (e ▸ hp)⟩
theorem Kept.grown (F : List Nat) {w w' : World} {row : Option Nat} (h : w.grownBy w' row) (hr : ∀ k, row = some k → k ∈ F) : Kept F w w' :=
  ⟨h.os, h.tape, h.output, h.size, fun k hk hF => h.block k hk fun e => hF (hr k e.symm)⟩
theorem Kept.below {F : List Nat} {w w' : World} {B : Nat} (h : Kept F w w') (hF : ∀ k ∈ F, B ≤ k) (hB : B ≤ w.heap.size) : Below B w w' :=
  ⟨h.os, h.tape, h.output, h.size, fun k hk => h.block k (by omega) fun h' => by have := hF k h'; omega⟩
theorem Kept.of_below {F : List Nat} {w w' : World} (h : Below w.heap.size w w') : Kept F w w' := ⟨h.os, h.tape, h.output, h.size, fun k hk _ => h.block k hk⟩

/-- where a memory lies -/
structure Loc where
  b : Nat
  g : Nat
  cp : Nat
  vu : Value
def Loc.fp (L : Loc) : List Nat := L.b :: L.g :: L.vu.ownBlock.toList
def Loc.ptr (L : Loc) : Value := .pointer (some ⟨L.b, 0, none⟩)

structure MemAt (T : TypeId) (w : World) (L : Loc) (s : St) : Prop where
  blk : w.heap[L.b]? = some (.cells #[.slice (some ⟨L.g, 0, none⟩) s.ws.length L.cp, .int .i64 s.c, .int .i64 s.t, L.vu] T (0, 0))
  row : w.ownsRow 0 76 1 (.slice (some ⟨L.g, 0, none⟩) s.ws.length L.cp) s.ws.length (wds s.ws)
  unt : w.ownsRow 0 154 3 L.vu s.l.length (accs s.l)
  non : s.l = [] → L.vu = .slice none 0 0
  ht : T ≠ 76 ∧ T ≠ 154

section
variable {T : TypeId} {w w' : World} {L M : Loc} {s : St}

theorem MemAt.cell0 (h : MemAt T w L s) : w.cell? ⟨L.b, 0, none⟩ = some (.slice (some ⟨L.g, 0, none⟩) s.ws.length L.cp) := by rw [cell_of_row w _ _ _ _ _ h.blk]; rfl
theorem MemAt.cell1 (h : MemAt T w L s) : w.cell? ⟨L.b, 1, none⟩ = some (.int .i64 s.c) := by rw [cell_of_row w _ _ _ _ _ h.blk]; rfl
theorem MemAt.cell2 (h : MemAt T w L s) : w.cell? ⟨L.b, 2, none⟩ = some (.int .i64 s.t) := by rw [cell_of_row w _ _ _ _ _ h.blk]; rfl
theorem MemAt.cell3 (h : MemAt T w L s) : w.cell? ⟨L.b, 3, none⟩ = some L.vu := by rw [cell_of_row w _ _ _ _ _ h.blk]; rfl
theorem MemAt.free (h : MemAt T w L s) (j : Nat) : w.frozen? ⟨L.b, j, none⟩ = false := frozen_of_row w _ _ _ _ h.blk
theorem MemAt.wcell (h : MemAt T w L s) (j : Nat) (hj : j < s.ws.length) : w.cell? ⟨L.g, j, none⟩ = some (.int .u64 (s.ws.getD j 0)) := by rw [h.row.cellAt j (by omega), wds_at _ _ hj]
theorem MemAt.wfree (h : MemAt T w L s) (j : Nat) : w.frozen? ⟨L.g, j, none⟩ = false := h.row.frozenAt j
theorem MemAt.gblk (h : MemAt T w L s) : ∃ cur, w.heap[L.g]? = some (.cells cur 76 (0, 0)) ∧ s.ws.length ≤ L.cp ∧ L.cp ≤ maxLen ∧ cur.size = L.cp ∧ cur.toList.take s.ws.length = wds s.ws := by
  rcases h.row.2 with ⟨h', _⟩ | ⟨g, cp, cur, h', _, hg, r1, r2, r3, r4⟩
  · simp at h'
  · simp only [Value.slice.injEq, Option.some.injEq, Addr.mk.injEq, and_true, true_and] at h'
    obtain ⟨rfl, rfl⟩ := h'
    exact ⟨cur, hg, r1, r2, by simpa using r3, by simpa using r4⟩
theorem MemAt.ublk (h : MemAt T w L s) (k : Nat) (hk : L.vu.ownBlock = some k) : ∃ cur, w.heap[k]? = some (.cells cur 154 (0, 0)) := by
  rcases h.unt.2 with ⟨h', _⟩ | ⟨g, cp, cur, h', _, hg, _⟩
  · rw [h'] at hk; simp [Value.ownBlock] at hk
  · rw [h'] at hk; simp [Value.ownBlock] at hk; subst hk; exact ⟨cur, hg⟩
theorem MemAt.kind (h : MemAt T w L s) (k : Nat) (hk : k ∈ L.fp) : ∃ cur T', w.heap[k]? = some (.cells cur T' (0, 0)) ∧ (T' = T ∨ T' = 76 ∨ T' = 154) := by
  simp only [Loc.fp, List.mem_cons, Option.mem_toList] at hk
  rcases hk with rfl | rfl | hk
  · exact ⟨_, _, h.blk, .inl rfl⟩
  · obtain ⟨cur, hc, _⟩ := h.gblk
    exact ⟨_, _, hc, .inr (.inl rfl)⟩
  · obtain ⟨cur, hc⟩ := h.ublk k hk
    exact ⟨_, _, hc, .inr (.inr rfl)⟩
theorem MemAt.lt (h : MemAt T w L s) : ∀ k ∈ L.fp, k < w.heap.size := fun k hk => by
  obtain ⟨_, _, e, _⟩ := h.kind k hk
  exact lt_of_block e
theorem MemAt.bg (h : MemAt T w L s) : L.b ≠ L.g := fun e => by
  obtain ⟨cur, hc, _⟩ := h.gblk
  have hb := h.blk
  rw [e, hc] at hb
  simp at hb
  exact h.ht.1 hb.2.symm
theorem MemAt.bu (h : MemAt T w L s) : L.vu.ownBlock ≠ some L.b := fun e => by
  obtain ⟨cur, hc⟩ := h.ublk _ e
  have hb := h.blk
  rw [hc] at hb
  simp at hb
  exact h.ht.2 hb.2.symm
theorem MemAt.gu (h : MemAt T w L s) : L.vu.ownBlock ≠ some L.g := fun e => by
  obtain ⟨cur, hc⟩ := h.ublk _ e
  obtain ⟨cur', hc', _⟩ := h.gblk
  rw [hc] at hc'
  simp at hc'

/-- a row of some call's own stays, where its block is left alone -/
theorem own_kept {F : List Nat} {base : Nat} {e : TypeId} {size : Nat} {v : Value} {n : Nat} {xs : List Value} (h : w.ownsRow base e size v n xs) (k : Kept F w w') (d : ∀ k, v.ownBlock = some k → k ∉ F) : w'.ownsRow base e size v n xs := by
  refine ⟨h.1, ?_⟩
  rcases h.2 with hn | ⟨g, cap, cur, rfl, h1, h2, r⟩
  · exact .inl hn
  · exact .inr ⟨g, cap, cur, rfl, h1, (k.block g (lt_of_block h2) (d g rfl)).trans h2, r⟩
/-- a memory that is left alone -/
theorem MemAt.on {F : List Nat} (h : MemAt T w M s) (k : Kept F w w') (d : ∀ k ∈ M.fp, k ∉ F) : MemAt T w' M s where
  blk := (k.block _ (lt_of_block h.blk) (d _ (by simp [Loc.fp]))).trans h.blk
  row := own_kept h.row k fun j hj => by simp [Value.ownBlock] at hj; subst hj; exact d _ (by simp [Loc.fp])
  unt := own_kept h.unt k fun j hj => d _ (by simp [Loc.fp, hj])
  non := h.non
  ht := h.ht
theorem MemAt.below (h : MemAt T w M s) (k : Below w.heap.size w w') : MemAt T w' M s := h.on (Kept.of_below (F := []) k) fun _ _ => by simp
theorem MemAt.alloc (h : MemAt T w M s) (o : Obj) : MemAt T (w.alloc o) M s := h.on (Kept.alloc [] w o) fun _ _ => by simp
theorem MemAt.drew (h : MemAt T w M s) : MemAt T w.drew M s := h.on (Kept.drew [] w) fun _ _ => by simp
/-- a block of another kind is left alone -/
theorem MemAt.other (h : MemAt T w L s) (k : Kept L.fp w w') {b : Nat} {cs : Array Value} {T' : TypeId} {fz : Nat × Nat} (hb : w.heap[b]? = some (.cells cs T' fz)) (hT : T' ≠ T ∧ T' ≠ 76 ∧ T' ≠ 154) :
    w'.heap[b]? = some (.cells cs T' fz) := by
  refine (k.block b (lt_of_block hb) fun hk => ?_).trans hb
  obtain ⟨cur, T1, e, h1⟩ := h.kind b hk
  rw [hb] at e
  simp at e
  obtain ⟨_, rfl, _⟩ := e
  rcases h1 with rfl | rfl | rfl
  · exact hT.1 rfl
  · exact hT.2.1 rfl
  · exact hT.2.2 rfl
end

/-- from one place of a memory to the next: its own blocks alone are written, it takes new ones alone -/
structure Step (w : World) (L : Loc) (w' : World) (L' : Loc) : Prop where
  kept : Kept L.fp w w'
  new : ∀ k ∈ L'.fp, k ∈ L.fp ∨ w.heap.size ≤ k
  b : L'.b = L.b
theorem Step.refl (w : World) (L : Loc) : Step w L w L := ⟨Kept.refl _ _, fun _ h => .inl h, rfl⟩
theorem Step.trans {w w1 w2 : World} {L L1 L2 : Loc} (h : Step w L w1 L1) (h1 : Step w1 L1 w2 L2) : Step w L w2 L2 :=
  ⟨h.kept.trans h1.kept h.new, fun k hk => (h1.new k hk).elim (h.new k) fun hk' => .inr (Nat.le_trans h.kept.size hk'), h1.b.trans h.b⟩
theorem Step.ptr {w w1 : World} {L L1 : Loc} (h : Step w L w1 L1) : L1.ptr = L.ptr := by simp [Loc.ptr, h.b]
/-- two memories that lie apart do so behind a step of the first -/
theorem Step.apart {T' : TypeId} {w w1 : World} {L L1 M : Loc} {s' : St} (h : Step w L w1 L1) (hM : MemAt T' w M s') (d : ∀ k ∈ M.fp, k ∉ L.fp) : MemAt T' w1 M s' ∧ ∀ k ∈ M.fp, k ∉ L1.fp :=
  ⟨hM.on h.kept d, fun k hk hk1 => (h.new k hk1).elim (d k hk) fun h' => by have := hM.lt k hk; omega⟩
theorem Step.from {w w1 : World} {L L1 : Loc} {B : Nat} (h : Step w L w1 L1) (hL : ∀ k ∈ L.fp, B ≤ k) (hB : B ≤ w.heap.size) : Below B w w1 ∧ ∀ k ∈ L1.fp, B ≤ k :=
  ⟨h.kept.below hL hB, fun k hk => (h.new k hk).elim (hL k) fun h' => by omega⟩

section
variable {P : Program} (w : World)
/-- append to a row of the call's own: what the row is then; its block is the old one or a new one -/
theorem run_append_mine (t ty e : TypeId) (i : TypeInfo) (z : Value) (size bytes : Nat) (ht : P.underlying t = some (.slice e)) (hi : P.info? e = some i) (hz : i.zero = some z)
    (hsize : i.size = size) (hby : i.bytes = bytes) (hzs : z.cells.size = size) (hsz : 0 < size)
    (v : Value) (n : Nat) (xs : List Value) (hown : w.ownsRow 0 e size v n xs)
    (a : Addr) (m c : Nat) (news : List Value) (hl : news.length = m * size) (hnews : ∀ j u, news[j]? = some u → w.cell? (a.add j) = some u) (h1 : ∀ u ∈ news, u.oneCell' = true)
    (h63 : n + m ≤ maxLen) (hbytes : (n + m) * bytes ≤ 140737488355328) (hm : 0 < m) :
    ∃ v' w', (Builtin.append_ #[t, t] ty #[v, .slice (some a) m c]).run P w = .ok v' w' ∧ w'.ownsRow 0 e size v' (n + m) (xs ++ news) ∧ w.grownBy w' v.ownBlock ∧
      (∀ k, v'.ownBlock = some k → v.ownBlock = some k ∨ w.heap.size ≤ k) ∧ ∃ g cp, v' = .slice (some ⟨g, 0, none⟩) (n + m) cp := by
  obtain ⟨v', w', hr, h2, h3, h4⟩ := run_append_own (P := P) w 0 t ty e i z size bytes ht hi hz hsize hby hzs hsz v n xs hown a m c news hl hnews h1 h63 hbytes (Nat.zero_le _)
  refine ⟨v', w', hr, h2, h3, ?_, ?_⟩
  · subst hsize
    subst hby
    have h63' : n + m ≤ 9223372036854775807 := by simp only [maxLen] at h63; omega
    rcases hown.2 with ⟨rfl, rfl⟩ | ⟨g, cap, cur, rfl, _, hg, _, _, hcs, _⟩
    · rw [run_append_nil (P := P) w t ty e i z ht hi hz a m c news hl hnews hm (by omega) (by simp only [Nat.zero_add] at hbytes; omega)] at hr
      injection hr with e1 _
      subst e1
      intro k hk
      simp [Value.ownBlock] at hk
      exact .inr (by omega)
    · by_cases hroom : n + m ≤ cap
      · rw [run_append_room (P := P) w t ty e i ht hi g n cap cur hg a m c news hl hnews h1 hroom (by rw [hl, hcs, ← Nat.add_mul]; exact Nat.mul_le_mul_right _ hroom)] at hr
        injection hr with e1 _
        subst e1
        intro k hk
        exact .inl hk
      · rw [run_append_grow (P := P) w t ty e i z ht hi hz ⟨g, 0, none⟩ n cap xs hown.1 (hown.cells (g := g) rfl) a m c news hl hnews (by omega) (by omega) (growslice_fits (by omega) hbytes)] at hr
        injection hr with e1 _
        subst e1
        intro k hk
        simp [Value.ownBlock] at hk
        exact .inr (by omega)
  · rcases h2.2 with ⟨rfl, h⟩ | ⟨g, cap, cur, rfl, _⟩
    · omega
    · exact ⟨g, cap, rfl⟩
/-- the same at the operation -/
theorem wpList_append_mine {ops : Array Oper} {rest : List Oper} {o : Oper} {a : Act} {Q : Exit → Act → World → Prop} (hgd : o.guard = none) (s x : Operand) (t : TypeId)
    (ho : o.op = .call { callee := .builtin .append, args := #[s, x], argTypes := #[t, t] })
    (e : TypeId) (i : TypeInfo) (z : Value) (size bytes : Nat) (ht : P.underlying t = some (.slice e)) (hi : P.info? e = some i) (hz : i.zero = some z)
    (hsize : i.size = size) (hby : i.bytes = bytes) (hzs : z.cells.size = size) (hsz : 0 < size)
    (v : Value) (n : Nat) (xs : List Value) (hs : a.eval s = v) (hown : w.ownsRow 0 e size v n xs)
    (ad : Addr) (m c : Nat) (news : List Value) (hx : a.eval x = .slice (some ad) m c) (hl : news.length = m * size) (hnews : ∀ j u, news[j]? = some u → w.cell? (ad.add j) = some u) (h1 : ∀ u ∈ news, u.oneCell' = true)
    (h63 : n + m ≤ maxLen) (hbytes : (n + m) * bytes ≤ 140737488355328) (hm : 0 < m)
    (h : ∀ g cp w', w'.ownsRow 0 e size (.slice (some ⟨g, 0, none⟩) (n + m) cp) (n + m) (xs ++ news) → w.grownBy w' v.ownBlock → (v.ownBlock = some g ∨ w.heap.size ≤ g) → wpList P ops Q rest (a.put o.dst (.slice (some ⟨g, 0, none⟩) (n + m) cp)) w') : wpList P ops Q (o :: rest) a w := by
  refine wpList_plain hgd fun K hK => ?_
  obtain ⟨v', w', hr, h2, h3, h4, g, cp, rfl⟩ := run_append_mine (P := P) w t o.type e i z size bytes ht hi hz hsize hby hzs hsz v n xs hown ad m c news hl hnews h1 h63 hbytes hm
  unfold Oper.wp execOp
  simp only [ho, resolve, invoke, builtin, Sem.run_bind, Sem.run_pure, Result.andThen_ok, List.map_toArray, List.map_cons, List.map_nil, hs, hx, hr]
  exact hK _ _ (h g cp w' h2 h3 (h4 g rfl))
end
end Go.Proofs.YtoablodmodnamaaDoor
