/-
  Where a graph lies in the heap; what a call leaves alone; rows of roots and of objects.
-/
import Derived.Test.YtbihdkdefopijaaGp
import Derived.Test.YtbihdkdefopijaaCalls1
import Derived.OwnWalk
import Derived.OneCell
namespace Go.Proofs.Ytbihdkdefopijaa
set_option linter.unusedVariables false
set_option linter.unusedSimpArgs false
open Go.RowKit

/-- all that was there is as it was, but for the blocks F -/
structure Kept (F : List Nat) (w w' : World) : Prop where
  os : w'.os = w.os
  tape : w'.tape = w.tape
  output : w'.output = w.output
  size : w.heap.size ≤ w'.heap.size
  block : ∀ k, k < w.heap.size → k ∉ F → w'.heap[k]? = w.heap[k]?

theorem Kept.refl (F : List Nat) (w : World) : Kept F w w := ⟨rfl, rfl, rfl, Nat.le_refl _, fun _ _ _ => rfl⟩
theorem Kept.trans {F F1 : List Nat} {w w1 w2 : World} (h : Kept F w w1) (h1 : Kept F1 w1 w2) (hs : ∀ k ∈ F1, k ∈ F ∨ w.heap.size ≤ k) : Kept F w w2 :=
  ⟨h1.os.trans h.os, h1.tape.trans h.tape, h1.output.trans h.output, Nat.le_trans h.size h1.size, fun k hk hF => (h1.block k (Nat.lt_of_lt_of_le hk h.size) (fun hk1 => by
    rcases hs k hk1 with h' | h'
    · exact hF h'
    · omega)).trans (h.block k hk hF)⟩
theorem Kept.mono {F F1 : List Nat} {w w1 : World} (h : Kept F w w1) (hs : ∀ k ∈ F, k ∈ F1) : Kept F1 w w1 := ⟨h.os, h.tape, h.output, h.size, fun k hk hF => h.block k hk fun h' => hF (hs k h')⟩
theorem Kept.alloc (F : List Nat) (w : World) (o : Obj) : Kept F w (w.alloc o) := ⟨rfl, rfl, rfl, by simp, fun k hk _ => Below.heap_alloc _ _ _ hk⟩
theorem Kept.drew (F : List Nat) (w : World) : Kept F w w.drew := ⟨rfl, rfl, rfl, Nat.le_refl _, fun _ _ _ => rfl⟩
theorem Kept.setCell (F : List Nat) (w : World) (p : Addr) (u : Value) (hp : p.block ∈ F) : Kept F w (w.setCell p u) :=
  ⟨rfl, rfl, rfl, by simp [World.setCell], fun k _ hF => Below.heap_setCell _ _ _ _ fun e => hF (e ▸ hp)⟩
theorem Kept.grown (F : List Nat) {w w' : World} {row : Option Nat} (h : w.grownBy w' row) (hr : ∀ k, row = some k → k ∈ F) : Kept F w w' :=
  ⟨h.os, h.tape, h.output, h.size, fun k hk hF => h.block k hk fun e => hF (hr k e.symm)⟩
theorem Kept.below {F : List Nat} {w w' : World} {B : Nat} (h : Kept F w w') (hF : ∀ k ∈ F, B ≤ k) (hB : B ≤ w.heap.size) : Below B w w' :=
  ⟨h.os, h.tape, h.output, h.size, fun k hk => h.block k (by omega) fun h' => by have := hF k h'; omega⟩
theorem Kept.of_below {F : List Nat} {w w' : World} (h : Below w.heap.size w w') : Kept F w w' := ⟨h.os, h.tape, h.output, h.size, fun k hk _ => h.block k hk⟩

section
variable {w w' : World}
/-- a row of some call's own stays, where its block is left alone -/
theorem own_kept {F : List Nat} {base : Nat} {e : TypeId} {size : Nat} {v : Value} {n : Nat} {xs : List Value} (h : w.ownsRow base e size v n xs) (k : Kept F w w') (d : ∀ k, v.ownBlock = some k → k ∉ F) : w'.ownsRow base e size v n xs := by
  refine ⟨h.1, ?_⟩
  rcases h.2 with hn | ⟨g, cap, cur, rfl, h1, h2, r⟩
  · exact .inl hn
  · exact .inr ⟨g, cap, cur, rfl, h1, (k.block g (lt_of_block h2) (d g rfl)).trans h2, r⟩
end
section
variable {P : Program} (w : World)
/-- append to a row of the call's own: what the row is then; its block is the old one or a new one -/
theorem run_append_mine (t ty e : TypeId) (i : TypeInfo) (z : Value) (size bytes : Nat) (ht : P.underlying t = some (.slice e)) (hi : P.info? e = some i) (hz : i.zero = some z)
    (hsize : i.size = size) (hby : i.bytes = bytes) (hzs : z.cells.size = size) (hsz : 0 < size)
    (v : Value) (n : Nat) (xs : List Value) (hown : w.ownsRow 0 e size v n xs)
    (a : Addr) (m c : Nat) (news : List Value) (hl : news.length = m * size) (hnews : ∀ j u, news[j]? = some u → w.cell? (a.add j) = some u) (h1 : ∀ u ∈ news, u.oneCell' = true)
    (h63 : n + m ≤ maxLen) (hbytes : (n + m) * bytes ≤ 140737488355328) (hm : 0 < m) :
    ∃ v' w', (Builtin.append_ #[t, t] ty #[v, .slice (some a) m c]).run P w = .ok v' w' ∧ w'.ownsRow 0 e size v' (n + m) (xs ++ news) ∧ w.grownBy w' v.ownBlock ∧
      (∀ k, v'.ownBlock = some k → v.ownBlock = some k ∨ w.heap.size ≤ k) ∧ ∃ g cp, v' = .slice (some ⟨g, 0, none⟩) (n + m) cp := by
  obtain ⟨v', w', hr, h2, h3, h4⟩ := run_append_own (P := P) w 0 t ty e i z size bytes ht hi hz hsize hby hzs hsz v n xs hown a m c news hl hnews h1 h63 hbytes (Nat.zero_le _)
  refine ⟨v', w', hr, h2, h3, ?_, ?_⟩
  · subst hsize
    subst hby
    have h63' : n + m ≤ 9223372036854775807 := by simp only [maxLen] at h63; omega
    rcases hown.2 with ⟨rfl, rfl⟩ | ⟨g, cap, cur, rfl, _, hg, _, _, hcs, _⟩
    · rw [run_append_nil (P := P) w t ty e i z ht hi hz a m c news hl hnews hm (by omega) (by simp only [Nat.zero_add] at hbytes; omega)] at hr
      injection hr with e1 _
      subst e1
      intro k hk
      simp [Value.ownBlock] at hk
      exact .inr (by omega)
    · by_cases hroom : n + m ≤ cap
      · rw [run_append_room (P := P) w t ty e i ht hi g n cap cur hg a m c news hl hnews h1 hroom (by rw [hl, hcs, ← Nat.add_mul]; exact Nat.mul_le_mul_right _ hroom)] at hr
        injection hr with e1 _
        subst e1
        intro k hk
        exact .inl hk
      · rw [run_append_grow (P := P) w t ty e i z ht hi hz ⟨g, 0, none⟩ n cap xs hown.1 (hown.cells (g := g) rfl) a m c news hl hnews (by omega) (by omega) (growslice_fits (by omega) hbytes)] at hr
        injection hr with e1 _
        subst e1
        intro k hk
        simp [Value.ownBlock] at hk
        exact .inr (by omega)
  · rcases h2.2 with ⟨rfl, h⟩ | ⟨g, cap, cur, rfl, _⟩
    · omega
    · exact ⟨g, cap, rfl⟩
/-- the same at the operation -/
theorem wpList_append_mine {ops : Array Oper} {rest : List Oper} {o : Oper} {a : Act} {Q : Exit → Act → World → Prop} (hgd : o.guard = none) (s x : Operand) (t : TypeId)
    (ho : o.op = .call { callee := .builtin .append, args := #[s, x], argTypes := #[t, t] })
    (e : TypeId) (i : TypeInfo) (z : Value) (size bytes : Nat) (ht : P.underlying t = some (.slice e)) (hi : P.info? e = some i) (hz : i.zero = some z)
    (hsize : i.size = size) (hby : i.bytes = bytes) (hzs : z.cells.size = size) (hsz : 0 < size)
    (v : Value) (n : Nat) (xs : List Value) (hs : a.eval s = v) (hown : w.ownsRow 0 e size v n xs)
    (ad : Addr) (m c : Nat) (news : List Value) (hx : a.eval x = .slice (some ad) m c) (hl : news.length = m * size) (hnews : ∀ j u, news[j]? = some u → w.cell? (ad.add j) = some u) (h1 : ∀ u ∈ news, u.oneCell' = true)
    (h63 : n + m ≤ maxLen) (hbytes : (n + m) * bytes ≤ 140737488355328) (hm : 0 < m)
    (h : ∀ g cp w', w'.ownsRow 0 e size (.slice (some ⟨g, 0, none⟩) (n + m) cp) (n + m) (xs ++ news) → w.grownBy w' v.ownBlock → (v.ownBlock = some g ∨ w.heap.size ≤ g) → wpList P ops Q rest (a.put o.dst (.slice (some ⟨g, 0, none⟩) (n + m) cp)) w') : wpList P ops Q (o :: rest) a w := by
  refine wpList_plain hgd fun K hK => ?_
  obtain ⟨v', w', hr, h2, h3, h4, g, cp, rfl⟩ := run_append_mine (P := P) w t o.type e i z size bytes ht hi hz hsize hby hzs hsz v n xs hown ad m c news hl hnews h1 h63 hbytes hm
  unfold Oper.wp execOp
  simp only [ho, resolve, invoke, builtin, Sem.run_bind, Sem.run_pure, Result.andThen_ok, List.map_toArray, List.map_cons, List.map_nil, hs, hx, hr]
  exact hK _ _ (h g cp w' h2 h3 (h4 g rfl))
end

/-- roots as a row, by value -/
def rl (r : List Int) : Nat → Int := fun i => r.getD i 0
abbrev rvl (r : List Int) : Value := rv r.length (rl r)
def rcs (r : List Int) : List Value := [.int .i64 r.length, .int .i64 (rl r 0), .int .i64 (rl r 1), .int .i64 (rl r 2), .int .i64 (rl r 3), .int .i64 (rl r 4), .int .i64 (rl r 5), .int .i64 (rl r 6), .int .i64 (rl r 7)]
def tcells : List (List Int) → List Value
  | [] => []
  | r :: ts => rcs r ++ tcells ts
/-- an object's fields -/
def fk (o : List (Int × Int)) (j : Nat) : Int := (o.getD j (0, 0)).1
def fn (o : List (Int × Int)) (j : Nat) : Int := (o.getD j (0, 0)).2
def ocs (o : List (Int × Int)) : List Value := [.int .i64 o.length, .int .i64 (fk o 0), .int .i64 (fn o 0), .int .i64 (fk o 1), .int .i64 (fn o 1), .int .i64 (fk o 2), .int .i64 (fn o 2), .int .i64 (fk o 3), .int .i64 (fn o 3), .int .i64 (fk o 4), .int .i64 (fn o 4), .int .i64 (fk o 5), .int .i64 (fn o 5), .int .i64 (fk o 6), .int .i64 (fn o 6)]
def ocells : List (List (Int × Int)) → List Value
  | [] => []
  | o :: os => ocs o ++ ocells os
theorem tcells_append (a b : List (List Int)) : tcells (a ++ b) = tcells a ++ tcells b := by
  induction a with
  | nil => rfl
  | cons x r ih => simp [tcells, ih]
theorem ocells_append (a b : List (List (Int × Int))) : ocells (a ++ b) = ocells a ++ ocells b := by
  induction a with
  | nil => rfl
  | cons x r ih => simp [ocells, ih]
theorem tcells_length (a : List (List Int)) : (tcells a).length = a.length * 9 := by
  induction a with
  | nil => rfl
  | cons x r ih => simp only [tcells, List.length_append, ih, List.length_cons, rcs, List.length_nil]; omega
theorem ocells_length (a : List (List (Int × Int))) : (ocells a).length = a.length * 15 := by
  induction a with
  | nil => rfl
  | cons x r ih => simp only [ocells, List.length_append, ih, List.length_cons, ocs, List.length_nil]; omega
theorem tcells_at (ts : List (List Int)) : ∀ (k : Nat) (r : List Int) (j : Nat), ts[k]? = some r → j < 9 → (tcells ts)[k * 9 + j]? = (rcs r)[j]? := by
  induction ts with
  | nil => intro k r j h; simp at h
  | cons y q ih =>
    intro k r j h hj
    have hl : (rcs y).length = 9 := rfl
    cases k with
    | zero =>
      simp at h
      subst h
      simp only [tcells]
      rw [List.getElem?_append_left (by omega)]
      simp
    | succ k =>
      simp only [tcells]
      rw [List.getElem?_append_right (by omega), hl, show (k + 1) * 9 + j - 9 = k * 9 + j by omega]
      exact ih k r j (by simpa using h) hj
theorem ocells_at (os : List (List (Int × Int))) : ∀ (k : Nat) (o : List (Int × Int)) (j : Nat), os[k]? = some o → j < 15 → (ocells os)[k * 15 + j]? = (ocs o)[j]? := by
  induction os with
  | nil => intro k r j h; simp at h
  | cons y q ih =>
    intro k r j h hj
    have hl : (ocs y).length = 15 := rfl
    cases k with
    | zero =>
      simp at h
      subst h
      simp only [ocells]
      rw [List.getElem?_append_left (by omega)]
      simp
    | succ k =>
      simp only [ocells]
      rw [List.getElem?_append_right (by omega), hl, show (k + 1) * 15 + j - 15 = k * 15 + j by omega]
      exact ih k r j (by simpa using h) hj
/-- roots laid over a row's place -/
theorem tcells_set (ts : List (List Int)) (q : List Int) : ∀ k : Nat, k < ts.length → ((((((((((tcells ts).set (k * 9) (.int .i64 q.length)).set (k * 9 + 1) (.int .i64 (rl q 0))).set (k * 9 + 2) (.int .i64 (rl q 1))).set (k * 9 + 3) (.int .i64 (rl q 2))).set (k * 9 + 4) (.int .i64 (rl q 3))).set (k * 9 + 5) (.int .i64 (rl q 4))).set (k * 9 + 6) (.int .i64 (rl q 5))).set (k * 9 + 7) (.int .i64 (rl q 6))).set (k * 9 + 8) (.int .i64 (rl q 7))) = tcells (ts.set k q) := by
  induction ts with
  | nil => intro k h; simp at h
  | cons y r ih =>
    intro k h
    have hl : (rcs y).length = 9 := rfl
    cases k with
    | zero => simp [tcells, rcs]
    | succ k =>
      have := ih k (by simpa using h)
      simp only [tcells, List.set_cons_succ]
      rw [← this]
      have e : ∀ (j : Nat) (l : List Value) (v : Value), (rcs y ++ l).set ((k + 1) * 9 + j) v = rcs y ++ l.set (k * 9 + j) v := fun j l v => by
        rw [List.set_append_right _ _ (by omega), hl, show (k + 1) * 9 + j - 9 = k * 9 + j by omega]
      have e0 : ∀ (l : List Value) (v : Value), (rcs y ++ l).set ((k + 1) * 9) v = rcs y ++ l.set (k * 9) v := fun l v => e 0 l v
      rw [e0, e, e, e, e, e, e, e, e]
theorem ocs_set (o : List (Int × Int)) (f : Nat) (hf : f < o.length) (h7 : f < 7) (v : Int × Int) : ((ocs o).set (1 + f * 2) (.int .i64 v.1)).set (1 + f * 2 + 1) (.int .i64 v.2) = ocs (o.set f v) := by
  have hk : ∀ j, fk (o.set f v) j = if j = f then v.1 else fk o j := fun j => by
    unfold fk
    by_cases e : j = f
    · subst e; simp [List.getD_eq_getElem?_getD, hf]
    · simp [List.getD_eq_getElem?_getD, e, List.getElem?_set_ne (Ne.symm e)]
  have hn : ∀ j, fn (o.set f v) j = if j = f then v.2 else fn o j := fun j => by
    unfold fn
    by_cases e : j = f
    · subst e; simp [List.getD_eq_getElem?_getD, hf]
    · simp [List.getD_eq_getElem?_getD, e, List.getElem?_set_ne (Ne.symm e)]
  match f, h7 with
  | 0, _ => simp [ocs, hk, hn]
  | 1, _ => simp [ocs, hk, hn]
  | 2, _ => simp [ocs, hk, hn]
  | 3, _ => simp [ocs, hk, hn]
  | 4, _ => simp [ocs, hk, hn]
  | 5, _ => simp [ocs, hk, hn]
  | 6, _ => simp [ocs, hk, hn]
theorem ocells_set (os : List (List (Int × Int))) (v : Int × Int) (f : Nat) (h7 : f < 7) : ∀ (k : Nat) (o : List (Int × Int)), os[k]? = some o → f < o.length → ((ocells os).set (k * 15 + (1 + f * 2)) (.int .i64 v.1)).set (k * 15 + (1 + f * 2) + 1) (.int .i64 v.2) = ocells (os.set k (o.set f v)) := by
  induction os with
  | nil => intro k o h; simp at h
  | cons y r ih =>
    intro k o h hf
    have hl : (ocs y).length = 15 := rfl
    cases k with
    | zero =>
      simp at h
      subst h
      simp only [ocells, List.set_cons_zero, Nat.zero_mul, Nat.zero_add]
      rw [List.set_append_left _ _ (by omega), List.set_append_left _ _ (by simp; omega), ocs_set y f hf h7 v]
    | succ k =>
      have := ih k o (by simpa using h) hf
      simp only [ocells, List.set_cons_succ]
      rw [← this]
      have e : ∀ (j : Nat) (l : List Value) (u : Value), (ocs y ++ l).set ((k + 1) * 15 + j) u = ocs y ++ l.set (k * 15 + j) u := fun j l u => by
        rw [List.set_append_right _ _ (by omega), hl, show (k + 1) * 15 + j - 15 = k * 15 + j by omega]
      rw [show (k + 1) * 15 + (1 + f * 2) + 1 = (k + 1) * 15 + (1 + f * 2 + 1) from rfl, show k * 15 + (1 + f * 2) + 1 = k * 15 + (1 + f * 2 + 1) from rfl, e, e]

/-- where a graph lies -/
structure Loc where
  b : Nat
  tg : Nat
  tc : Nat
  vo : Value
def Loc.fp (L : Loc) : List Nat := L.b :: L.tg :: L.vo.ownBlock.toList
structure GAt (w : World) (L : Loc) (g : Gr) : Prop where
  blk : w.heap[L.b]? = some (.cells #[.slice (some ⟨L.tg, 0, none⟩) g.ts.length L.tc, L.vo] 65 (0, 0))
  thr : w.ownsRow 0 72 9 (.slice (some ⟨L.tg, 0, none⟩) g.ts.length L.tc) g.ts.length (tcells g.ts)
  obj : w.ownsRow 0 77 15 L.vo g.os.length (ocells g.os)
  non : g.os = [] → L.vo = .slice none 0 0

section
variable {w w' : World} {L M : Loc} {g : Gr}
theorem GAt.cell0 (h : GAt w L g) : w.cell? ⟨L.b, 0, none⟩ = some (.slice (some ⟨L.tg, 0, none⟩) g.ts.length L.tc) := by rw [cell_of_row w _ _ _ _ _ h.blk]; rfl
theorem GAt.cell1 (h : GAt w L g) : w.cell? ⟨L.b, 1, none⟩ = some L.vo := by rw [cell_of_row w _ _ _ _ _ h.blk]; rfl
theorem GAt.free (h : GAt w L g) (j : Nat) : w.frozen? ⟨L.b, j, none⟩ = false := frozen_of_row w _ _ _ _ h.blk
theorem GAt.tfree (h : GAt w L g) (j : Nat) : w.frozen? ⟨L.tg, j, none⟩ = false := h.thr.frozenAt j
theorem GAt.tblk (h : GAt w L g) : ∃ cur, w.heap[L.tg]? = some (.cells cur 72 (0, 0)) := by
  rcases h.thr.2 with ⟨h', _⟩ | ⟨g, cp, cur, h', _, hg, _⟩
  · simp at h'
  · simp only [Value.slice.injEq, Option.some.injEq, Addr.mk.injEq, and_true, true_and] at h'
    obtain ⟨rfl, rfl⟩ := h'
    exact ⟨cur, hg⟩
theorem GAt.oblk (h : GAt w L g) (k : Nat) (hk : L.vo.ownBlock = some k) : ∃ cur, w.heap[k]? = some (.cells cur 77 (0, 0)) := by
  rcases h.obj.2 with ⟨h', _⟩ | ⟨g, cp, cur, h', _, hg, _⟩
  · rw [h'] at hk; simp [Value.ownBlock] at hk
  · rw [h'] at hk; simp [Value.ownBlock] at hk; subst hk; exact ⟨cur, hg⟩
theorem GAt.kind (h : GAt w L g) (k : Nat) (hk : k ∈ L.fp) : ∃ cur T', w.heap[k]? = some (.cells cur T' (0, 0)) ∧ (T' = 65 ∨ T' = 72 ∨ T' = 77) := by
  simp only [Loc.fp, List.mem_cons, Option.mem_toList] at hk
  rcases hk with rfl | rfl | hk
  · exact ⟨_, _, h.blk, .inl rfl⟩
  · obtain ⟨cur, hc⟩ := h.tblk
    exact ⟨_, _, hc, .inr (.inl rfl)⟩
  · obtain ⟨cur, hc⟩ := h.oblk k hk
    exact ⟨_, _, hc, .inr (.inr rfl)⟩
theorem GAt.lt (h : GAt w L g) : ∀ k ∈ L.fp, k < w.heap.size := fun k hk => by
  obtain ⟨_, _, e, _⟩ := h.kind k hk
  exact lt_of_block e
theorem GAt.bt (h : GAt w L g) : L.b ≠ L.tg := fun e => by
  obtain ⟨cur, hc⟩ := h.tblk
  have hb := h.blk
  rw [e, hc] at hb
  simp at hb
theorem GAt.bo (h : GAt w L g) : L.vo.ownBlock ≠ some L.b := fun e => by
  obtain ⟨cur, hc⟩ := h.oblk _ e
  have hb := h.blk
  rw [hc] at hb
  simp at hb
theorem GAt.to (h : GAt w L g) : L.vo.ownBlock ≠ some L.tg := fun e => by
  obtain ⟨cur, hc⟩ := h.oblk _ e
  obtain ⟨cur', hc'⟩ := h.tblk
  rw [hc] at hc'
  simp at hc'
theorem GAt.on {F : List Nat} (h : GAt w M g) (k : Kept F w w') (d : ∀ k ∈ M.fp, k ∉ F) : GAt w' M g where
  blk := (k.block _ (lt_of_block h.blk) (d _ (by simp [Loc.fp]))).trans h.blk
  thr := own_kept h.thr k fun j hj => by simp [Value.ownBlock] at hj; subst hj; exact d _ (by simp [Loc.fp])
  obj := own_kept h.obj k fun j hj => d _ (by simp [Loc.fp, hj])
  non := h.non
theorem GAt.below (h : GAt w M g) (k : Below w.heap.size w w') : GAt w' M g := h.on (Kept.of_below (F := []) k) fun _ _ => by simp
theorem GAt.alloc (h : GAt w M g) (o : Obj) : GAt (w.alloc o) M g := h.on (Kept.alloc [] w o) fun _ _ => by simp
theorem GAt.drew (h : GAt w M g) : GAt w.drew M g := h.on (Kept.drew [] w) fun _ _ => by simp
theorem GAt.new_notin (h : GAt w L g) {k : Nat} (hk : w.heap.size ≤ k) : k ∉ L.fp := fun h' => by have := h.lt k h'; omega
/-- the cells of a thread's roots -/
theorem GAt.tcell (h : GAt w L g) (k : Nat) (hk : k < g.ts.length) (j : Nat) (hj : j < 9) : w.cell? ⟨L.tg, k * 9 + j, none⟩ = (rcs (g.ts.getD k []))[j]? := by
  have e : g.ts[k]? = some (g.ts.getD k []) := by simp [List.getD_eq_getElem?_getD, hk]
  rw [h.thr.cellAt (k * 9 + j) (by omega), tcells_at g.ts k _ j e hj]
/-- the cells of an object -/
theorem GAt.oslice (h : GAt w L g) (hn : 0 < g.os.length) : ∃ og oc, L.vo = .slice (some ⟨og, 0, none⟩) g.os.length oc := by
  rcases h.obj.2 with ⟨_, h0⟩ | ⟨og, oc, _, h', _⟩
  · omega
  · exact ⟨og, oc, h'⟩
theorem GAt.ocell (h : GAt w L g) {og oc : Nat} (hv : L.vo = .slice (some ⟨og, 0, none⟩) g.os.length oc) (k : Nat) (hk : k < g.os.length) (j : Nat) (hj : j < 15) : w.cell? ⟨og, k * 15 + j, none⟩ = (ocs (g.os.getD k []))[j]? := by
  have e : g.os[k]? = some (g.os.getD k []) := by simp [List.getD_eq_getElem?_getD, hk]
  have h' := h.obj
  rw [hv] at h'
  rw [h'.cellAt (k * 15 + j) (by omega), ocells_at g.os k _ j e hj]
theorem GAt.ofree (h : GAt w L g) {og oc n : Nat} (hv : L.vo = .slice (some ⟨og, 0, none⟩) n oc) (j : Nat) : w.frozen? ⟨og, j, none⟩ = false := by
  have h' := h.obj
  rcases h'.2 with ⟨h0, _⟩ | ⟨og', oc', cur, h1, _, hg, _⟩
  · rw [hv] at h0; simp at h0
  · rw [hv] at h1
    simp at h1
    obtain ⟨rfl, _⟩ := h1
    exact frozen_of_row w _ _ _ _ hg
end

/-- from one place of a graph to the next: its own blocks alone are written, it takes new ones alone -/
structure Step (w : World) (L : Loc) (w' : World) (L' : Loc) : Prop where
  kept : Kept L.fp w w'
  new : ∀ k ∈ L'.fp, k ∈ L.fp ∨ w.heap.size ≤ k
  b : L'.b = L.b
theorem Step.refl (w : World) (L : Loc) : Step w L w L := ⟨Kept.refl _ _, fun _ h => .inl h, rfl⟩
theorem Step.trans {w w1 w2 : World} {L L1 L2 : Loc} (h : Step w L w1 L1) (h1 : Step w1 L1 w2 L2) : Step w L w2 L2 :=
  ⟨h.kept.trans h1.kept h.new, fun k hk => (h1.new k hk).elim (h.new k) fun hk' => .inr (Nat.le_trans h.kept.size hk'), h1.b.trans h.b⟩
theorem Step.apart {w w1 : World} {L L1 M : Loc} {s' : Gr} (h : Step w L w1 L1) (hM : GAt w M s') (d : ∀ k ∈ M.fp, k ∉ L.fp) : GAt w1 M s' ∧ ∀ k ∈ M.fp, k ∉ L1.fp :=
  ⟨hM.on h.kept d, fun k hk hk1 => (h.new k hk1).elim (d k hk) fun h' => by have := hM.lt k hk; omega⟩
theorem Step.from {w w1 : World} {L L1 : Loc} {B : Nat} (h : Step w L w1 L1) (hL : ∀ k ∈ L.fp, B ≤ k) (hB : B ≤ w.heap.size) : Below B w w1 ∧ ∀ k ∈ L1.fp, B ≤ k :=
  ⟨h.kept.below hL hB, fun k hk => (h.new k hk).elim (hL k) fun h' => by omega⟩
theorem Step.of_below {w w' : World} {L : Loc} (h : Below w.heap.size w w') : Step w L w' L := ⟨Kept.of_below h, fun _ h => .inl h, rfl⟩
theorem Step.after {w w1 w2 : World} {L L' : Loc} (k : Kept L.fp w w1) (h : Step w1 L w2 L') : Step w L w2 L' :=
  ⟨k.trans h.kept fun _ hk => .inl hk, fun j hj => (h.new j hj).imp id fun h' => Nat.le_trans k.size h', h.b⟩
end Go.Proofs.Ytbihdkdefopijaa
