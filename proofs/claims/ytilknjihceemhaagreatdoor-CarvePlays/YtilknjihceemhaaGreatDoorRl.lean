/-
  Four workers of the law on steps in any order: where they lie.
-/
import Derived.Test.YtilknjihceemhaaGreatDoorRy
namespace Go.Proofs.YtilknjihceemhaaGreatDoor
set_option linter.unusedVariables false
set_option maxRecDepth 100000
open Go.ChangeShapes Go.WideShapes Go.RowKit
open S.Plain (t0 t1 tw nx bw b3)
open H.Plain (hw pL)

def nums (l : List Int) : List Value := l.map (.int .i64)
theorem nums_length (l : List Int) : (nums l).length = l.length := by simp [nums]
theorem nums_one (l : List Int) : ∀ u ∈ nums l, u.oneCell' = true := fun u hu => by
  simp [nums] at hu
  obtain ⟨y, _, rfl⟩ := hu
  rfl
theorem nums_append (l m : List Int) : nums (l ++ m) = nums l ++ nums m := by simp [nums]

/-- a row of numbers of the law's own -/
structure RowI (w0 w : World) (v : Value) (l : List Int) : Prop where
  row : w.ownsRow 0 3 1 v l.length (nums l)
  old : ∀ k, v.ownBlock = some k → w0.heap.size ≤ k
section
variable {w0 w w' : World} {v : Value} {l : List Int} {F : List Nat}
theorem RowI.nil (w0 w : World) : RowI w0 w (.slice none 0 0) [] := ⟨⟨rfl, .inl ⟨rfl, rfl⟩⟩, fun k h => by simp [Value.ownBlock] at h⟩
theorem RowI.oth (h : RowI w0 w v l) (o : Oth F w w') (d : ∀ k, v.ownBlock = some k → k ∉ F) : RowI w0 w' v l := ⟨own_oth h.row o (by decide) d, h.old⟩
theorem RowI.blk (h : RowI w0 w v l) {k : Nat} (hk : v.ownBlock = some k) : ∃ cs, w.heap[k]? = some (.cells cs 3 (0, 0)) := by
  rcases h.row.2 with ⟨h', _⟩ | ⟨g, cp, cur, h', _, hg, _⟩
  · rw [h'] at hk; simp [Value.ownBlock] at hk
  · rw [h'] at hk; simp [Value.ownBlock] at hk; subst hk; exact ⟨cur, hg⟩
theorem RowI.slice (h : RowI w0 w v l) : ∃ ao cp, v = .slice ao l.length cp ∧ (l ≠ [] → ∃ g, ao = some ⟨g, 0, none⟩) := by
  rcases h.row.2 with ⟨h', hn⟩ | ⟨g, cp, cur, h', _, hg, _⟩
  · exact ⟨none, 0, by rw [h', hn], fun hl => absurd (List.length_eq_zero_iff.1 hn) hl⟩
  · exact ⟨_, cp, h', fun _ => ⟨g, rfl⟩⟩
theorem RowI.cell {g cp : Nat} (h : RowI w0 w (.slice (some ⟨g, 0, none⟩) l.length cp) l) {j : Nat} {x : Int} (hj : l[j]? = some x) : w.cell? ⟨g, j, none⟩ = some (.int .i64 x) := by
  have hlt := (List.getElem?_eq_some_iff.1 hj).1
  rw [h.row.cellAt j (by omega), nums, List.getElem?_map, hj]
  rfl
theorem RowI.of_own {g n cp : Nat} {xs : List Value} (h : w.ownsRow 0 3 1 (.slice (some ⟨g, 0, none⟩) n cp) n xs) (hn : n = l.length) (hx : xs = nums l) (hg : w0.heap.size ≤ g) : RowI w0 w (.slice (some ⟨g, 0, none⟩) n cp) l := by
  subst hn hx
  exact ⟨h, fun k hk => by simp [Value.ownBlock] at hk; omega⟩
end
theorem infoInt : (Tryz.prog.info? 3).map (fun i => (i.zero, i.size, i.bytes)) = some (some (.int .i64 0), 1, 8) := by kernel_rfl
/-- one new cell -/
theorem new1 (W : World) (k : Nat) (hk : W.heap.size = k) (x : Value) (T : TypeId) : ∀ j u, [x][j]? = some u → (W.alloc (.cells #[x] T)).cell? ((⟨k, 0, none⟩ : Addr).add j) = some u := by
  intro j u hu
  subst hk
  match j, hu with
  | 0, hu => simp at hu; subst hu; simp [Addr.add, go_sem]
section
variable {P : Program} (w : World)
/-- nothing is appended -/
theorem wpList_append_none {ops : Array Oper} {rest : List Oper} {o : Oper} {a : Act} {Q : Exit → Act → World → Prop} (hgd : o.guard = none) (s x : Operand) (t : TypeId)
    (ho : o.op = .call { callee := .builtin .append, args := #[s, x], argTypes := #[t, t] })
    (e : TypeId) (i : TypeInfo) (ht : P.underlying t = some (.slice e)) (hi : P.info? e = some i)
    (base : Option Addr) (n cap : Nat) (hle : n ≤ cap) (ao : Option Addr) (c : Nat) (hs : a.eval s = .slice base n cap) (hx : a.eval x = .slice ao 0 c)
    (h : wpList P ops Q rest (a.put o.dst (.slice base n cap)) w) : wpList P ops Q (o :: rest) a w := by
  refine wpList_plain hgd fun K hK => ?_
  have hr : (Builtin.append_ #[t, t] o.type #[.slice base n cap, .slice ao 0 c]).run P w = .ok (.slice base n cap) w := by
    cases base <;> cases ao <;> simp [Builtin.append_, run_underlying ht, sizeOf, typeInfo, hi, hle, storeCells, loadCells, Builtin.lenOf, Builtin.firstCells, loadCellsFrom]
  unfold Oper.wp execOp
  simp only [ho, resolve, invoke, builtin, Sem.run_bind, Sem.run_pure, Result.andThen_ok, List.map_toArray, List.map_cons, List.map_nil, hs, hx, hr]
  exact hK _ _ h
end

/-- what a worker has under way -/
inductive Job where
  | idle
  | take (x : TakeS)
  | give (x : GiveS)
/-- a worker: its job; where the program's machine and the reference's lie, and the reference's Push; what else its cells hold; the blocks that it has -/
structure Wk where
  job : Job
  pm : Nat
  rm : Nat
  Q : Option Nat
  v2 : Value
  v3 : Value
  vh : Value
  hs : List Int
def ptr (p : Nat) : Value := .pointer (some ⟨p, 0, none⟩)
def Wk.cell (t : Wk) : Nat → Value
  | 0 => match t.job with | .take _ => ptr t.pm | _ => .pointer none
  | 1 => match t.job with | .give _ => ptr t.pm | _ => .pointer none
  | 2 => match t.job with | .take _ => ptr t.rm | _ => t.v2
  | 3 => match t.job with | .give _ => ptr t.rm | _ => t.v3
  | _ => t.vh
def Wk.mps (t : Wk) : List Nat := match t.job with | .idle => [] | .take _ => t.pm :: t.rm :: t.Q.toList | .give _ => [t.pm, t.rm]
def Wk.fp (t : Wk) : List Nat := t.mps ++ t.vh.ownBlock.toList
def Wk.Mach (w0 w : World) (t : Wk) : Prop :=
  match t.job with
  | .idle => True
  | .take x => Blk w0 w t.pm 79 x.cells ∧ x.Ok ∧ 1 ≤ x.pc ∧ RTk w0 w t.rm t.Q x
  | .give x => Blk w0 w t.pm 101 x.cells ∧ x.Ok ∧ 1 ≤ x.pc ∧ Blk w0 w t.rm 103 x.rcells
structure Wk.Is (w0 w : World) (t : Wk) : Prop where
  mach : t.Mach w0 w
  row : RowI w0 w t.vh t.hs
  bnd : ∀ a ∈ t.hs, -1 ≤ a ∧ a ≤ 100
section
variable {w0 w w' : World} {t : Wk} {F : List Nat}
theorem Wk.Mach.oth (h : t.Mach w0 w) (o : Oth F w w') (d : ∀ x ∈ t.mps, x ∉ F) : t.Mach w0 w' := by
  obtain ⟨job, pm, rm, Q, v2, v3, vh, hs⟩ := t
  cases job with
  | idle => trivial
  | take x =>
    obtain ⟨h1, h2, h3, h4⟩ := h
    exact ⟨h1.oth o (d pm (by simp [Wk.mps])), h2, h3, h4.oth o (d rm (by simp [Wk.mps])) fun k hk => d k (by simp only at hk; simp [Wk.mps, hk])⟩
  | give x =>
    obtain ⟨h1, h2, h3, h4⟩ := h
    exact ⟨h1.oth o (d pm (by simp [Wk.mps])), h2, h3, h4.oth o (d rm (by simp [Wk.mps]))⟩
theorem Wk.Is.oth (h : t.Is w0 w) (o : Oth F w w') (d : ∀ x ∈ t.fp, x ∉ F) : t.Is w0 w' :=
  ⟨h.mach.oth o fun x hx => d x (by simp [Wk.fp, hx]), h.row.oth o fun k hk => d k (by simp [Wk.fp, hk]), h.bnd⟩
/-- each block of a worker, by its kind -/
theorem Wk.Is.kind (h : t.Is w0 w) : ∀ x ∈ t.fp, ∃ cs T, w.heap[x]? = some (.cells cs T (0, 0)) ∧ T ∈ [79, 101, 68, 103, 128, 3] := by
  intro x hx
  simp only [Wk.fp, List.mem_append, Option.mem_toList] at hx
  rcases hx with hx | hx
  · obtain ⟨job, pm, rm, Q, v2, v3, vh, hs⟩ := t
    have hm := h.mach
    cases job with
    | idle => simp [Wk.mps] at hx
    | take y =>
      obtain ⟨h1, h2, h3, h4⟩ := hm
      simp only [Wk.mps, List.mem_cons, Option.mem_toList] at hx
      rcases hx with rfl | rfl | hx
      · exact ⟨_, _, h1.at_, by simp⟩
      · exact ⟨_, _, h4.blk.at_, by simp⟩
      · exact ⟨_, _, (h4.psh x hx).at_, by simp⟩
    | give y =>
      obtain ⟨h1, h2, h3, h4⟩ := hm
      simp [Wk.mps] at hx
      rcases hx with rfl | rfl
      · exact ⟨_, _, h1.at_, by simp⟩
      · exact ⟨_, _, h4.at_, by simp⟩
  · obtain ⟨cs, hc⟩ := h.row.blk hx
    exact ⟨_, _, hc, by simp⟩
theorem Wk.Is.lt (h : t.Is w0 w) : ∀ x ∈ t.fp, x < w.heap.size := fun x hx => by
  obtain ⟨_, _, hc, _⟩ := h.kind x hx
  exact lt_of_block hc
/-- a block of yet another kind is none of a worker's -/
theorem Wk.Is.ne (h : t.Is w0 w) {B : Nat} {T : TypeId} {cs : Array Value} (hB : Blk w0 w B T cs) (hT : T ∉ [79, 101, 68, 103, 128, 3]) : B ∉ t.fp := fun hx => by
  obtain ⟨c', T', hc, hm⟩ := h.kind B hx
  have := hB.at_
  rw [hc] at this
  simp at this
  exact hT (this.2 ▸ hm)
end

def updW (wk : Nat → Wk) (k : Nat) (t : Wk) : Nat → Wk := fun j => if j = k then t else wk j
structure Team (w0 w : World) (B : Nat) (wk : Nat → Wk) (M : Nat) : Prop where
  arr : ∃ cs, Blk w0 w B 40 cs ∧ cs.size = 20 ∧ ∀ k, k < 4 → ∀ i, i < 5 → cs[k * 5 + i]? = some ((wk k).cell i)
  is : ∀ k, k < 4 → (wk k).Is w0 w
  apart : ∀ j, j < 4 → ∀ k, k < 4 → j ≠ k → ∀ x ∈ (wk j).fp, x ∉ (wk k).fp
  len : ∀ k, k < 4 → (wk k).hs.length ≤ M
section
variable {w0 w w' : World} {B k M M' : Nat} {wk : Nat → Wk} {t : Wk}
theorem Team.below (h : Team w0 w B wk M) (hb : Below w.heap.size w w') : Team w0 w' B wk M := by
  obtain ⟨⟨cs, hB, hs, hc⟩, h1, h2, h3⟩ := h
  exact ⟨⟨cs, hB.below hb, hs, hc⟩, fun k hk => (h1 k hk).oth (F := []) (Oth.below hb) (by simp), h2, h3⟩
/-- one worker has moved on -/
theorem Team.upd (h : Team w0 w B wk M) (hk : k < 4) {cs cs' : Array Value} (hB : Blk w0 w B 40 cs) (hB' : Blk w0 w' B 40 cs') (hs : cs'.size = 20)
    (hsame : ∀ j, j < 4 → j ≠ k → ∀ i, i < 5 → cs'[j * 5 + i]? = cs[j * 5 + i]?) (hnew : ∀ i, i < 5 → cs'[k * 5 + i]? = some (t.cell i))
    (o : Oth (B :: (wk k).fp) w w') (ht : t.Is w0 w') (hfp : ∀ x ∈ t.fp, x ∈ (wk k).fp ∨ w.heap.size ≤ x) (hM : M ≤ M') (hl : t.hs.length ≤ M') : Team w0 w' B (updW wk k t) M' := by
  obtain ⟨⟨c0, hB0, hs0, hc⟩, h1, h2, h3⟩ := h
  obtain rfl : c0 = cs := by have := hB0.at_; rw [hB.at_] at this; simp at this; exact this.symm
  refine ⟨⟨cs', hB', hs, fun j hj i hi => ?_⟩, fun j hj => ?_, fun i hi j hj hij => ?_, fun j hj => ?_⟩
  · unfold Go.Proofs.YtilknjihceemhaaGreatDoor.updW
    split
    · subst j; exact hnew i hi
    · rw [hsame j hj (by assumption) i hi]; exact hc j hj i hi
  · unfold Go.Proofs.YtilknjihceemhaaGreatDoor.updW
    split
    · exact ht
    · refine (h1 j hj).oth o fun x hx hF => ?_
      simp only [List.mem_cons] at hF
      rcases hF with rfl | hF
      · exact (h1 j hj).ne hB (by decide) hx
      · exact h2 j hj k hk (by assumption) x hx hF
  · unfold Go.Proofs.YtilknjihceemhaaGreatDoor.updW
    split
    · split
      · omega
      · intro x hx hx'
        rcases hfp x hx with h' | h'
        · exact h2 k hk j hj (by omega) x h' hx'
        · have := (h1 j hj).lt x hx'; omega
    · split
      · intro x hx hx'
        rcases hfp x hx' with h' | h'
        · exact h2 i hi k hk (by assumption) x hx h'
        · have := (h1 i hi).lt x hx; omega
      · exact h2 i hi j hj hij
  · unfold Go.Proofs.YtilknjihceemhaaGreatDoor.updW
    split
    · exact hl
    · have := h3 j hj; omega
end
end Go.Proofs.YtilknjihceemhaaGreatDoor
