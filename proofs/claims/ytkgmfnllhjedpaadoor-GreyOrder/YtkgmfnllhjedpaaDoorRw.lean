/-
  A row of numbers of a law's own.
-/
import Derived.Test.YtkgmfnllhjedpaaDoorLh
namespace Go.Proofs.YtkgmfnllhjedpaaDoor
set_option linter.unusedVariables false
set_option maxRecDepth 100000
open Go.ChangeShapes Go.WideShapes Go.RowKit

def nums (l : List Int) : List Value := l.map (.int .i64)
theorem nums_length (l : List Int) : (nums l).length = l.length := by simp [nums]
theorem nums_one (l : List Int) : ∀ u ∈ nums l, u.oneCell' = true := fun u hu => by
  simp [nums] at hu
  obtain ⟨y, _, rfl⟩ := hu
  rfl
theorem nums_append (l m : List Int) : nums (l ++ m) = nums l ++ nums m := by simp [nums]

/-- a row of numbers of the law's own -/
structure RowI (w0 w : World) (v : Value) (l : List Int) : Prop where
  row : w.ownsRow 0 3 1 v l.length (nums l)
  old : ∀ k, v.ownBlock = some k → w0.heap.size ≤ k
section
variable {w0 w w' : World} {v : Value} {l : List Int} {F : List Nat}
theorem RowI.nil (w0 w : World) : RowI w0 w (.slice none 0 0) [] := ⟨⟨rfl, .inl ⟨rfl, rfl⟩⟩, fun k h => by simp [Value.ownBlock] at h⟩
theorem RowI.oth (h : RowI w0 w v l) (o : Oth F w w') (d : ∀ k, v.ownBlock = some k → k ∉ F) : RowI w0 w' v l := ⟨own_oth h.row o (by decide) d, h.old⟩
theorem RowI.blk (h : RowI w0 w v l) {k : Nat} (hk : v.ownBlock = some k) : ∃ cs, w.heap[k]? = some (.cells cs 3 (0, 0)) := by
  rcases h.row.2 with ⟨h', _⟩ | ⟨g, cp, cur, h', _, hg, _⟩
  · rw [h'] at hk; simp [Value.ownBlock] at hk
  · rw [h'] at hk; simp [Value.ownBlock] at hk; subst hk; exact ⟨cur, hg⟩
theorem RowI.slice (h : RowI w0 w v l) : ∃ ao cp, v = .slice ao l.length cp ∧ (l ≠ [] → ∃ g, ao = some ⟨g, 0, none⟩) := by
  rcases h.row.2 with ⟨h', hn⟩ | ⟨g, cp, cur, h', _, hg, _⟩
  · exact ⟨none, 0, by rw [h', hn], fun hl => absurd (List.length_eq_zero_iff.1 hn) hl⟩
  · exact ⟨_, cp, h', fun _ => ⟨g, rfl⟩⟩
theorem RowI.cell {g cp : Nat} (h : RowI w0 w (.slice (some ⟨g, 0, none⟩) l.length cp) l) {j : Nat} {x : Int} (hj : l[j]? = some x) : w.cell? ⟨g, j, none⟩ = some (.int .i64 x) := by
  have hlt := (List.getElem?_eq_some_iff.1 hj).1
  rw [h.row.cellAt j (by omega), nums, List.getElem?_map, hj]
  rfl
theorem RowI.of_own {g n cp : Nat} {xs : List Value} (h : w.ownsRow 0 3 1 (.slice (some ⟨g, 0, none⟩) n cp) n xs) (hn : n = l.length) (hx : xs = nums l) (hg : w0.heap.size ≤ g) : RowI w0 w (.slice (some ⟨g, 0, none⟩) n cp) l := by
  subst hn hx
  exact ⟨h, fun k hk => by simp [Value.ownBlock] at hk; omega⟩
end
theorem infoInt : (Tryd.prog.info? 3).map (fun i => (i.zero, i.size, i.bytes)) = some (some (.int .i64 0), 1, 8) := by kernel_rfl
/-- one new cell -/
theorem new1 (W : World) (k : Nat) (hk : W.heap.size = k) (x : Value) (T : TypeId) : ∀ j u, [x][j]? = some u → (W.alloc (.cells #[x] T)).cell? ((⟨k, 0, none⟩ : Addr).add j) = some u := by
  intro j u hu
  subst hk
  match j, hu with
  | 0, hu => simp at hu; subst hu; simp [Addr.add, go_sem]
theorem row_empty (w : World) (n : Nat) (hn : w.heap.size = n) : (w.alloc (.cells #[] 3)).ownsRow 0 3 1 (.slice (some ⟨n, 0, none⟩) 0 0) 0 [] := by
  subst hn
  exact ⟨rfl, .inr ⟨w.heap.size, 0, #[], rfl, Nat.zero_le _, heap_alloc_new w _, Nat.le_refl _, Nat.zero_le _, rfl, rfl⟩⟩
end Go.Proofs.YtkgmfnllhjedpaaDoor
