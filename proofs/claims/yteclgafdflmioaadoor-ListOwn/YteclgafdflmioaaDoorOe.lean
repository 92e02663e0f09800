/-
  Four workers: how they begin, and what they come to at the end.
-/
import Derived.Test.YteclgafdflmioaaDoorOw2
namespace Go.Proofs.YteclgafdflmioaaDoor
set_option linter.unusedVariables false
set_option maxRecDepth 100000
open Go.ChangeShapes Go.WideShapes Go.RowKit
open S.Plain (t0 t1 tw nx)

theorem crew_zero {w0 w : World} {PB QB HB : Nat} (h1 : Blk w0 w PB 40 #[.pointer none, .pointer none, .pointer none, .pointer none]) (h2 : Blk w0 w QB 41 #[.pointer none, .pointer none, .pointer none, .pointer none]) (h3 : Blk w0 w HB 42 #[.slice none 0 0, .slice none 0 0, .slice none 0 0, .slice none 0 0]) :
    Crew w0 w PB QB HB (fun _ => .idle) (fun _ => 0) (fun _ => .slice none 0 0) (fun _ => []) 0 where
  pops := ⟨_, h1, rfl, fun k hk => by match k, hk with | 0, _ => rfl | 1, _ => rfl | 2, _ => rfl | 3, _ => rfl⟩
  pushes := ⟨_, h2, rfl, fun k hk => by match k, hk with | 0, _ => rfl | 1, _ => rfl | 2, _ => rfl | 3, _ => rfl⟩
  has := ⟨_, h3, rfl, fun k hk => by match k, hk with | 0, _ => rfl | 1, _ => rfl | 2, _ => rfl | 3, _ => rfl⟩
  mach := fun _ _ => trivial
  row := fun _ _ => RowI.nil _ _
  mne := fun _ _ _ _ _ h => absurd rfl h
  rne := fun _ _ _ _ _ g h => by simp [Value.ownBlock] at h
  len := fun _ _ => Nat.le_refl _
theorem pop_new_at (s : St) : ((PopS.new 3).next s).at_ = 0 := by
  simp only [PopS.new, PopS.next, PopS.at_]
  by_cases h : t0 (s.got 3) = 0
  · simp [h]
  · simp [h]

/-- a store into a block of yet another kind -/
theorem Crew.setS {w0 w : World} {PB QB HB M : Nat} {jb : Nat → Job} {mp : Nat → Nat} {vh : Nat → Value} {hs : Nat → List Int} {B : Nat} {T : TypeId} {cs : Array Value} (h : Crew w0 w PB QB HB jb mp vh hs M) (hB : Blk w0 w B T cs) (i : Nat) (u : Value)
    (hT : T ∉ [40, 41, 42, 79, 82, 3]) : Crew w0 (w.setCell ⟨B, i, none⟩ u) PB QB HB jb mp vh hs M := by
  simp only [List.mem_cons, List.not_mem_nil, or_false, not_or] at hT
  obtain ⟨n1, n2, n3, n4, n5, n6⟩ := hT
  obtain ⟨⟨c1, h1, h1'⟩, ⟨c2, h2, h2'⟩, ⟨c3, h3, h3'⟩, h4, h5, h6, h7, h8⟩ := h
  have o : Oth [B] w (w.setCell ⟨B, i, none⟩ u) := Oth.set _ _ _ _ (by simp)
  exact ⟨⟨c1, h1.oth o (by simp; exact h1.ne hB (Ne.symm n1)), h1'⟩, ⟨c2, h2.oth o (by simp; exact h2.ne hB (Ne.symm n2)), h2'⟩, ⟨c3, h3.oth o (by simp; exact h3.ne hB (Ne.symm n3)), h3'⟩,
    fun k hk => (h4 k hk).oth o fun hk' => by simp; exact (h4 k hk).ne hk' hB (by simp [n4, n5]), fun k hk => (h5 k hk).oth o fun g hg => by simp; exact (h5 k hk).bne hB n6 g hg, h6, h7, h8⟩

/-- what the first k popped -/
def pre (hs : Nat → List Int) : Nat → List Int
  | 0 => []
  | k + 1 => pre hs k ++ hs k
section
variable {n v : Nat} {s : St} {l : List Int} {jb : Nat → Job} {hs : Nat → List Int}
theorem all_count (h : Inv n s l v jb hs) (hid : ∀ k, k < 4 → jb k = .idle) (a : Int) : (pre hs 4 ++ l).count a = (cel 0 n).count a := by
  have h1 := h.cnt a
  simp only [sum4, own4, hid 0 (by omega), hid 1 (by omega), hid 2 (by omega), hid 3 (by omega), Job.held, List.append_nil] at h1
  simp only [pre, List.nil_append, List.count_append]
  omega
theorem all_nodup (h : Inv n s l v jb hs) (hid : ∀ k, k < 4 → jb k = .idle) : (pre hs 4 ++ l).Nodup :=
  List.nodup_iff_count.2 fun a => by rw [all_count h hid]; exact cel_count n a
theorem all_length (h : Inv n s l v jb hs) (hid : ∀ k, k < 4 → jb k = .idle) : (pre hs 4 ++ l).length = n := by
  have : (pre hs 4 ++ l).Perm (cel 0 n) := List.perm_iff_count.2 fun a => all_count h hid a
  rw [this.length_eq, cel_length]
theorem all_mem (h : Inv n s l v jb hs) (hid : ∀ k, k < 4 → jb k = .idle) {a : Int} : a ∈ pre hs 4 ++ l ↔ a ∈ cel 0 n := by
  rw [← List.count_pos_iff, ← List.count_pos_iff, all_count h hid]
theorem pre_get {k i : Nat} (hk : k < 4) (hi : i < (hs k).length) : (pre hs 4 ++ l)[(pre hs k).length + i]? = (hs k)[i]? := by
  have key : ∀ rest : List Int, (pre hs k ++ (hs k ++ rest))[(pre hs k).length + i]? = (hs k)[i]? := fun rest => by
    rw [List.getElem?_append_right (by omega), Nat.add_sub_cancel_left, List.getElem?_append_left hi]
  match k, hk, hi, key with
  | 0, _, _, key => simpa [pre] using key (hs 1 ++ (hs 2 ++ (hs 3 ++ l)))
  | 1, _, _, key => simpa [pre] using key (hs 2 ++ (hs 3 ++ l))
  | 2, _, _, key => simpa [pre] using key (hs 3 ++ l)
  | 3, _, _, key => simpa [pre] using key l
theorem pre_rest {i : Nat} : (pre hs 4 ++ l)[(pre hs 4).length + i]? = l[i]? := by
  rw [List.getElem?_append_right (by omega), Nat.add_sub_cancel_left]
end
theorem drop_cons' {L : List Int} {i : Nat} {a : Int} (h : L[i]? = some a) : L.drop i = a :: L.drop (i + 1) := by
  obtain ⟨hi, e⟩ := List.getElem?_eq_some_iff.1 h
  rw [List.drop_eq_getElem_cons hi, e]
/-- which words were told -/
def memb (L : List Int) : Nat → Bool := fun a => decide ((a : Int) ∈ L)
def marks (n : Nat) (f : Nat → Bool) : Array Value := ((List.range n).map fun j => Value.bool (f j)).toArray
theorem marks_size (n : Nat) (f : Nat → Bool) : (marks n f).size = n := by simp [marks]
theorem marks_at (n : Nat) (f : Nat → Bool) (j : Nat) (h : j < n) : (marks n f)[j]? = some (.bool (f j)) := by simp [marks, h]
theorem marks_set (n : Nat) (f f' : Nat → Bool) (j : Nat) (hj : f' j = true) (h : ∀ i, i < n → i ≠ j → f' i = f i) : (marks n f).setIfInBounds j (.bool true) = marks n f' := by
  apply Array.ext_getElem?
  intro i
  rw [Array.getElem?_setIfInBounds]
  by_cases hn : i < n
  · rw [marks_at n f' i hn, marks_at n f i hn]
    by_cases e : j = i
    · subst e
      rw [if_pos rfl, if_pos (by rw [marks_size]; exact hn), hj]
    · rw [if_neg e, h i hn (Ne.symm e)]
  · rw [show (marks n f')[i]? = none by simp [marks]; omega, show (marks n f)[i]? = none by simp [marks]; omega]
    by_cases e : j = i
    · subst e
      rw [if_pos rfl, if_neg (by rw [marks_size]; exact hn)]
    · rw [if_neg e]
theorem take_next {L : List Int} {p : Nat} {a : Int} (h : L[p]? = some a) : L.take (p + 1) = L.take p ++ [a] := by
  rw [List.take_add_one, h]; rfl
theorem not_before {L : List Int} (hn : L.Nodup) {p : Nat} {a : Int} (h : L[p]? = some a) : a ∉ L.take p := fun hm => by
  obtain ⟨hp, e⟩ := List.getElem?_eq_some_iff.1 h
  have e2 : L = L.take p ++ (a :: L.drop (p + 1)) := by rw [← drop_cons' h, List.take_append_drop]
  rw [e2] at hn
  exact (List.nodup_append.1 hn).2.2 _ hm _ (by simp) rfl
theorem marks_next {L : List Int} {p an : Nat} (h : L[p]? = some (an : Int)) : (marks 160 (memb (L.take p))).setIfInBounds an (.bool true) = marks 160 (memb (L.take (p + 1))) := by
  refine marks_set _ _ _ _ ?_ fun i hi hne => ?_
  · simp [memb, take_next h]
  · simp only [memb, take_next h, List.mem_append, List.mem_singleton]
    have : ¬ (i : Int) = (an : Int) := by omega
    simp [this]
theorem memb_new {L : List Int} (hn : L.Nodup) {p an : Nat} (h : L[p]? = some (an : Int)) : memb (L.take p) an = false := by
  simpa [memb] using not_before hn h
theorem memb_all {L : List Int} {p : Nat} {a : Nat} (hp : L.length ≤ p) (h : (a : Int) ∈ L) : memb (L.take p) a = true := by
  rw [List.take_of_length_le hp]; simpa [memb] using h
theorem cel_nat {n : Nat} (hn : n ≤ 12) {a : Int} (h : a ∈ cel 0 n) : ∃ an : Nat, a = an ∧ 96 ≤ an ∧ an < 160 := by
  obtain ⟨i, _, h2, rfl⟩ := cel_mem.1 h
  exact ⟨96 + 4 * i, by omega, by omega, by omega⟩
theorem marks_zero : marks 160 (memb []) = Array.replicate 160 (Value.bool false) := by kernel_rfl
end Go.Proofs.YteclgafdflmioaaDoor
