/-
  What is met is what can be come to: the objects of a shape, their number and their order. No Go in sight.
-/
import Derived.Test.YtbihdkdefopijaaSh
namespace Go.Proofs.Ytbihdkdefopijaa
set_option linter.unusedVariables false
set_option linter.unusedSimpArgs false
namespace Sh

theorem add_mem {m : List Int} {x y : Int} : y ∈ add m x ↔ y ∈ m ∨ (y = x ∧ y ≠ 0) := by
  unfold add
  split
  · rename_i h
    constructor
    · exact Or.inl
    · rintro (h1 | ⟨rfl, h1⟩)
      · exact h1
      · rcases h with h | h
        · exact absurd h h1
        · exact h
  · rename_i h
    simp only [not_or] at h
    simp
    constructor
    · rintro (h1 | rfl)
      · exact Or.inl h1
      · exact Or.inr ⟨rfl, h.1⟩
    · rintro (h1 | ⟨rfl, _⟩)
      · exact Or.inl h1
      · exact Or.inr rfl
theorem fadd_mem {m : List Int} {v : Int × Int} {y : Int} : y ∈ fadd m v ↔ y ∈ m ∨ (v.1 = 1 ∧ y = v.2 ∧ y ≠ 0) := by
  unfold fadd
  split
  · rename_i h; rw [add_mem]; simp [h]
  · rename_i h; simp [h]
theorem meets_mem (r : List Int) : ∀ {m : List Int} {y : Int}, y ∈ (meets m r).1 ↔ y ∈ m ∨ (y ∈ r ∧ y ≠ 0) := by
  induction r with
  | nil => intro m y; simp [meets]
  | cons x r ih =>
    intro m y
    simp only [meets, ih, add_mem, List.mem_cons]
    constructor
    · rintro ((h | ⟨h, h0⟩) | ⟨h, h0⟩)
      · exact .inl h
      · exact .inr ⟨.inl h, h0⟩
      · exact .inr ⟨.inr h, h0⟩
    · rintro (h | ⟨h | h, h0⟩)
      · exact .inl (.inl h)
      · exact .inl (.inr ⟨h, h0⟩)
      · exact .inr ⟨h, h0⟩
theorem fmeets_mem (o : List (Int × Int)) : ∀ {m : List Int} {y : Int}, y ∈ (fmeets m o).1 ↔ y ∈ m ∨ ∃ v ∈ o, v.1 = 1 ∧ y = v.2 ∧ y ≠ 0 := by
  induction o with
  | nil => intro m y; simp [fmeets]
  | cons x r ih =>
    intro m y
    simp only [fmeets, ih, fadd_mem, List.mem_cons]
    constructor
    · rintro ((h | h) | ⟨v, hv, h⟩)
      · exact .inl h
      · exact .inr ⟨x, .inl rfl, h⟩
      · exact .inr ⟨v, .inr hv, h⟩
    · rintro (h | ⟨v, rfl | hv, h⟩)
      · exact .inl (.inl h)
      · exact .inl (.inr h)
      · exact .inr ⟨v, hv, h⟩
theorem rruns_mem (ts : List (List Int)) : ∀ {m : List Int} {y : Int}, y ∈ (rruns m ts).1 ↔ y ∈ m ∨ ∃ r ∈ ts, y ∈ r ∧ y ≠ 0 := by
  induction ts with
  | nil => intro m y; simp [rruns]
  | cons x r ih =>
    intro m y
    simp only [rruns, ih, meets_mem, List.mem_cons]
    constructor
    · rintro ((h | h) | ⟨v, hv, h⟩)
      · exact .inl h
      · exact .inr ⟨x, .inl rfl, h⟩
      · exact .inr ⟨v, .inr hv, h⟩
    · rintro (h | ⟨v, rfl | hv, h⟩)
      · exact .inl (.inl h)
      · exact .inl (.inr h)
      · exact .inr ⟨v, hv, h⟩
theorem add_pre (m : List Int) (x : Int) : ∃ t, add m x = m ++ t := by
  unfold add
  split
  · exact ⟨[], by simp⟩
  · exact ⟨_, rfl⟩
theorem fmeets_pre (o : List (Int × Int)) : ∀ m, ∃ t, (fmeets m o).1 = m ++ t := by
  induction o with
  | nil => intro m; exact ⟨[], by simp [fmeets]⟩
  | cons x r ih =>
    intro m
    obtain ⟨t1, h1⟩ : ∃ t, fadd m x = m ++ t := by
      unfold fadd
      split
      · exact add_pre m _
      · exact ⟨[], by simp⟩
    obtain ⟨t2, h2⟩ := ih (fadd m x)
    exact ⟨t1 ++ t2, by simp only [fmeets]; rw [h2, h1, List.append_assoc]⟩

/-- what was met when j more objects were looked through -/
def mks (os : List (List (Int × Int))) (m : List Int) (k : Nat) : Nat → List Int
  | 0 => m
  | j + 1 => (fmeets (mks os m k j) (kth os (mks os m k j) (k + j))).1
theorem mks_shift (os : List (List (Int × Int))) (m : List Int) (k : Nat) : ∀ j, mks os (fmeets m (kth os m k)).1 (k + 1) j = mks os m k (j + 1) := by
  intro j
  induction j with
  | zero => rfl
  | succ j ih =>
    rw [mks, ih, show k + 1 + j = k + (j + 1) by omega]
    rfl
theorem mks_pre (os : List (List (Int × Int))) (m : List Int) (k : Nat) : ∀ i j, ∃ t, mks os m k (i + j) = mks os m k i ++ t := by
  intro i j
  induction j with
  | zero => exact ⟨[], by simp⟩
  | succ j ih =>
    obtain ⟨t, h⟩ := ih
    obtain ⟨t2, h2⟩ := fmeets_pre (kth os (mks os m k (i + j)) (k + (i + j))) (mks os m k (i + j))
    exact ⟨t ++ t2, by rw [← Nat.add_assoc, mks, h2, h, List.append_assoc]⟩
theorem lrun_at (os : List (List (Int × Int))) : ∀ (f k : Nat) (m : List Int) (j : Nat), j < (lrun os f k m).2.length → k + j < (mks os m k j).length ∧ (lrun os f k m).2.getD j [] = (fmeets (mks os m k j) (kth os (mks os m k j) (k + j))).2 := by
  intro f
  induction f with
  | zero => intro k m j h; simp [lrun] at h
  | succ f ih =>
    intro k m j h
    by_cases hk : k < m.length
    · simp only [lrun, hk, if_true] at h ⊢
      cases j with
      | zero => exact ⟨hk, rfl⟩
      | succ j =>
        have := ih (k + 1) (fmeets m (kth os m k)).1 j (by simpa using h)
        rw [mks_shift, show k + 1 + j = k + (j + 1) by omega] at this
        exact ⟨this.1, by simpa using this.2⟩
    · simp [lrun, hk] at h
theorem Ok.mks {g : Gr} (f : g.Fit) {m : List Int} (k : Nat) (h : Ok g.os.length m) : ∀ j, Ok g.os.length (Sh.mks g.os m k j) := by
  intro j
  induction j with
  | zero => exact h
  | succ j ih => exact Ok.fmeets _ ih (kth_fit f _ _).1
theorem lrun_all {g : Gr} (fit : g.Fit) : ∀ (f k : Nat) (m : List Int), Ok g.os.length m → g.os.length ≤ f + k → ¬ k + (lrun g.os f k m).2.length < (mks g.os m k (lrun g.os f k m).2.length).length := by
  intro f
  induction f with
  | zero =>
    intro k m h hk
    have := h.len
    simp [lrun, mks]
    omega
  | succ f ih =>
    intro k m h hk
    by_cases hlt : k < m.length
    · simp only [lrun, hlt, if_true, List.length_cons]
      have := ih (k + 1) (fmeets m (kth g.os m k)).1 (Ok.fmeets _ h (kth_fit fit _ _).1) (by omega)
      rw [mks_shift] at this
      omega
    · simp [lrun, hlt, mks]
/-- all that is met, at the end -/
def met0 (g : Gr) : List Int := (rruns [] g.ts).1
def metL (g : Gr) (j : Nat) : List Int := mks g.os (met0 g) 0 j
def all (g : Gr) : List Int := metL g (objs g).length
section
variable {g : Gr}
theorem met0_ok (f : g.Fit) : Ok g.os.length (met0 g) := Ok.rruns g.ts (Ok.nil _) f.rid
theorem metL_ok (f : g.Fit) (j : Nat) : Ok g.os.length (metL g j) := (met0_ok f).mks f 0 j
theorem metL_at (f : g.Fit) {j : Nat} (h : j < (objs g).length) : j < (metL g j).length ∧ (objs g).getD j [] = (fmeets (metL g j) (kth g.os (metL g j) j)).2 := by
  have := lrun_at g.os (g.os.length + 1) 0 (met0 g) j h
  rw [Nat.zero_add] at this
  exact this
theorem all_len (f : g.Fit) : (all g).length = (objs g).length := by
  have h1 := lrun_all f (g.os.length + 1) 0 (met0 g) (met0_ok f) (by omega)
  have h2 : ¬ (objs g).length < (all g).length := by simpa [all, metL, objs, met0] using h1
  by_cases h0 : (objs g).length = 0
  · omega
  · have h3 := (metL_at f (j := (objs g).length - 1) (by omega)).1
    obtain ⟨t, ht⟩ := mks_pre g.os (met0 g) 0 ((objs g).length - 1) 1
    have h4 : all g = metL g ((objs g).length - 1) ++ t := by
      unfold all metL
      rw [← ht, show (objs g).length - 1 + 1 = (objs g).length by omega]
    have h5 : (all g).length = (metL g ((objs g).length - 1)).length + t.length := by rw [h4]; simp
    omega
theorem all_pre (j : Nat) (h : j ≤ (objs g).length) : ∃ t, all g = metL g j ++ t := by
  obtain ⟨t, ht⟩ := mks_pre g.os (met0 g) 0 j ((objs g).length - j)
  exact ⟨t, by unfold all metL; rw [← ht, show j + ((objs g).length - j) = (objs g).length by omega]⟩
theorem all_roots (f : g.Fit) {r : List Int} (hr : r ∈ g.ts) {x : Int} (hx : x ∈ r) (h0 : x ≠ 0) : x ∈ all g := by
  obtain ⟨t, ht⟩ := all_pre (g := g) 0 (Nat.zero_le _)
  rw [ht]
  exact List.mem_append_left _ ((rruns_mem g.ts).2 (.inr ⟨r, hr, hx, h0⟩))
/-- the object of an identity -/
def obj (os : List (List (Int × Int))) (y : Int) : List (Int × Int) := os.getD (y - 1).toNat []
theorem all_closed (f : g.Fit) {y : Int} (hy : y ∈ all g) {v : Int × Int} (hv : v ∈ obj g.os y) (h1 : v.1 = 1) (h0 : v.2 ≠ 0) : v.2 ∈ all g := by
  obtain ⟨j, hj, he⟩ := List.getElem_of_mem hy
  have hjl : j < (objs g).length := by rw [← all_len f]; exact hj
  have hm := metL_at f hjl
  obtain ⟨t, ht⟩ := all_pre (g := g) j (by omega)
  obtain ⟨t2, ht2⟩ := all_pre (g := g) (j + 1) (by omega)
  have hk : kth g.os (metL g j) j = obj g.os y := by
    unfold kth obj
    have : (metL g j).getD j 0 = y := by
      rw [← he, List.getD_eq_getElem?_getD, List.getElem?_eq_getElem hm.1]
      simp [ht, List.getElem_append, hm.1]
    rw [this]
  rw [ht2]
  refine List.mem_append_left _ ?_
  have : metL g (j + 1) = (fmeets (metL g j) (kth g.os (metL g j) j)).1 := by unfold metL; rw [mks, Nat.zero_add]
  rw [this, hk]
  exact (fmeets_mem _).2 (.inr ⟨v, hv, h1, rfl, h0⟩)
theorem all_least (f : g.Fit) (P : Int → Prop) (hr : ∀ r ∈ g.ts, ∀ x ∈ r, x ≠ 0 → P x) (hc : ∀ y, P y → ∀ v ∈ obj g.os y, v.1 = 1 → v.2 ≠ 0 → P v.2) : ∀ x ∈ all g, P x := by
  have step : ∀ j, j ≤ (objs g).length → ∀ x ∈ metL g j, P x := by
    intro j
    induction j with
    | zero =>
      intro _ x hx
      rcases (rruns_mem g.ts).1 hx with h | ⟨r, h1, h2, h3⟩
      · simp at h
      · exact hr r h1 x h2 h3
    | succ j ih =>
      intro hj x hx
      have hm := metL_at f (j := j) (by omega)
      have : metL g (j + 1) = (fmeets (metL g j) (kth g.os (metL g j) j)).1 := by unfold metL; rw [mks, Nat.zero_add]
      rw [this] at hx
      rcases (fmeets_mem _).1 hx with h | ⟨v, h1, h2, h3, h4⟩
      · exact ih (by omega) x h
      · subst h3
        exact hc ((metL g j).getD j 0) (ih (by omega) _ (by rw [List.getD_eq_getElem?_getD, List.getElem?_eq_getElem hm.1]; exact List.getElem_mem _)) v h1 h2 h4
  exact step _ (Nat.le_refl _)
end
theorem nodup_len : ∀ (l1 l2 : List Int), l1.Nodup → (∀ x ∈ l1, x ∈ l2) → l1.length ≤ l2.length := by
  intro l1
  induction l1 with
  | nil => intro l2 _ _; simp
  | cons a l ih =>
    intro l2 hn hs
    rw [List.nodup_cons] at hn
    have ha := hs a (by simp)
    have := ih (l2.erase a) hn.2 fun x hx => (List.mem_erase_of_ne (show x ≠ a from fun e => hn.1 (by rw [← e]; exact hx))).2 (hs x (by simp [hx]))
    rw [List.length_erase_of_mem ha] at this
    have h1 : 0 < l2.length := List.length_pos_of_mem ha
    simp
    omega
/-- one more object, which nobody but a root names, is one more that is met -/
theorem objs_more {g g' : Gr} (f : g.Fit) (f' : g'.Fit) (hos : ∃ o, g'.os = g.os ++ [o] ∧ ∀ v ∈ o, v.1 ≠ 1) (ha : ∀ r ∈ g'.ts, ∀ x ∈ r, x ≠ 0 → x = (g.os.length : Int) + 1 ∨ ∃ q ∈ g.ts, x ∈ q) (hb : ∀ q ∈ g.ts, ∀ x ∈ q, ∃ r ∈ g'.ts, x ∈ r) (hc : ∃ r ∈ g'.ts, (g.os.length : Int) + 1 ∈ r) :
    (objs g').length = (objs g).length + 1 := by
  obtain ⟨o, ho, hs⟩ := hos
  have hle : ∀ y ∈ all g, 1 ≤ y ∧ y ≤ g.os.length := (metL_ok f _).inn
  have hle' : ∀ y ∈ all g', 1 ≤ y ∧ y ≤ g'.os.length := (metL_ok f' _).inn
  have hobj : ∀ y : Int, 1 ≤ y → y ≤ g.os.length → obj g'.os y = obj g.os y := fun y h1 hy => by
    unfold obj
    rw [ho]
    have h : (y - 1).toNat < g.os.length := by omega
    generalize (y - 1).toNat = q at h ⊢
    simp [List.getD_eq_getElem?_getD, List.getElem?_append_left h]
  have hnew : obj g'.os ((g.os.length : Int) + 1) = o := by
    unfold obj
    rw [ho, show ((g.os.length : Int) + 1 - 1).toNat = g.os.length by omega]
    simp [List.getD_eq_getElem?_getD]
  have sub1 : ∀ x ∈ all g', x ∈ all g ++ [(g.os.length : Int) + 1] := by
    refine all_least f' (fun x => x ∈ all g ++ [(g.os.length : Int) + 1]) (fun r hr x hx h0 => ?_) (fun y hy v hv h1 h0 => ?_)
    · rcases ha r hr x hx h0 with h | ⟨q, hq, h⟩
      · simp [h]
      · exact List.mem_append_left _ (all_roots f hq h h0)
    · simp at hy
      rcases hy with hy | rfl
      · rw [hobj y (hle y hy).1 (hle y hy).2] at hv
        exact List.mem_append_left _ (all_closed f hy hv h1 h0)
      · rw [hnew] at hv
        exact absurd h1 (hs v hv)
  have sub2 : ∀ x ∈ all g, x ∈ all g' := by
    refine all_least f (fun x => x ∈ all g') (fun r hr x hx h0 => ?_) (fun y hy v hv h1 h0 => ?_)
    · obtain ⟨q, hq, h⟩ := hb r hr x hx
      exact all_roots f' hq h h0
    · have hy' := hle' y hy
      by_cases hyl : y ≤ g.os.length
      · rw [← hobj y hy'.1 hyl] at hv
        exact all_closed f' hy hv h1 h0
      · have : obj g.os y = [] := by
          unfold obj
          rw [List.getD_eq_getElem?_getD, List.getElem?_eq_none (by omega)]
          rfl
        rw [this] at hv
        simp at hv
  have nd1 := (metL_ok f' (objs g').length).nd
  have nd2 : (all g ++ [(g.os.length : Int) + 1]).Nodup := by
    rw [List.nodup_append]
    refine ⟨(metL_ok f (objs g).length).nd, by simp, fun a ha b hb => ?_⟩
    simp at hb
    subst hb
    have := hle a ha
    omega
  have l1 := nodup_len (all g') _ nd1 sub1
  have l2 := nodup_len _ (all g') nd2 fun x hx => by
    simp at hx
    rcases hx with hx | rfl
    · exact sub2 x hx
    · obtain ⟨r, hr, h⟩ := hc
      exact all_roots f' hr h (by omega)
  have e1 := all_len f
  have e2 := all_len f'
  simp at l1 l2
  omega
theorem lrun_succ (os : List (List (Int × Int))) (f k : Nat) (m : List Int) : lrun os (f + 1) k m = if k < m.length then ((lrun os f (k + 1) (fmeets m (kth os m k)).1).1, (fmeets m (kth os m k)).2 :: (lrun os f (k + 1) (fmeets m (kth os m k)).1).2) else (m, []) := rfl
/-- an object that nobody names makes no difference -/
theorem objs_same {g : Gr} (fit : g.Fit) (o : List (Int × Int)) : objs ⟨g.ts, g.os ++ [o]⟩ = objs g := by
  have key : ∀ (f k : Nat) (m : List Int), Ok g.os.length m → g.os.length ≤ f + k → lrun (g.os ++ [o]) (f + 1) k m = lrun g.os f k m := by
    intro f
    induction f with
    | zero =>
      intro k m h hk
      have := h.len
      rw [lrun_end _ _ (by omega)]
      rfl
    | succ f ih =>
      intro k m h hk
      by_cases hlt : k < m.length
      · have hin := h.inn (m.getD k 0) (by rw [List.getD_eq_getElem?_getD, List.getElem?_eq_getElem hlt]; exact List.getElem_mem _)
        have hkt : kth (g.os ++ [o]) m k = kth g.os m k := by
          unfold kth
          have hi : (m.getD k 0 - 1).toNat < g.os.length := by omega
          generalize (m.getD k 0 - 1).toNat = q at hi ⊢
          simp [List.getD_eq_getElem?_getD, List.getElem?_append_left hi]
        have := ih (k + 1) (fmeets m (kth g.os m k)).1 (Ok.fmeets _ h (kth_fit fit _ _).1) (by omega)
        rw [lrun_succ (g.os ++ [o]) (f + 1), lrun_succ g.os f, if_pos hlt, if_pos hlt, hkt, this]
      · rw [lrun_end _ _ hlt, lrun_end _ _ hlt]
  unfold objs
  have := key (g.os.length + 1) 0 (rruns [] g.ts).1 (met0_ok fit) (by omega)
  simp only [List.length_append, List.length_singleton]
  rw [this]
/-- a number is at most one more than what was met -/
theorem num_add (m : List Int) (x : Int) : 0 ≤ num (add m x) x ∧ num (add m x) x ≤ (m.length : Int) + 1 ∧ max (m.length : Int) (num (add m x) x) = ((add m x).length : Int) := by
  by_cases h0 : x = 0
  · subst h0
    rw [add_of_mem (.inl rfl)]
    simp [num]
    omega
  · by_cases h : x ∈ m
    · rw [add_of_mem (.inr h)]
      have := List.idxOf_lt_length_of_mem h
      simp only [num, h0, if_false]
      omega
    · rw [add_of_not h0 h, num_new h0 h]
      simp
      omega
theorem meets_at (r : List Int) : ∀ (m : List Int) (i : Nat), i < r.length → (meets m r).2.getD i 0 = num (add (meets m (r.take i)).1 (r.getD i 0)) (r.getD i 0) ∧ (meets m (r.take (i + 1))).1 = add (meets m (r.take i)).1 (r.getD i 0) := by
  induction r with
  | nil => intro m i h; simp at h
  | cons x r ih =>
    intro m i h
    cases i with
    | zero => exact ⟨rfl, rfl⟩
    | succ i =>
      have := ih (add m x) i (by simpa using h)
      exact ⟨by simpa [meets] using this.1, by simpa [meets] using this.2⟩
theorem fmeets_at (r : List (Int × Int)) : ∀ (m : List Int) (i : Nat), i < r.length → (fmeets m r).2.getD i (0, 0) = fnum (fadd (fmeets m (r.take i)).1 (r.getD i (0, 0))) (r.getD i (0, 0)) ∧ (fmeets m (r.take (i + 1))).1 = fadd (fmeets m (r.take i)).1 (r.getD i (0, 0)) := by
  induction r with
  | nil => intro m i h; simp at h
  | cons x r ih =>
    intro m i h
    cases i with
    | zero => exact ⟨rfl, rfl⟩
    | succ i =>
      have := ih (fadd m x) i (by simpa using h)
      exact ⟨by simpa [fmeets] using this.1, by simpa [fmeets] using this.2⟩
theorem rruns_at (ts : List (List Int)) : ∀ (m : List Int) (i : Nat), i < ts.length → (rruns m ts).2.getD i [] = (meets (rruns m (ts.take i)).1 (ts.getD i [])).2 ∧ (rruns m (ts.take (i + 1))).1 = (meets (rruns m (ts.take i)).1 (ts.getD i [])).1 := by
  induction ts with
  | nil => intro m i h; simp at h
  | cons x r ih =>
    intro m i h
    cases i with
    | zero => exact ⟨rfl, rfl⟩
    | succ i =>
      have := ih (meets m x).1 i (by simpa using h)
      exact ⟨by simpa [rruns] using this.1, by simpa [rruns] using this.2⟩
end Sh
end Go.Proofs.Ytbihdkdefopijaa
