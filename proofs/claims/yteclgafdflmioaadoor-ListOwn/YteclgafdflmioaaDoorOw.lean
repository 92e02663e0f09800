/-
  Four workers of the law on who owns a cell: that all come to an end, said plainly; where they lie.
-/
import Derived.Test.YteclgafdflmioaaDoorOq2
import Derived.Test.YteclgafdflmioaaDoorLw
namespace Go.Proofs.YteclgafdflmioaaDoor
set_option linter.unusedVariables false
set_option maxRecDepth 100000
open Go.ChangeShapes Go.WideShapes Go.RowKit

/-- from round P on nobody begins -/
def Live (P i : Nat) (s : St) (jb : Nat → Job) : Prop :=
  (∀ k, k < 4 → jb k = .idle) ∨ ∃ k, k < 4 ∧ jb k ≠ .idle ∧ 4 * pot4 s jb + (k + 4 - i % 4) % 4 + (i - P) ≤ 243
section
variable {P i : Nat} {s s' : St} {jb : Nat → Job}
theorem live_start (P : Nat) (s : St) (jb : Nat → Job) : Live P P s jb := by
  by_cases h : ∀ k, k < 4 → jb k = .idle
  · exact .inl h
  · have : ∃ k, k < 4 ∧ jb k ≠ .idle := Classical.byContradiction fun hn => h fun k hk => Classical.byContradiction fun hj => hn ⟨k, hk, hj⟩
    obtain ⟨k, hk, hj⟩ := this
    have := pot4_le s jb
    exact .inr ⟨k, hk, hj, by omega⟩
theorem live_idle (hP : P ≤ i) (h : Live P i s jb) (hc : jb (i % 4) = .idle) : Live P (i + 1) s jb := by
  rcases h with h | ⟨k, hk, hj, hb⟩
  · exact .inl h
  · have hne : k ≠ i % 4 := fun e => hj (e ▸ hc)
    exact .inr ⟨k, hk, hj, by omega⟩
theorem live_step (hP : P ≤ i) (h : Live P i s jb) {y : Job} (hpot : pot4 s' (set4 jb (i % 4) y) + 1 ≤ pot4 s jb) : Live P (i + 1) s' (set4 jb (i % 4) y) := by
  by_cases ha : ∀ k, k < 4 → set4 jb (i % 4) y k = .idle
  · exact .inl ha
  · have : ∃ k, k < 4 ∧ set4 jb (i % 4) y k ≠ .idle := Classical.byContradiction fun hn => ha fun k hk => Classical.byContradiction fun hj => hn ⟨k, hk, hj⟩
    obtain ⟨k, hk, hj⟩ := this
    rcases h with h | ⟨k0, hk0, hj0, hb⟩
    · have : pot4 s jb = 0 := by unfold pot4 sum4; simp only [h 0 (by omega), h 1 (by omega), h 2 (by omega), h 3 (by omega), Job.pot]
      omega
    · exact .inr ⟨k, hk, hj, by omega⟩
theorem live_end (h : Live P (P + 400) s jb) : ∀ k, k < 4 → jb k = .idle := by
  rcases h with h | ⟨k, hk, hj, hb⟩
  · exact h
  · omega
end

def popPtr : Job → Nat → Value
  | .pop _, p => ptr p
  | _, _ => .pointer none
def pushPtr : Job → Nat → Value
  | .push _, p => ptr p
  | _, _ => .pointer none
def JobAt (w0 w : World) (p : Nat) : Job → Prop
  | .idle => True
  | .pop x => Blk w0 w p 79 x.cells
  | .push x => Blk w0 w p 82 x.cells
structure Crew (w0 w : World) (PB QB HB : Nat) (jb : Nat → Job) (mp : Nat → Nat) (vh : Nat → Value) (hs : Nat → List Int) (M : Nat) : Prop where
  pops : ∃ cs, Blk w0 w PB 40 cs ∧ cs.size = 4 ∧ ∀ k, k < 4 → cs[k]? = some (popPtr (jb k) (mp k))
  pushes : ∃ cs, Blk w0 w QB 41 cs ∧ cs.size = 4 ∧ ∀ k, k < 4 → cs[k]? = some (pushPtr (jb k) (mp k))
  has : ∃ cs, Blk w0 w HB 42 cs ∧ cs.size = 4 ∧ ∀ k, k < 4 → cs[k]? = some (vh k)
  mach : ∀ k, k < 4 → JobAt w0 w (mp k) (jb k)
  row : ∀ k, k < 4 → RowI w0 w (vh k) (hs k)
  mne : ∀ j, j < 4 → ∀ k, k < 4 → j ≠ k → jb j ≠ .idle → jb k ≠ .idle → mp j ≠ mp k
  rne : ∀ j, j < 4 → ∀ k, k < 4 → j ≠ k → ∀ g, (vh j).ownBlock = some g → (vh k).ownBlock ≠ some g
  len : ∀ k, k < 4 → (hs k).length ≤ M
section
variable {w0 w w' : World} {PB QB HB M k : Nat} {jb : Nat → Job} {mp : Nat → Nat} {vh : Nat → Value} {hs : Nat → List Int} {F : List Nat}
theorem JobAt.oth {p : Nat} {j : Job} (h : JobAt w0 w p j) (o : Oth F w w') (hp : j ≠ .idle → p ∉ F) : JobAt w0 w' p j := by
  cases j with
  | idle => trivial
  | pop x => exact Blk.oth h o (hp (by simp))
  | push x => exact Blk.oth h o (hp (by simp))
theorem JobAt.ne {p : Nat} {j : Job} (h : JobAt w0 w p j) (hj : j ≠ .idle) {B : Nat} {T : TypeId} {cs : Array Value} (hB : Blk w0 w B T cs) (hT : T ∉ [79, 82]) : p ≠ B := by
  simp only [List.mem_cons, List.not_mem_nil, or_false, not_or] at hT
  cases j with
  | idle => exact absurd rfl hj
  | pop x => exact Blk.ne h hB (Ne.symm hT.1)
  | push x => exact Blk.ne h hB (Ne.symm hT.2)
theorem JobAt.lt {p : Nat} {j : Job} (h : JobAt w0 w p j) (hj : j ≠ .idle) : p < w.heap.size := by
  cases j with
  | idle => exact absurd rfl hj
  | pop x => exact Blk.lt h
  | push x => exact Blk.lt h
theorem RowI.bne {v : Value} {l : List Int} (h : RowI w0 w v l) {B : Nat} {T : TypeId} {cs : Array Value} (hB : Blk w0 w B T cs) (hT : T ≠ 3) : ∀ g, v.ownBlock = some g → g ≠ B := fun g hg e => by
  obtain ⟨c, hc⟩ := h.blk hg
  have := hB.at_
  rw [← e, hc] at this
  simp at this
  exact hT this.2.symm
theorem RowI.lt {v : Value} {l : List Int} (h : RowI w0 w v l) : ∀ g, v.ownBlock = some g → g < w.heap.size := fun g hg => by
  obtain ⟨c, hc⟩ := h.blk hg
  exact lt_of_block hc
theorem Crew.mono (h : Crew w0 w PB QB HB jb mp vh hs M) {M' : Nat} (hM : M ≤ M') : Crew w0 w PB QB HB jb mp vh hs M' := ⟨h.pops, h.pushes, h.has, h.mach, h.row, h.mne, h.rne, fun k hk => Nat.le_trans (h.len k hk) hM⟩
theorem Crew.below (h : Crew w0 w PB QB HB jb mp vh hs M) (hb : Below w.heap.size w w') : Crew w0 w' PB QB HB jb mp vh hs M := by
  obtain ⟨⟨c1, h1⟩, ⟨c2, h2⟩, ⟨c3, h3⟩, h4, h5, h6, h7, h8⟩ := h
  have o : Oth [] w w' := Oth.below hb
  exact ⟨⟨c1, h1.1.below hb, h1.2⟩, ⟨c2, h2.1.below hb, h2.2⟩, ⟨c3, h3.1.below hb, h3.2⟩, fun k hk => (h4 k hk).oth o (by simp), fun k hk => (h5 k hk).oth o (by simp), h6, h7, h8⟩
/-- a machine has stepped -/
theorem Crew.step (h : Crew w0 w PB QB HB jb mp vh hs M) (hk : k < 4) (hj : jb k ≠ .idle) (o : Oth [mp k] w w') {y : Job} (hy : JobAt w0 w' (mp k) y) (hp : popPtr y (mp k) = popPtr (jb k) (mp k)) (hu : pushPtr y (mp k) = pushPtr (jb k) (mp k)) : Crew w0 w' PB QB HB (set4 jb k y) mp vh hs M := by
  obtain ⟨⟨c1, h1, h1'⟩, ⟨c2, h2, h2'⟩, ⟨c3, h3, h3'⟩, h4, h5, h6, h7, h8⟩ := h
  have mk := h4 k hk
  have n1 := mk.ne hj h1 (by decide)
  have n2 := mk.ne hj h2 (by decide)
  have n3 := mk.ne hj h3 (by decide)
  have hS : ∀ i, i < 4 → popPtr (set4 jb k y i) (mp i) = popPtr (jb i) (mp i) := fun i hi => by
    by_cases e : i = k
    · subst e; rw [set4_self, hp]
    · rw [set4_ne _ _ e]
  have hS2 : ∀ i, i < 4 → pushPtr (set4 jb k y i) (mp i) = pushPtr (jb i) (mp i) := fun i hi => by
    by_cases e : i = k
    · subst e; rw [set4_self, hu]
    · rw [set4_ne _ _ e]
  refine ⟨⟨c1, h1.oth o (by simp; exact Ne.symm n1), h1'.1, fun i hi => by rw [hS i hi]; exact h1'.2 i hi⟩, ⟨c2, h2.oth o (by simp; exact Ne.symm n2), h2'.1, fun i hi => by rw [hS2 i hi]; exact h2'.2 i hi⟩, ⟨c3, h3.oth o (by simp; exact Ne.symm n3), h3'⟩, fun i hi => ?_, fun i hi => ?_, fun i hi j hj' hij a b => ?_, h7, h8⟩
  · by_cases e : i = k
    · subst e; rw [set4_self]; exact hy
    · rw [set4_ne _ _ e]; exact (h4 i hi).oth o fun hi' => by simp; exact h6 i hi k hk e hi' hj
  · refine (h5 i hi).oth o fun g hg => ?_
    simp
    cases hjk : jb k with
    | idle => exact absurd hjk hj
    | pop x => rw [hjk] at mk; exact (h5 i hi).bne mk (by decide) g hg
    | push x => rw [hjk] at mk; exact (h5 i hi).bne mk (by decide) g hg
  · have a' : jb i ≠ .idle := by
      by_cases e : i = k
      · subst e; exact hj
      · rwa [set4_ne _ _ e] at a
    have b' : jb j ≠ .idle := by
      by_cases e : j = k
      · subst e; exact hj
      · rwa [set4_ne _ _ e] at b
    exact h6 i hi j hj' hij a' b'
theorem get4 {cs : Array Value} (hs : cs.size = 4) {k : Nat} (hk : k < 4) (u : Value) (j : Nat) : (cs.setIfInBounds k u)[j]? = if k = j then some u else cs[j]? := get_set cs k j u (by omega)
/-- a job is put away -/
theorem Crew.popNil (h : Crew w0 w PB QB HB jb mp vh hs M) (hk : k < 4) {x : PopS} (hj : jb k = .pop x) : Crew w0 (w.setCell ⟨PB, k, none⟩ (.pointer none)) PB QB HB (set4 jb k .idle) mp vh hs M := by
  obtain ⟨⟨c1, h1, h1'⟩, ⟨c2, h2, h2'⟩, ⟨c3, h3, h3'⟩, h4, h5, h6, h7, h8⟩ := h
  have o : Oth [PB] w (w.setCell ⟨PB, k, none⟩ (.pointer none)) := Oth.set _ _ _ _ (by simp)
  refine ⟨⟨_, h1.set k _, by simp [h1'.1], fun i hi => ?_⟩, ⟨c2, h2.oth o (by simp; exact Ne.symm (h1.ne h2 (by decide))), h2'.1, fun i hi => ?_⟩, ⟨c3, h3.oth o (by simp; exact Ne.symm (h1.ne h3 (by decide))), h3'⟩, fun i hi => ?_, fun i hi => ?_, fun i hi j hj' hij a b => ?_, h7, h8⟩
  · rw [get4 h1'.1 hk]
    by_cases e : i = k
    · subst e; rw [if_pos rfl, set4_self]; rfl
    · rw [if_neg (Ne.symm e), set4_ne _ _ e]; exact h1'.2 i hi
  · by_cases e : i = k
    · subst e; rw [set4_self, h2'.2 i hi, hj]; rfl
    · rw [set4_ne _ _ e]; exact h2'.2 i hi
  · by_cases e : i = k
    · subst e; rw [set4_self]; trivial
    · rw [set4_ne _ _ e]; exact (h4 i hi).oth o fun hi' => by simp; exact (h4 i hi).ne hi' h1 (by decide)
  · exact (h5 i hi).oth o fun g hg => by simp; exact (h5 i hi).bne h1 (by decide) g hg
  · have hik : i ≠ k := fun e => a (by rw [e, set4_self])
    have hjk : j ≠ k := fun e => b (by rw [e, set4_self])
    rw [set4_ne _ _ hik] at a
    rw [set4_ne _ _ hjk] at b
    exact h6 i hi j hj' hij a b
theorem Crew.pushNil (h : Crew w0 w PB QB HB jb mp vh hs M) (hk : k < 4) {x : PushS} (hj : jb k = .push x) : Crew w0 (w.setCell ⟨QB, k, none⟩ (.pointer none)) PB QB HB (set4 jb k .idle) mp vh hs M := by
  obtain ⟨⟨c1, h1, h1'⟩, ⟨c2, h2, h2'⟩, ⟨c3, h3, h3'⟩, h4, h5, h6, h7, h8⟩ := h
  have o : Oth [QB] w (w.setCell ⟨QB, k, none⟩ (.pointer none)) := Oth.set _ _ _ _ (by simp)
  refine ⟨⟨c1, h1.oth o (by simp; exact h1.ne h2 (by decide)), h1'.1, fun i hi => ?_⟩, ⟨_, h2.set k _, by simp [h2'.1], fun i hi => ?_⟩, ⟨c3, h3.oth o (by simp; exact Ne.symm (h2.ne h3 (by decide))), h3'⟩, fun i hi => ?_, fun i hi => ?_, fun i hi j hj' hij a b => ?_, h7, h8⟩
  · by_cases e : i = k
    · subst e; rw [set4_self, h1'.2 i hi, hj]; rfl
    · rw [set4_ne _ _ e]; exact h1'.2 i hi
  · rw [get4 h2'.1 hk]
    by_cases e : i = k
    · subst e; rw [if_pos rfl, set4_self]; rfl
    · rw [if_neg (Ne.symm e), set4_ne _ _ e]; exact h2'.2 i hi
  · by_cases e : i = k
    · subst e; rw [set4_self]; trivial
    · rw [set4_ne _ _ e]; exact (h4 i hi).oth o fun hi' => by simp; exact (h4 i hi).ne hi' h2 (by decide)
  · exact (h5 i hi).oth o fun g hg => by simp; exact (h5 i hi).bne h2 (by decide) g hg
  · have hik : i ≠ k := fun e => a (by rw [e, set4_self])
    have hjk : j ≠ k := fun e => b (by rw [e, set4_self])
    rw [set4_ne _ _ hik] at a
    rw [set4_ne _ _ hjk] at b
    exact h6 i hi j hj' hij a b
/-- a job is begun: its machine lies in a block that was made -/
theorem Crew.popNew (h : Crew w0 w PB QB HB jb mp vh hs M) (hk : k < 4) (hj : jb k = .idle) {p : Nat} {x : PopS} (hp : Blk w0 w p 79 x.cells) (hn : ∀ j, j < 4 → jb j ≠ .idle → mp j ≠ p) : Crew w0 (w.setCell ⟨PB, k, none⟩ (ptr p)) PB QB HB (set4 jb k (.pop x)) (set4 mp k p) vh hs M := by
  obtain ⟨⟨c1, h1, h1'⟩, ⟨c2, h2, h2'⟩, ⟨c3, h3, h3'⟩, h4, h5, h6, h7, h8⟩ := h
  have o : Oth [PB] w (w.setCell ⟨PB, k, none⟩ (ptr p)) := Oth.set _ _ _ _ (by simp)
  refine ⟨⟨_, h1.set k _, by simp [h1'.1], fun i hi => ?_⟩, ⟨c2, h2.oth o (by simp; exact Ne.symm (h1.ne h2 (by decide))), h2'.1, fun i hi => ?_⟩, ⟨c3, h3.oth o (by simp; exact Ne.symm (h1.ne h3 (by decide))), h3'⟩, fun i hi => ?_, fun i hi => ?_, fun i hi j hj' hij a b => ?_, h7, h8⟩
  · rw [get4 h1'.1 hk]
    by_cases e : i = k
    · subst e; rw [if_pos rfl, set4_self, set4_self]; rfl
    · rw [if_neg (Ne.symm e), set4_ne _ _ e, set4_ne _ _ e]; exact h1'.2 i hi
  · by_cases e : i = k
    · subst e; rw [set4_self, h2'.2 i hi, hj]; rfl
    · rw [set4_ne _ _ e, set4_ne _ _ e]; exact h2'.2 i hi
  · by_cases e : i = k
    · subst e; rw [set4_self, set4_self]; exact hp.oth o (by simp; exact hp.ne h1 (by decide))
    · rw [set4_ne _ _ e, set4_ne _ _ e]; exact (h4 i hi).oth o fun hi' => by simp; exact (h4 i hi).ne hi' h1 (by decide)
  · exact (h5 i hi).oth o fun g hg => by simp; exact (h5 i hi).bne h1 (by decide) g hg
  · by_cases e : i = k
    · subst e
      have hjk : j ≠ i := Ne.symm hij
      rw [set4_ne _ _ hjk] at b
      rw [set4_self, set4_ne _ _ hjk]
      exact Ne.symm (hn j hj' b)
    · rw [set4_ne _ _ e] at a
      rw [set4_ne _ _ e]
      by_cases e2 : j = k
      · subst e2; rw [set4_self]; exact hn i hi a
      · rw [set4_ne _ _ e2] at b ⊢; exact h6 i hi j hj' hij a b
theorem Crew.pushNew (h : Crew w0 w PB QB HB jb mp vh hs M) (hk : k < 4) (hj : jb k = .idle) {p : Nat} {x : PushS} (hp : Blk w0 w p 82 x.cells) (hn : ∀ j, j < 4 → jb j ≠ .idle → mp j ≠ p) : Crew w0 (w.setCell ⟨QB, k, none⟩ (ptr p)) PB QB HB (set4 jb k (.push x)) (set4 mp k p) vh hs M := by
  obtain ⟨⟨c1, h1, h1'⟩, ⟨c2, h2, h2'⟩, ⟨c3, h3, h3'⟩, h4, h5, h6, h7, h8⟩ := h
  have o : Oth [QB] w (w.setCell ⟨QB, k, none⟩ (ptr p)) := Oth.set _ _ _ _ (by simp)
  refine ⟨⟨c1, h1.oth o (by simp; exact h1.ne h2 (by decide)), h1'.1, fun i hi => ?_⟩, ⟨_, h2.set k _, by simp [h2'.1], fun i hi => ?_⟩, ⟨c3, h3.oth o (by simp; exact Ne.symm (h2.ne h3 (by decide))), h3'⟩, fun i hi => ?_, fun i hi => ?_, fun i hi j hj' hij a b => ?_, h7, h8⟩
  · by_cases e : i = k
    · subst e; rw [set4_self, h1'.2 i hi, hj]; rfl
    · rw [set4_ne _ _ e, set4_ne _ _ e]; exact h1'.2 i hi
  · rw [get4 h2'.1 hk]
    by_cases e : i = k
    · subst e; rw [if_pos rfl, set4_self, set4_self]; rfl
    · rw [if_neg (Ne.symm e), set4_ne _ _ e, set4_ne _ _ e]; exact h2'.2 i hi
  · by_cases e : i = k
    · subst e; rw [set4_self, set4_self]; exact hp.oth o (by simp; exact hp.ne h2 (by decide))
    · rw [set4_ne _ _ e, set4_ne _ _ e]; exact (h4 i hi).oth o fun hi' => by simp; exact (h4 i hi).ne hi' h2 (by decide)
  · exact (h5 i hi).oth o fun g hg => by simp; exact (h5 i hi).bne h2 (by decide) g hg
  · by_cases e : i = k
    · subst e
      have hjk : j ≠ i := Ne.symm hij
      rw [set4_ne _ _ hjk] at b
      rw [set4_self, set4_ne _ _ hjk]
      exact Ne.symm (hn j hj' b)
    · rw [set4_ne _ _ e] at a
      rw [set4_ne _ _ e]
      by_cases e2 : j = k
      · subst e2; rw [set4_self]; exact hn i hi a
      · rw [set4_ne _ _ e2] at b ⊢; exact h6 i hi j hj' hij a b
/-- what a worker has is another row -/
theorem Crew.hasSet (h : Crew w0 w PB QB HB jb mp vh hs M) (hk : k < 4) (o : Oth (vh k).ownBlock.toList w w') {v' : Value} {l' : List Int} (hr : RowI w0 w' v' l') (hn : ∀ g, v'.ownBlock = some g → (vh k).ownBlock = some g ∨ w.heap.size ≤ g) {M' : Nat} (hM : M ≤ M') (hl : l'.length ≤ M') :
    Crew w0 (w'.setCell ⟨HB, k, none⟩ v') PB QB HB jb mp (set4 vh k v') (set4 hs k l') M' := by
  obtain ⟨⟨c1, h1, h1'⟩, ⟨c2, h2, h2'⟩, ⟨c3, h3, h3'⟩, h4, h5, h6, h7, h8⟩ := h
  have rk := h5 k hk
  have b1 := h1.oth o (fun hm => rk.bne h1 (by decide) PB (by simpa using hm) rfl)
  have b2 := h2.oth o (fun hm => rk.bne h2 (by decide) QB (by simpa using hm) rfl)
  have b3 := h3.oth o (fun hm => rk.bne h3 (by decide) HB (by simpa using hm) rfl)
  have o2 : Oth [HB] w' (w'.setCell ⟨HB, k, none⟩ v') := Oth.set _ _ _ _ (by simp)
  have m4 : ∀ i, i < 4 → JobAt w0 w' (mp i) (jb i) := fun i hi => (h4 i hi).oth o fun hi' hm => by
    have hm' : (vh k).ownBlock = some (mp i) := by simpa using hm
    cases hji : jb i with
    | idle => exact hi' hji
    | pop x => have := h4 i hi; rw [hji] at this; exact rk.bne this (by decide) _ hm' rfl
    | push x => have := h4 i hi; rw [hji] at this; exact rk.bne this (by decide) _ hm' rfl
  refine ⟨⟨c1, b1.oth o2 (by simp; exact b1.ne b3 (by decide)), h1'⟩, ⟨c2, b2.oth o2 (by simp; exact b2.ne b3 (by decide)), h2'⟩, ⟨_, b3.set k _, by simp [h3'.1], fun i hi => ?_⟩, fun i hi => (m4 i hi).oth o2 fun hi' => by simp; exact (m4 i hi).ne hi' b3 (by decide), fun i hi => ?_, h6, fun i hi j hj hij g hg => ?_, fun i hi => ?_⟩
  · rw [get4 h3'.1 hk]
    by_cases e : i = k
    · subst e; rw [if_pos rfl, set4_self]
    · rw [if_neg (Ne.symm e), set4_ne _ _ e]; exact h3'.2 i hi
  · by_cases e : i = k
    · subst e; rw [set4_self, set4_self]; exact hr.oth o2 fun g hg => by simp; exact hr.bne b3 (by decide) g hg
    · rw [set4_ne _ _ e, set4_ne _ _ e]
      have ri := (h5 i hi).oth o fun g hg hm => h7 i hi k hk e g hg (by simpa using hm)
      exact ri.oth o2 fun g hg => by simp; exact ri.bne b3 (by decide) g hg
  · by_cases e : i = k
    · subst e
      rw [set4_self] at hg
      rw [set4_ne _ _ (Ne.symm hij)]
      intro hg'
      rcases hn g hg with h' | h'
      · exact h7 i hi j hj hij g h' hg'
      · have := (h5 j hj).lt g hg'; omega
    · rw [set4_ne _ _ e] at hg
      by_cases e2 : j = k
      · subst e2
        rw [set4_self]
        intro hg'
        rcases hn g hg' with h' | h'
        · exact h7 i hi j hj hij g hg h'
        · have := (h5 i hi).lt g hg; omega
      · rw [set4_ne _ _ e2]; exact h7 i hi j hj hij g hg
  · by_cases e : i = k
    · subst e; rw [set4_self]; exact hl
    · rw [set4_ne _ _ e]; exact Nat.le_trans (h8 i hi) hM
end
end Go.Proofs.YteclgafdflmioaaDoor
