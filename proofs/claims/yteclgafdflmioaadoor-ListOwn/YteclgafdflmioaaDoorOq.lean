/-
  Four workers on one list, said plainly: each cell is on the list or one worker's; whoever has a job comes to its end. No program in sight.
-/
import Derived.Test.YteclgafdflmioaaDoorLq
import Derived.Test.YteclgafdflmioaaDoorLl
import Derived.Test.YteclgafdflmioaaDoorLt
namespace Go.Proofs.YteclgafdflmioaaDoor
set_option linter.unusedVariables false
open S.Plain (t0 t1 tw nx)
open H.Plain (hw pL)

/-- over four workers -/
def sum4 (f : Nat → Nat) : Nat := f 0 + f 1 + f 2 + f 3
theorem sum4_le {f g : Nat → Nat} (h : ∀ k, k < 4 → f k ≤ g k) : sum4 f ≤ sum4 g := by
  have h0 := h 0 (by omega); have h1 := h 1 (by omega); have h2 := h 2 (by omega); have h3 := h 3 (by omega)
  unfold sum4; omega
theorem sum4_eq {f g : Nat → Nat} (h : ∀ k, k < 4 → f k = g k) : sum4 f = sum4 g := by
  have h0 := h 0 (by omega); have h1 := h 1 (by omega); have h2 := h 2 (by omega); have h3 := h 3 (by omega)
  unfold sum4; omega
/-- one has turned, the others have not -/
theorem sum4_one {f g : Nat → Nat} {k : Nat} (hk : k < 4) (h : ∀ j, j < 4 → j ≠ k → f j = g j) : sum4 f + g k = sum4 g + f k := by
  have h0 := h 0 (by omega); have h1 := h 1 (by omega); have h2 := h 2 (by omega); have h3 := h 3 (by omega)
  unfold sum4
  match k, hk with
  | 0, _ => have := h1 (by omega); have := h2 (by omega); have := h3 (by omega); omega
  | 1, _ => have := h0 (by omega); have := h2 (by omega); have := h3 (by omega); omega
  | 2, _ => have := h0 (by omega); have := h1 (by omega); have := h3 (by omega); omega
  | 3, _ => have := h0 (by omega); have := h1 (by omega); have := h2 (by omega); omega
theorem sum4_three {f g : Nat → Nat} {k : Nat} (hk : k < 4) (h : ∀ j, j < 4 → j ≠ k → f j ≤ g j + 3) : sum4 f + g k ≤ sum4 g + f k + 9 := by
  have h0 := h 0 (by omega); have h1 := h 1 (by omega); have h2 := h 2 (by omega); have h3 := h 3 (by omega)
  unfold sum4
  match k, hk with
  | 0, _ => have := h1 (by omega); have := h2 (by omega); have := h3 (by omega); omega
  | 1, _ => have := h0 (by omega); have := h2 (by omega); have := h3 (by omega); omega
  | 2, _ => have := h0 (by omega); have := h1 (by omega); have := h3 (by omega); omega
  | 3, _ => have := h0 (by omega); have := h1 (by omega); have := h2 (by omega); omega
theorem sum4_ge {f : Nat → Nat} {k : Nat} (hk : k < 4) : f k ≤ sum4 f := by
  unfold sum4
  match k, hk with
  | 0, _ => omega
  | 1, _ => omega
  | 2, _ => omega
  | 3, _ => omega
theorem sum4_two {f : Nat → Nat} {j k : Nat} (hj : j < 4) (hk : k < 4) (h : j ≠ k) : f j + f k ≤ sum4 f := by
  unfold sum4
  match j, hj, k, hk with
  | 0, _, 0, _ => omega
  | 0, _, 1, _ => omega
  | 0, _, 2, _ => omega
  | 0, _, 3, _ => omega
  | 1, _, 0, _ => omega
  | 1, _, 1, _ => omega
  | 1, _, 2, _ => omega
  | 1, _, 3, _ => omega
  | 2, _, 0, _ => omega
  | 2, _, 1, _ => omega
  | 2, _, 2, _ => omega
  | 2, _, 3, _ => omega
  | 3, _, 0, _ => omega
  | 3, _, 1, _ => omega
  | 3, _, 2, _ => omega
  | 3, _, 3, _ => omega

def set4 {α : Type} (f : Nat → α) (k : Nat) (x : α) : Nat → α := fun j => if j = k then x else f j
theorem set4_self {α : Type} (f : Nat → α) (k : Nat) (x : α) : set4 f k x k = x := by simp [set4]
theorem set4_ne {α : Type} (f : Nat → α) {j k : Nat} (x : α) (h : j ≠ k) : set4 f k x j = f j := by simp [set4, h]

/-- the cell that a worker lays down -/
def Job.held : Job → List Int
  | .push x => [x.fst]
  | _ => []
/-- what a worker has -/
def own4 (jb : Nat → Job) (hs : Nat → List Int) (k : Nat) : List Int := hs k ++ (jb k).held
/-- a job under way is as it must be -/
def JobOk (n : Nat) (s : St) (v : Nat) : Job → Prop
  | .idle => True
  | .pop x => x.hd = 3 ∧ x.Ok ∧ x.pc ≠ 0 ∧ (x.pc ≠ 1 → ∃ (u : Nat) (c : Int), u ≤ v ∧ c ∈ cel 0 n ∧ x.seen = tw c u) ∧ (x.pc = 3 → x.seen = s.word 3 → pL (s.word (t0 x.seen)) = x.link)
  | .push x => x.hd = 3 ∧ x.Ok ∧ x.pc ≠ 0 ∧ x.lst = x.fst ∧ x.cls = 0 ∧ (x.pc ≠ 1 → ∃ (u : Nat) (c : Int), u ≤ v ∧ 0 ≤ c ∧ c < 160 ∧ x.seen = tw c u) ∧ (x.pc = 3 → pL (s.word x.fst) = t0 x.seen)
structure Inv (n : Nat) (s : St) (l : List Int) (v : Nat) (jb : Nat → Job) (hs : Nat → List Int) : Prop where
  lst : Lst s l v
  traps : s.t = 0
  cnt : ∀ a, l.count a + sum4 (fun k => (own4 jb hs k).count a) = (cel 0 n).count a
  job : ∀ k, k < 4 → JobOk n s v (jb k)

/-- how far a job is from its end -/
def dist (pc : Nat) (fresh : Bool) : Nat := if pc = 1 then 13 else if pc = 2 then (if fresh then 12 else 15) else (if fresh then 11 else 14)
def Job.pot (s : St) : Job → Nat
  | .idle => 0
  | .pop x => dist x.pc (x.seen == s.word 3)
  | .push x => dist x.pc (x.seen == s.word 3)
def pot4 (s : St) (jb : Nat → Job) : Nat := sum4 (fun k => (jb k).pot s)
theorem dist_le (pc : Nat) (b : Bool) : dist pc b ≤ 15 := by unfold dist; split; omega; split <;> cases b <;> simp
theorem dist_turn (pc : Nat) (b c : Bool) : dist pc b ≤ dist pc c + 3 := by unfold dist; split; omega; split <;> cases b <;> cases c <;> simp
theorem dist_pos (pc : Nat) (b : Bool) : 11 ≤ dist pc b := by unfold dist; split; omega; split <;> cases b <;> simp
theorem Job.pot_le (s : St) (j : Job) : j.pot s ≤ 15 := by cases j with | idle => exact Nat.zero_le _ | pop x => exact dist_le _ _ | push x => exact dist_le _ _
theorem Job.pot_turn (s s' : St) (j : Job) : j.pot s' ≤ j.pot s + 3 := by cases j with | idle => exact Nat.zero_le _ | pop x => exact dist_turn _ _ _ | push x => exact dist_turn _ _ _
theorem Job.pot_same {s s' : St} (h : s'.word 3 = s.word 3) (j : Job) : j.pot s' = j.pot s := by cases j with | idle => rfl | pop x => simp only [Job.pot, h] | push x => simp only [Job.pot, h]
theorem pot4_le (s : St) (jb : Nat → Job) : pot4 s jb ≤ 60 := by
  have h := fun k => Job.pot_le s (jb k)
  have h0 := h 0; have h1 := h 1; have h2 := h 2; have h3 := h 3
  simp only [pot4, sum4]; omega

section
variable {n v k : Nat} {s s' : St} {l l' : List Int} {jb : Nat → Job} {hs : Nat → List Int}
theorem cel_cl {n : Nat} (hn : n ≤ 12) {c : Int} (h : c ∈ cel 0 n) : Cl c := by
  obtain ⟨i, _, h2, rfl⟩ := cel_mem.1 h
  exact ⟨by omega, by omega⟩
theorem cel_count (n : Nat) (a : Int) : (cel 0 n).count a ≤ 1 := List.nodup_iff_count.1 cel_nodup a
theorem Inv.mem_l (h : Inv n s l v jb hs) {a : Int} (ha : a ∈ l) : a ∈ cel 0 n := by
  have h1 := h.cnt a
  have h2 := List.count_pos_iff.2 ha
  exact List.count_pos_iff.1 (by omega)
theorem Inv.mem_own (h : Inv n s l v jb hs) (hk : k < 4) {a : Int} (ha : a ∈ own4 jb hs k) : a ∈ cel 0 n := by
  have h1 := h.cnt a
  have h2 := List.count_pos_iff.2 ha
  have h3 := sum4_ge (f := fun k => (own4 jb hs k).count a) hk
  exact List.count_pos_iff.1 (by omega)
theorem Inv.own_l (h : Inv n s l v jb hs) (hk : k < 4) {a : Int} (ha : a ∈ own4 jb hs k) : a ∉ l := fun hl => by
  have h1 := h.cnt a
  have h2 := List.count_pos_iff.2 ha
  have h3 := sum4_ge (f := fun k => (own4 jb hs k).count a) hk
  have h4 := cel_count n a
  have h5 := List.count_pos_iff.2 hl
  omega
theorem Inv.own_ne (h : Inv n s l v jb hs) {j : Nat} (hj : j < 4) (hk : k < 4) (hjk : j ≠ k) {a : Int} (ha : a ∈ own4 jb hs j) : a ∉ own4 jb hs k := fun hl => by
  have h1 := h.cnt a
  have h2 := List.count_pos_iff.2 ha
  have h3 := sum4_two (f := fun k => (own4 jb hs k).count a) hj hk hjk
  have h4 := cel_count n a
  have h5 := List.count_pos_iff.2 hl
  omega
/-- the count over a turn of one worker -/
theorem cnt_turn (h : ∀ a, l.count a + sum4 (fun k => (own4 jb hs k).count a) = (cel 0 n).count a) (hk : k < 4) {jb' : Nat → Job} {hs' : Nat → List Int} (hj : ∀ j, j < 4 → j ≠ k → own4 jb' hs' j = own4 jb hs j)
    (hc : ∀ a, l'.count a + (own4 jb' hs' k).count a = l.count a + (own4 jb hs k).count a) : ∀ a, l'.count a + sum4 (fun k => (own4 jb' hs' k).count a) = (cel 0 n).count a := fun a => by
  have h1 := h a
  have h2 := hc a
  have h3 := sum4_one (f := fun k => (own4 jb' hs' k).count a) (g := fun k => (own4 jb hs k).count a) hk fun j hj4 hjk => by simp only [hj j hj4 hjk]
  omega
theorem own4_ne {j : Nat} (x : Job) (hjk : j ≠ k) : own4 (set4 jb k x) hs j = own4 jb hs j := by simp [own4, set4_ne _ _ hjk]
theorem own4_self (x : Job) : own4 (set4 jb k x) hs k = hs k ++ x.held := by simp [own4, set4_self]
theorem own4_ne' {j : Nat} (x : Job) (y : List Int) (hjk : j ≠ k) : own4 (set4 jb k x) (set4 hs k y) j = own4 jb hs j := by simp [own4, set4_ne _ _ hjk]
theorem own4_self' (x : Job) (y : List Int) : own4 (set4 jb k x) (set4 hs k y) k = y ++ x.held := by simp [own4, set4_self]

/-- jobs stay as they must be where the words that they look at do -/
theorem JobOk.on {j : Job} (h : JobOk n s v j) {v' : Nat} (hv : v ≤ v') (h3 : s'.word 3 = s.word 3) (hp : ∀ x, j = .pop x → x.pc = 3 → x.seen = s.word 3 → s'.word (t0 x.seen) = s.word (t0 x.seen)) (hu : ∀ x, j = .push x → s'.word x.fst = s.word x.fst) : JobOk n s' v' j := by
  cases j with
  | idle => trivial
  | pop x =>
    obtain ⟨a1, a2, a3, a4, a5⟩ := h
    refine ⟨a1, a2, a3, fun hpc => ?_, fun hpc hs => ?_⟩
    · obtain ⟨u, c, b1, b2, b3⟩ := a4 hpc
      exact ⟨u, c, Nat.le_trans b1 hv, b2, b3⟩
    · rw [h3] at hs
      rw [hp x rfl hpc hs]
      exact a5 hpc hs
  | push x =>
    obtain ⟨a1, a2, a3, a4, a5, a6, a7⟩ := h
    refine ⟨a1, a2, a3, a4, a5, fun hpc => ?_, fun hpc => ?_⟩
    · obtain ⟨u, c, b1, b2⟩ := a6 hpc
      exact ⟨u, c, Nat.le_trans b1 hv, b2⟩
    · rw [hu x rfl]; exact a7 hpc
/-- .. and where the head has a new version -/
theorem JobOk.past {j : Job} (h : JobOk n s v j) {c : Int} (hv : v + 1 < 1099511627776) (h3 : s'.word 3 = tw c ((v + 1 : Nat) : Int)) (hu : ∀ x, j = .push x → s'.word x.fst = s.word x.fst) : JobOk n s' (v + 1) j := by
  cases j with
  | idle => trivial
  | pop x =>
    obtain ⟨a1, a2, a3, a4, a5⟩ := h
    refine ⟨a1, a2, a3, fun hpc => ?_, fun hpc hs => ?_⟩
    · obtain ⟨u, c, b1, b2, b3⟩ := a4 hpc
      exact ⟨u, c, by omega, b2, b3⟩
    · obtain ⟨u, d, b1, b2, b3⟩ := a4 (by omega)
      rw [b3, h3] at hs
      have := tw_inj (by omega) hv hs
      omega
  | push x =>
    obtain ⟨a1, a2, a3, a4, a5, a6, a7⟩ := h
    refine ⟨a1, a2, a3, a4, a5, fun hpc => ?_, fun hpc => ?_⟩
    · obtain ⟨u, c, b1, b2⟩ := a6 hpc
      exact ⟨u, c, by omega, b2⟩
    · rw [hu x rfl]; exact a7 hpc
/-- a worker begins a Pop -/
theorem Inv.newPop (h : Inv n s l v jb hs) (hk : k < 4) (hi : jb k = .idle) : Inv n s l v (set4 jb k (.pop (PopS.new 3))) hs where
  lst := h.lst
  traps := h.traps
  cnt := cnt_turn h.cnt hk (fun j _ hjk => own4_ne _ hjk) fun a => by rw [own4_self]; simp [own4, hi, Job.held]
  job := fun j hj => by
    by_cases e : j = k
    · subst e; rw [set4_self]; exact ⟨rfl, PopS.ok_new 3, by simp [PopS.new], fun h => absurd rfl h, fun h => by simp [PopS.new] at h⟩
    · rw [set4_ne _ _ e]; exact h.job j hj
/-- .. or a Push of what was popped first -/
theorem Inv.newPush (h : Inv n s l v jb hs) (hk : k < 4) (hi : jb k = .idle) {a : Int} {r : List Int} (hr : hs k = a :: r) : Inv n s l v (set4 jb k (.push (PushS.new 3 a a 0))) (set4 hs k r) where
  lst := h.lst
  traps := h.traps
  cnt := cnt_turn h.cnt hk (fun j _ hjk => own4_ne' _ _ hjk) fun b => by
    rw [own4_self']
    simp only [own4, hi, Job.held, hr, PushS.new, List.count_append, List.count_cons, List.count_nil]
    omega
  job := fun j hj => by
    by_cases e : j = k
    · subst e; rw [set4_self]; exact ⟨rfl, PushS.ok_new 3 a a 0, by simp [PushS.new], rfl, rfl, fun h => absurd rfl h, fun h => by simp [PushS.new] at h⟩
    · rw [set4_ne _ _ e]; exact h.job j hj
end
end Go.Proofs.YteclgafdflmioaaDoor
