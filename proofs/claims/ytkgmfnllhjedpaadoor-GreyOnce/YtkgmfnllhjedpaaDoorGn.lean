/-
  The game of four: what holds between steps. No program in sight.
-/
import Derived.Test.YtkgmfnllhjedpaaDoorGm
import Derived.Test.YtkgmfnllhjedpaaDoorRt
namespace Go.Proofs.YtkgmfnllhjedpaaDoor
set_option linter.unusedVariables false
set_option maxRecDepth 100000
open S.Plain (t0 t1 tw nx)
open H.Plain (hw pS pC pN pM pG pT pL)

structure Gi (s : St) (jb : Nat → Option ShadeS) (x : NextS) (l : List Int) (v : Nat) (ow : Int → Nat) (f g : Nat → Bool) : Prop where
  co : Co s l v ow
  sh : ∀ j, j < 3 → ∀ y, jb j = some y → Sh s v ow j y ∧ y.Ok
  nx : Nx s l v ow x
  nok : x.Ok
  cl : ∀ a, Hdr a → ∀ j, j < 3 → ow a = 2 + j → ∃ y, jb j = some y ∧ y.cell = a ∧ 3 ≤ y.pc
  hd : ∀ a, Hdr a → ow a = 5 → x.pc = 4 ∧ t0 x.list = a
  le : ∀ a, Hdr a → ow a ≤ 6
  asked : ∀ a : Nat, a < 160 → (f a = true ↔ Hdr (a : Int) ∧ (ow a ≠ 0 ∨ ∃ j, j < 3 ∧ ∃ y, jb j = some y ∧ y.cell = (a : Int)))
  told : ∀ a : Nat, a < 160 → (g a = true ↔ Hdr (a : Int) ∧ ow a = 6)
/-- a machine at its first step has lost its object -/
def Gone (jb : Nat → Option ShadeS) (ow : Int → Nat) (j : Nat) : Prop := ∀ y, jb j = some y → y.pc = 1 → ow y.cell ≠ 0
section
variable {s s' : St} {jb : Nat → Option ShadeS} {x x' : NextS} {l l' : List Int} {v v' j : Nat} {ow : Int → Nat} {f g : Nat → Bool} {y : ShadeS} {o : Option ShadeS}
/-- a thread that shades has stepped, and no word has changed -/
theorem Gi.still (h : Gi s jb x l v ow f g) (hj : j < 3) (e : jb j = some y) (hs : Still s s') (ho : ∀ y', o = some y' → Sh s' v ow j y' ∧ y'.Ok ∧ y'.cell = y.cell) (h3 : 3 ≤ y.pc → ∃ y', o = some y' ∧ 3 ≤ y'.pc) (hn : o = none → ow y.cell ≠ 0) : Gi s' (upd jb j o) x l v ow f g := by
  have hc := (h.sh j hj y e).1.cell
  have w1 : v = v ∧ s'.word 1 = s.word 1 ∨ v < v := .inl ⟨rfl, hs.word 1 In1⟩
  refine ⟨h.co.same hs.len hs.t hs.word, fun i hi z hz => ?_, h.nx.keep w1 (fun c hc => ⟨hc, hs.word c (h.co.objs c hc).in_⟩) (fun _ _ k => k), h.nok, fun a ha i hi k => ?_, h.hd, h.le, fun a ha => ?_, h.told⟩
  · by_cases q : i = j
    · subst q; rw [upd_same] at hz; exact ⟨(ho z hz).1, (ho z hz).2.1⟩
    · rw [upd_other jb _ q] at hz
      obtain ⟨a, b⟩ := h.sh i hi z hz
      exact ⟨a.keep w1 (fun _ => ⟨rfl, hs.word _ a.cell.in_⟩), b⟩
  · obtain ⟨z, e1, e2, e3⟩ := h.cl a ha i hi k
    by_cases q : i = j
    · subst q
      rw [e] at e1
      obtain rfl := Option.some.inj e1
      obtain ⟨y', e4, e5⟩ := h3 e3
      exact ⟨y', by rw [upd_same]; exact e4, (ho y' e4).2.2.trans e2, e5⟩
    · exact ⟨z, by rw [upd_other jb _ q]; exact e1, e2, e3⟩
  · rw [h.asked a ha]
    constructor
    · rintro ⟨h1, h2⟩
      refine ⟨h1, ?_⟩
      rcases h2 with h2 | ⟨i, hi, z, e1, e2⟩
      · exact .inl h2
      · by_cases q : i = j
        · subst q
          rw [e] at e1
          obtain rfl := Option.some.inj e1
          rcases o with _ | y'
          · exact .inl (by rw [← e2]; exact hn rfl)
          · exact .inr ⟨i, hi, y', upd_same _ _ _, (ho y' rfl).2.2.trans e2⟩
        · exact .inr ⟨i, hi, z, by rw [upd_other jb _ q]; exact e1, e2⟩
    · rintro ⟨h1, h2⟩
      refine ⟨h1, ?_⟩
      rcases h2 with h2 | ⟨i, hi, z, e1, e2⟩
      · exact .inl h2
      · by_cases q : i = j
        · subst q
          rw [upd_same] at e1
          exact .inr ⟨i, hi, y, e, (ho z e1).2.2.symm.trans e2⟩
        · rw [upd_other jb _ q] at e1
          exact .inr ⟨i, hi, z, e1, e2⟩
/-- it has stepped, and its object has changed hands -/
theorem Gi.turn (h : Gi s jb x l v ow f g) (hj : j < 3) (e : jb j = some y) {n : Nat} (hc : Co s' l' v' (setO ow y.cell n)) (w1 : v' = v ∧ s'.word 1 = s.word 1 ∨ v < v') (hw : ∀ b, In b → b ≠ 1 → b ≠ y.cell → s'.word b = s.word b) (hl : ∀ c ∈ l, c ∈ l')
    (h0 : ow y.cell = 0 ∨ ow y.cell = 2 + j) (n0 : n = 2 + j ∨ n = 1) (ho : ∀ y', o = some y' → Sh s' v' (setO ow y.cell n) j y' ∧ y'.Ok ∧ y'.cell = y.cell) (h3 : n = 2 + j → ∃ y', o = some y' ∧ 3 ≤ y'.pc) : Gi s' (upd jb j o) x l' v' (setO ow y.cell n) f g := by
  have hd := (h.sh j hj y e).1.cell
  have ne : ∀ {b : Int}, ow b ≠ 0 → ow b ≠ 2 + j → b ≠ y.cell := fun k1 k2 q => by subst q; rcases h0 with h0 | h0 <;> contradiction
  have same : ∀ {b : Int} {m : Nat}, m ≠ 0 → m ≠ 2 + j → m ≠ 1 → (setO ow y.cell n b = m ↔ ow b = m) := fun {b m} m0 mj m1 => by
    clear h3 ho
    by_cases q : b = y.cell
    · subst q; rw [setO_same]; constructor
      · intro k; omega
      · intro k; omega
    · rw [setO_other ow n q]
  have nz : ∀ b, setO ow y.cell n b ≠ 0 ↔ (ow b ≠ 0 ∨ b = y.cell) := fun b => by
    clear h3 ho
    by_cases q : b = y.cell
    · subst q; rw [setO_same]; constructor
      · intro _; exact .inr rfl
      · intro _; omega
    · rw [setO_other ow n q]; constructor
      · exact .inl
      · intro k; exact k.resolve_right q
  refine ⟨hc, fun i hi z hz => ?_, h.nx.keep w1 (fun c hcl => ⟨hl c hcl, ?_⟩) (fun b hb k => (same (by omega) (by omega) (by omega)).2 k), h.nok, fun a ha i hi k => ?_, fun a ha k => h.hd a ha ((same (by omega) (by omega) (by omega)).1 k), fun a ha => ?_, fun a ha => ?_, fun a ha => ?_⟩
  · by_cases q : i = j
    · subst q; rw [upd_same] at hz; exact ⟨(ho z hz).1, (ho z hz).2.1⟩
    · rw [upd_other jb _ q] at hz
      obtain ⟨a, b⟩ := h.sh i hi z hz
      refine ⟨a.keep w1 (fun k => ?_), b⟩
      have oz := (a.three k).1
      have nz' : z.cell ≠ y.cell := ne (by omega) (by omega)
      exact ⟨setO_other ow n nz', hw _ a.cell.in_ a.cell.ne.2 nz'⟩
  · have hcd := h.co.objs c hcl
    have o1 := (h.co.on c hcd).2 hcl
    exact hw c hcd.in_ hcd.ne.2 (ne (by omega) (by omega))
  · by_cases q : i = j
    · subst q
      by_cases qa : a = y.cell
      · subst qa
        rw [setO_same] at k
        obtain ⟨y', e4, e5⟩ := h3 k
        exact ⟨y', by rw [upd_same]; exact e4, (ho y' e4).2.2, e5⟩
      · rw [setO_other ow n qa] at k
        obtain ⟨z, e1, e2, e3⟩ := h.cl a ha i hi k
        rw [e] at e1
        obtain rfl := Option.some.inj e1
        exact absurd e2.symm qa
    · by_cases qa : a = y.cell
      · subst qa
        rw [setO_same] at k
        clear h3 ho
        omega
      · rw [setO_other ow n qa] at k
        obtain ⟨z, e1, e2, e3⟩ := h.cl a ha i hi k
        exact ⟨z, by rw [upd_other jb _ q]; exact e1, e2, e3⟩
  · by_cases qa : a = y.cell
    · subst qa; rw [setO_same]; clear h3 ho; omega
    · rw [setO_other ow n qa]; exact h.le a ha
  · rw [h.asked a ha, nz]
    constructor
    · rintro ⟨h1, h2⟩
      refine ⟨h1, ?_⟩
      rcases h2 with h2 | ⟨i, hi, z, e1, e2⟩
      · exact .inl (.inl h2)
      · by_cases q : i = j
        · subst q
          rw [e] at e1
          obtain rfl := Option.some.inj e1
          exact .inl (.inr e2.symm)
        · exact .inr ⟨i, hi, z, by rw [upd_other jb _ q]; exact e1, e2⟩
    · rintro ⟨h1, h2⟩
      refine ⟨h1, ?_⟩
      rcases h2 with (h2 | h2) | ⟨i, hi, z, e1, e2⟩
      · exact .inl h2
      · exact .inr ⟨j, hj, y, e, h2.symm⟩
      · by_cases q : i = j
        · subst q
          rw [upd_same] at e1
          exact .inr ⟨i, hi, y, e, (ho z e1).2.2.symm.trans e2⟩
        · rw [upd_other jb _ q] at e1
          exact .inr ⟨i, hi, z, e1, e2⟩
  · rw [h.told a ha, same (by omega) (by omega) (by omega)]
/-- the one that takes has stepped, and no word has changed -/
theorem Gi.nstill (h : Gi s jb x l v ow f g) (hs : Still s s') (hn : Nx s' l v ow x') (ok : x'.Ok) (h4 : x.pc ≠ 4) : Gi s' jb x' l v ow f g := by
  have w1 : v = v ∧ s'.word 1 = s.word 1 ∨ v < v := .inl ⟨rfl, hs.word 1 In1⟩
  exact ⟨h.co.same hs.len hs.t hs.word, fun i hi z hz => ⟨(h.sh i hi z hz).1.keep w1 (fun _ => ⟨rfl, hs.word _ (h.sh i hi z hz).1.cell.in_⟩), (h.sh i hi z hz).2⟩, hn, ok, h.cl, fun a ha k => absurd (h.hd a ha k).1 h4, h.le, h.asked, h.told⟩
theorem Nx.new (s : St) (l : List Int) (v : Nat) (ow : Int → Nat) : Nx s l v ow NextS.new := ⟨⟨by simp [NextS.new], by simp [NextS.new]⟩, ⟨rfl, rfl⟩, fun k => by simp [NextS.new] at k⟩
/-- it has taken the first one off the list -/
theorem Gi.pop (h : Gi s jb x l v ow f g) {c : Int} {r : List Int} (e : l = c :: r) (hc : Co s' r (v + 1) (setO ow c 5)) (hd : Hdr c) (o1 : ow c = 1) (hw : ∀ b, In b → b ≠ 1 → s'.word b = s.word b) (hn : Nx s' r (v + 1) (setO ow c 5) x') (ok : x'.Ok) (h4 : x.pc ≠ 4) (hx : x'.pc = 4 ∧ t0 x'.list = c) : Gi s' jb x' r (v + 1) (setO ow c 5) f g := by
  have same : ∀ {b : Int} {m : Nat}, m ≠ 1 → m ≠ 5 → (setO ow c 5 b = m ↔ ow b = m) := fun {b m} m1 m5 => by
    by_cases q : b = c
    · subst q; rw [setO_same]; constructor
      · intro k; omega
      · intro k; omega
    · rw [setO_other ow 5 q]
  refine ⟨hc, fun i hi z hz => ?_, hn, ok, fun a ha i hi k => h.cl a ha i hi ((same (by omega) (by omega)).1 k), fun a ha k => ?_, fun a ha => ?_, fun a ha => ?_, fun a ha => by rw [h.told a ha, same (by omega) (by omega)]⟩
  · obtain ⟨a, b⟩ := h.sh i hi z hz
    refine ⟨a.keep (.inr (by omega)) (fun k => ⟨?_, hw _ a.cell.in_ a.cell.ne.2⟩), b⟩
    have oz := (a.three k).1
    exact setO_other ow 5 (fun q => by rw [q] at oz; omega)
  · by_cases q : a = c
    · subst q; exact hx
    · rw [setO_other ow 5 q] at k; exact absurd (h.hd a ha k).1 h4
  · by_cases q : a = c
    · subst q; rw [setO_same]; omega
    · rw [setO_other ow 5 q]; exact h.le a ha
  · rw [h.asked a ha]
    have : setO ow c 5 a ≠ 0 ↔ ow a ≠ 0 := not_congr (same (by omega) (by omega))
    rw [this]
/-- it tells the one that it has -/
theorem Gi.tell (h : Gi s jb x l v ow f g) {c : Nat} (hd : Hdr (c : Int)) (o5 : ow c = 5) (hc : Co s' l v (setO ow c 6)) (hw : ∀ b, In b → b ≠ (c : Int) → s'.word b = s.word b) : Gi s' jb NextS.new l v (setO ow c 6) f (fun k => if k = c then true else g k) := by
  have h4 := h.hd c hd o5
  have same : ∀ {b : Int} {m : Nat}, m ≠ 6 → m ≠ 5 → (setO ow c 6 b = m ↔ ow b = m) := fun {b m} m1 m5 => by
    by_cases q : b = c
    · subst q; rw [setO_same]; constructor
      · intro k; omega
      · intro k; omega
    · rw [setO_other ow 6 q]
  have w1 : v = v ∧ s'.word 1 = s.word 1 ∨ v < v := .inl ⟨rfl, hw 1 In1 (Ne.symm hd.ne.2)⟩
  refine ⟨hc, fun i hi z hz => ?_, Nx.new _ _ _ _, NextS.ok_new, fun a ha i hi k => h.cl a ha i hi ((same (by omega) (by omega)).1 k), fun a ha k => ?_, fun a ha => ?_, fun a ha => ?_, fun a ha => ?_⟩
  · obtain ⟨a, b⟩ := h.sh i hi z hz
    refine ⟨a.keep w1 (fun k => ?_), b⟩
    have oz := (a.three k).1
    have nz : z.cell ≠ c := fun q => by rw [q] at oz; omega
    exact ⟨setO_other ow 6 nz, hw _ a.cell.in_ nz⟩
  · by_cases q : a = c
    · subst q; rw [setO_same] at k; omega
    · rw [setO_other ow 6 q] at k
      have := h.hd a ha k
      exact absurd (this.2.symm.trans h4.2) q
  · by_cases q : a = c
    · subst q; rw [setO_same]; omega
    · rw [setO_other ow 6 q]; exact h.le a ha
  · rw [h.asked a ha]
    have : setO ow c 6 a ≠ 0 ↔ ow a ≠ 0 := not_congr (same (by omega) (by omega))
    rw [this]
  · by_cases q : a = c
    · subst q; simp [setO_same, hd]
    · have q' : (a : Int) ≠ c := by omega
      simp only [q, if_false]
      rw [setO_other ow 6 q']
      exact h.told a ha
/-- one begins -/
theorem Gi.begin (h : Gi s jb x l v ow f g) (hj : j < 3) (e : jb j = none) {a : Nat} (ha : Hdr (a : Int)) : Gi s (upd jb j (some (ShadeS.new a 1))) x l v ow (fun k => if k = a then true else f k) g := by
  have n0 : (a : Int) ≠ 0 := ha.ne.1
  have enew : ShadeS.new (a : Int) 1 = ⟨a, 1, 1, 0, Hd.zero, 0⟩ := by simp only [ShadeS.new, if_neg n0]
  refine ⟨h.co, fun i hi z hz => ?_, h.nx, h.nok, fun b hb i hi k => ?_, h.hd, h.le, fun b hb => ?_, h.told⟩
  · by_cases q : i = j
    · subst q
      rw [upd_same, enew] at hz
      obtain rfl := Option.some.inj hz
      exact ⟨⟨rfl, ha, ⟨by simp, by simp⟩, fun k => by simp at k, fun k => by simp at k, fun k => by simp at k, fun k => by simp at k⟩, enew ▸ ShadeS.ok_new a 1⟩
    · rw [upd_other jb _ q] at hz; exact h.sh i hi z hz
  · obtain ⟨z, e1, e2, e3⟩ := h.cl b hb i hi k
    have q : i ≠ j := fun q => by subst q; rw [e] at e1; cases e1
    exact ⟨z, by rw [upd_other jb _ q]; exact e1, e2, e3⟩
  · have key : (∃ i, i < 3 ∧ ∃ y, upd jb j (some (ShadeS.new (a : Int) 1)) i = some y ∧ y.cell = (b : Int)) ↔ ((b = a) ∨ ∃ i, i < 3 ∧ ∃ y, jb i = some y ∧ y.cell = (b : Int)) := by
      constructor
      · rintro ⟨i, hi, z, e1, e2⟩
        by_cases q : i = j
        · subst q
          rw [upd_same, enew] at e1
          obtain rfl := Option.some.inj e1
          exact .inl (by simp only at e2; omega)
        · rw [upd_other jb _ q] at e1; exact .inr ⟨i, hi, z, e1, e2⟩
      · rintro (rfl | ⟨i, hi, z, e1, e2⟩)
        · exact ⟨j, hj, _, upd_same _ _ _, by rw [enew]⟩
        · have q : i ≠ j := fun q => by subst q; rw [e] at e1; cases e1
          exact ⟨i, hi, z, by rw [upd_other jb _ q]; exact e1, e2⟩
    rw [key]
    by_cases q : b = a
    · subst q; simp [ha]
    · simp only [q, if_false, false_or]; exact h.asked b hb
end
end Go.Proofs.YtkgmfnllhjedpaaDoor
