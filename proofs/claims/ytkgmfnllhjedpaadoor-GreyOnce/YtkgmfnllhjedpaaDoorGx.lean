/-
  Three that shade and one that takes: each step, and what it does to how far the game is from its end. No program in sight.
-/
import Derived.Test.YtkgmfnllhjedpaaDoorGv
namespace Go.Proofs.YtkgmfnllhjedpaaDoor
set_option linter.unusedVariables false
set_option maxRecDepth 100000
open S.Plain (t0 t1 tw nx)
open H.Plain (hw pS pC pN pM pG pT pL)

def keepS (y : ShadeS) : Option ShadeS := if y.pc = 0 then none else some y
theorem keepS_none {y : ShadeS} (h : y.pc = 0) : keepS y = none := by simp [keepS, h]
theorem keepS_some {y : ShadeS} (h : y.pc ≠ 0) : keepS y = some y := by simp [keepS, h]
/-- what a step of a thread that shades has done -/
structure Did (s : St) (jb : Nat → Option ShadeS) (x : NextS) (v : Nat) (ow : Int → Nat) (f g : Nat → Bool) (j : Nat) (y : ShadeS) (s' : St) (y' : ShadeS) (l' : List Int) (v' : Nat) (ow' : Int → Nat) : Prop where
  gi : Gi s' (upd jb j (keepS y')) x l' v' ow' f g
  vle : v' ≤ v + 1
  gone : Gone (upd jb j (keepS y')) ow' j
  gones : ∀ i, i ≠ j → Gone jb ow i → Gone (upd jb j (keepS y')) ow' i
  psi : Gone jb ow j → Psi s' ow' (upd jb j (keepS y')) x ≤ Psi s ow jb x
  self : Gone jb ow j → y'.pc ≠ 0 → cdS s' ow' y' = selfc (cdS s ow y) ∧ cdN s' x = cdN s x
  others : ∀ i, i < 3 → i ≠ j → ∀ z, jb i = some z → y'.pc = 0 ∨ (cdN s' x = cdN s x ∧ (cdS s' ow' z = cdS s ow z ∨ cdS s ow z = 3 ∧ cdS s' ow' z = 4))
section
variable {s s' : St} {jb : Nat → Option ShadeS} {x x' : NextS} {l l' : List Int} {v v' j : Nat} {ow ow' : Int → Nat} {f g : Nat → Bool} {y y' : ShadeS} {o : Option ShadeS}
theorem did_still (h : Gi s jb x l v ow f g) (hj : j < 3) (e : jb j = some y) (hs : Still s s') (ho : y'.pc ≠ 0 → Sh s' v ow j y' ∧ y'.Ok ∧ y'.cell = y.cell) (h3 : 3 ≤ y.pc → 3 ≤ y'.pc) (hn : y'.pc = 0 → ow y.cell ≠ 0) (h1 : y'.pc = 1 → ow y.cell ≠ 0) (h2 : Gone jb ow j → y'.pc ≠ 2) (hc : Gone jb ow j → y'.pc ≠ 0 → cdS s' ow y' = selfc (cdS s ow y)) : Did s jb x v ow f g j y s' y' l v ow := by
  have w1 := hs.word 1 In1
  have e1 := cdN_same w1 x
  refine ⟨h.still hj e hs (fun z hz => ?_) (fun k => ?_) (fun k => ?_), by omega, fun z hz k => ?_, fun i hi hg z hz => ?_, fun hg => ?_, fun hg k => ⟨hc hg k, e1⟩, fun i hi hij z hz => .inr ⟨e1, .inl (cdS_same w1 (fun _ => Iff.rfl))⟩⟩
  · unfold keepS at hz
    split at hz
    · cases hz
    · obtain rfl := Option.some.inj hz; exact ho (by assumption)
  · have := h3 k
    exact ⟨y', keepS_some (by omega), this⟩
  · unfold keepS at k
    split at k
    · exact hn (by assumption)
    · cases k
  · rw [upd_same] at hz
    unfold keepS at hz
    split at hz
    · cases hz
    · obtain rfl := Option.some.inj hz
      rw [(ho (by assumption)).2.2]
      exact h1 k
  · rw [upd_other jb _ hi] at hz; exact hg z hz
  · have k := Ps_le (jb := jb) (ow := ow) (o := keepS y') hj (fun a ha _ => by
      unfold keepS at ha
      split at ha
      · simp [t1g] at ha
      · simp [t1g] at ha; exact absurd ha.1 (h2 hg))
    unfold Psi
    rw [e1]
    omega
theorem Gi.shade (h : Gi s jb x l v ow f g) (hv : v < 1000) (hj : j < 3) (e : jb j = some y) : ∃ l' v' ow', Did s jb x v ow f g j y (y.mem s) (y.next s) l' v' ow' := by
  obtain ⟨hy, oky⟩ := h.sh j hj y e
  have ok' : (y.next s).Ok → True := fun _ => trivial
  have C := h.co
  have p5 := hy.pos
  have okn : ∀ (r : s.Rng), (y.next s).Ok := fun r => oky.next r
  have hc := hy.cell
  by_cases p1 : y.pc = 1
  · by_cases ho : ow y.cell = 0
    · obtain ⟨a1, a2, a3, a4⟩ := sh1go C hy p1 ho
      exact ⟨l, v, ow, did_still h hj e a3 (fun _ => ⟨a4, ⟨by
        obtain ⟨q1, q2⟩ := a4.two a1; rw [q1]; exact ⟨by omega, by omega⟩, by
        obtain ⟨c, m, pc, z, hd, q⟩ := y
        obtain rfl : pc = 1 := p1
        have : (ShadeS.next ⟨c, m, 1, z, hd, q⟩ s).list = q := by simp only [ShadeS.next]; split <;> rfl
        rw [this]; exact oky.list, by omega⟩, a2⟩) (fun k => by omega) (fun k => by omega) (fun k => by omega) (fun hg => absurd ho (hg y e p1)) (fun hg => absurd ho (hg y e p1))⟩
    · obtain ⟨a1, a2⟩ := sh1skip C hy p1 ho
      exact ⟨l, v, ow, did_still h hj e a2 (fun k => absurd a1 k) (fun k => by omega) (fun _ => ho) (fun k => by omega) (fun _ => by omega) (fun _ k => absurd a1 k)⟩
  by_cases p2 : y.pc = 2
  · have oke : ∀ pc, pc ≤ 5 → (ShadeS.mk y.cell y.mark pc y.found y.h y.list).Ok := fun pc hp => ⟨oky.found, oky.list, hp⟩
    have en : y.next s = ⟨y.cell, y.mark, if s.ok1 y.cell y.found then 3 else 1, y.found, y.h, y.list⟩ := by
      obtain ⟨c, m, pc, z, hd, q⟩ := y
      obtain rfl : pc = 2 := p2
      rfl
    by_cases ho : ow y.cell = 0
    · obtain ⟨a1, a2, a3, a4, a5⟩ := sh2go C hy p2 ho
      have okk : (y.next s).Ok := by rw [en]; exact oke _ (by split <;> omega)
      have w1 : (y.mem s).word 1 = s.word 1 := a4 1 In1 (Ne.symm hc.ne.2)
      have e1 := cdN_same w1 x
      have hk := keepS_some (y := y.next s) (by omega)
      refine ⟨l, v, setO ow y.cell (2 + j), ?_, by omega, fun z hz k => ?_, fun i hi hg z hz k => ?_, fun hg => ?_, fun hg _ => ⟨?_, e1⟩, fun i hi hij z hz => .inr ⟨e1, ?_⟩⟩
      · exact h.turn hj e a3 (.inl ⟨rfl, w1⟩) (fun b hb _ k => a4 b hb k) (fun c k => k) (.inl ho) (.inl rfl) (fun z hz => by rw [hk] at hz; obtain rfl := Option.some.inj hz; exact ⟨a5, okk, a2⟩) (fun _ => ⟨_, hk, by omega⟩)
      · rw [upd_same, hk] at hz; obtain rfl := Option.some.inj hz; omega
      · rw [upd_other jb _ hi] at hz
        have := hg z hz k
        by_cases q : z.cell = y.cell
        · rw [q, setO_same]; omega
        · rw [setO_other ow _ q]; exact this
      · have : Ps (setO ow y.cell (2 + j)) (upd jb j (keepS (y.next s))) ≤ Ps ow jb := sumN_le 16 fun i hi => by
          by_cases q : ad i = y.cell
          · have t := tg_of hj e p2
            unfold og
            rw [q, setO_same, if_neg (show ¬ 2 + j = 1 by omega), if_pos (show 2 ≤ 2 + j ∧ 2 + j ≤ 4 by omega), ho, if_neg (by omega), if_neg (by omega), if_pos ⟨rfl, t⟩]
            exact Int.le_refl _
          · unfold og
            rw [setO_other ow _ q]
            split
            · omega
            · split
              · omega
              · split
                · rename_i k
                  have : tg jb (ad i) = true := (tg_upd hj k.2).elim (fun k => by rw [hk] at k; simp [t1g] at k; omega) id
                  rw [if_pos ⟨k.1, this⟩]
                  omega
                · split <;> omega
        unfold Psi
        rw [e1]
        omega
      · have c1 : cdS s ow y = 3 := by unfold cdS; rw [p2]; simp [ho]
        have c2 : cdS (y.mem s) (setO ow y.cell (2 + j)) (y.next s) = 5 := by simp [cdS, a1]
        rw [c1, c2]; rfl
      · by_cases q : z.pc = 2 ∧ z.cell = y.cell
        · right
          obtain ⟨q1, q2⟩ := q
          constructor
          · unfold cdS; rw [q1, q2]; simp [ho]
          · unfold cdS; rw [q1, q2, setO_same]; simp
        · left
          refine cdS_same w1 (fun k => ?_)
          rw [setO_other ow _ (fun k' => q ⟨k, k'⟩)]
    · obtain ⟨a1, a2, a3, a4⟩ := sh2no C hy p2 ho
      refine ⟨l, v, ow, did_still h hj e a3 (fun _ => ⟨a4, by rw [en]; exact oke _ (by split <;> omega), a2⟩) (fun k => by omega) (fun k => by omega) (fun _ => ho) (fun _ => by omega) (fun _ _ => ?_)⟩
      have c1 : cdS s ow y = 4 := by unfold cdS; rw [p2]; simp [ho]
      have c2 : cdS (y.mem s) ow (y.next s) = 2 := by simp [cdS, a1]
      rw [c1, c2]; rfl
  by_cases p3 : y.pc = 3
  · obtain ⟨a1, a2, a3, a4, a5⟩ := sh3go C hy p3
    have okk : (y.next s).Ok := by
      obtain ⟨c, u, q1, q2, q3, q4⟩ := a5.four (by omega)
      refine ⟨?_, by rw [q1]; exact ⟨S.Plain.tw_pos _ _, S.Plain.tw_le _ _⟩, by omega⟩
      obtain ⟨c, m, pc, z, hd, q⟩ := y
      obtain rfl : pc = 3 := p3
      exact oky.found
    refine ⟨l, v, ow, did_still h hj e a4 (fun _ => ⟨a5, okk, a2⟩) (fun k => by omega) (fun k => by omega) (fun k => by omega) (fun _ => by omega) (fun _ _ => ?_)⟩
    have c1 : cdS s ow y = 5 := by simp [cdS, p3]
    have c2 : cdS (y.mem s) ow (y.next s) = 6 := by unfold cdS; rw [a1, a3, a4.word 1 In1]; simp
    rw [c1, c2]; rfl
  by_cases p4 : y.pc = 4
  · obtain ⟨a1, a2, a3, a4, a5, a6⟩ := sh4go C hy p4
    have okk : (y.next s).Ok := by
      obtain ⟨c, m, pc, z, hd, q⟩ := y
      obtain rfl : pc = 4 := p4
      exact ⟨oky.found, oky.list, by simp [ShadeS.next]⟩
    have w1 : (y.mem s).word 1 = s.word 1 := a5 1 In1 (Ne.symm hc.ne.2)
    have e1 := cdN_same w1 x
    have hk := keepS_some (y := y.next s) (by omega)
    have o2 := (hy.three (by omega)).1
    have hsame : setO ow y.cell (2 + j) = ow := by rw [← o2]; exact setO_id _ _
    refine ⟨l, v, ow, ?_, by omega, fun z hz k => ?_, fun i hi hg z hz k => ?_, fun hg => ?_, fun hg _ => ⟨?_, e1⟩, fun i hi hij z hz => .inr ⟨e1, .inl (cdS_same w1 (fun _ => Iff.rfl))⟩⟩
    · have := h.turn (n := 2 + j) (o := keepS (y.next s)) hj e (hsame.symm ▸ a4) (.inl ⟨rfl, w1⟩) (fun b hb _ k => a5 b hb k) (fun c k => k) (.inr o2) (.inl rfl) (fun z hz => by rw [hk] at hz; obtain rfl := Option.some.inj hz; exact ⟨hsame.symm ▸ a6, okk, a2⟩) (fun _ => ⟨_, hk, by omega⟩)
      rw [hsame] at this
      exact this
    · rw [upd_same, hk] at hz; obtain rfl := Option.some.inj hz; omega
    · rw [upd_other jb _ hi] at hz; exact hg z hz k
    · have k := Ps_le (jb := jb) (ow := ow) (o := keepS (y.next s)) hj (fun a ha _ => by rw [hk] at ha; simp [t1g] at ha; omega)
      unfold Psi
      rw [e1]
      omega
    · unfold cdS
      rw [p4, a1, a3, w1]
      by_cases q : s.word 1 = y.list
      · simp [q, selfc]
      · simp [q, selfc]
  have p5' : y.pc = 5 := by omega
  by_cases ho : s.word 1 = y.list
  · obtain ⟨a1, a2, a3, a4, a5⟩ := sh5go C hv hy p5' ho
    have hk := keepS_none a1
    have o2 := (hy.three (by omega)).1
    refine ⟨y.cell :: l, v + 1, setO ow y.cell 1, ?_, by omega, fun z hz k => ?_, fun i hi hg z hz k => ?_, fun hg => ?_, fun hg k => absurd a1 k, fun i hi hij z hz => .inl a1⟩
    · exact h.turn hj e a2 (.inr (by omega)) (fun b hb k _ => a4 b hb k) (fun c k => by simp [k]) (.inr o2) (.inr rfl) (fun z hz => by rw [hk] at hz; cases hz) (fun k => by omega)
    · rw [upd_same, hk] at hz; cases hz
    · rw [upd_other jb _ hi] at hz
      have := hg z hz k
      by_cases q : z.cell = y.cell
      · rw [q, setO_same]; omega
      · rw [setO_other ow _ q]; exact this
    · obtain ⟨i, hi, ei⟩ := hdr_ad hc
      have : Ps (setO ow y.cell 1) (upd jb j (keepS (y.next s))) + 3 ≤ Ps ow jb := by
        refine sumN_lt (k := i) 16 hi (fun i hi => ?_) ?_
        · by_cases q : ad i = y.cell
          · unfold og
            rw [q, setO_same, if_pos rfl, o2, if_neg (by omega), if_pos (by omega)]
            omega
          · unfold og
            rw [setO_other ow _ q]
            split
            · omega
            · split
              · omega
              · split
                · rename_i k
                  have : tg jb (ad i) = true := (tg_upd hj k.2).elim (fun k => by rw [hk] at k; simp [t1g] at k) id
                  rw [if_pos ⟨k.1, this⟩]
                  omega
                · split <;> omega
        · unfold og
          rw [ei, setO_same, if_pos rfl, o2, if_neg (by omega), if_pos (by omega)]
          omega
      have := cdN_stale (s := s) (s' := y.mem s) (x := x) h.nx.pos.2
      unfold Psi
      omega
  · obtain ⟨a1, a2, a3, a4⟩ := sh5no C hy p5' ho
    have okk : (y.next s).Ok := by
      obtain ⟨c, m, pc, z, hd, q⟩ := y
      obtain rfl : pc = 5 := p5'
      exact ⟨oky.found, oky.list, by simp only [ShadeS.next]; split <;> omega⟩
    refine ⟨l, v, ow, did_still h hj e a3 (fun _ => ⟨a4, okk, a2⟩) (fun k => by omega) (fun k => by omega) (fun k => by omega) (fun _ => by omega) (fun _ _ => ?_)⟩
    have c1 : cdS s ow y = 9 := by unfold cdS; rw [p5']; simp [ho]
    have c2 : cdS (y.mem s) ow (y.next s) = 5 := by simp [cdS, a1]
    rw [c1, c2]; rfl
/-- what a step of the one that takes has done -/
def keepN (x : NextS) : NextS := if x.pc = 0 then NextS.new else x
structure Took (s : St) (jb : Nat → Option ShadeS) (x : NextS) (l : List Int) (v : Nat) (ow : Int → Nat) (f g : Nat → Bool) (s' : St) (x' : NextS) (l' : List Int) (v' : Nat) (ow' : Int → Nat) (g' : Nat → Bool) : Prop where
  gi : Gi s' jb (keepN x') l' v' ow' f g'
  vle : v' ≤ v + 1
  gones : ∀ i, Gone jb ow i → Gone jb ow' i
  told : x'.pc = 0 → (x'.cell = 0 ∧ g' = g) ∨ ∃ c : Nat, x'.cell = c ∧ 96 ≤ c ∧ c < 160 ∧ g c = false ∧ g' = fun k => if k = c then true else g k
  untold : x'.pc ≠ 0 → g' = g
  psi : Psi s' ow' jb (keepN x') + 1 ≤ Psi s ow jb x ∨ (l' = [] ∧ cdN s' (keepN x') = 0)
  next : (cdN s x = 0 ∧ (cdN s' (keepN x') = 0 ∨ cdN s' (keepN x') = 1)) ∨ (cdN s x = 1 ∧ cdN s' (keepN x') = 3) ∨ (cdN s x = 2 ∧ cdN s' (keepN x') = 4) ∨ (cdN s x = 3 ∧ cdN s' (keepN x') = 5) ∨ (cdN s x = 4 ∧ cdN s' (keepN x') = 0) ∨ (cdN s x = 5 ∧ cdN s' (keepN x') = 0)
  codes : ∀ i, i < 3 → ∀ z, jb i = some z → cdS s' ow' z = (if cdN s x = 3 then stl (cdS s ow z) else cdS s ow z)
theorem keepN_new {x : NextS} (h : x.pc = 0) : keepN x = NextS.new := by simp [keepN, h]
theorem keepN_some {x : NextS} (h : x.pc ≠ 0) : keepN x = x := by simp [keepN, h]
theorem Gi.took (h : Gi s jb x l v ow f g) (hv : v < 1000) (r : s.Rng) : ∃ l' v' ow' g', Took s jb x l v ow f g (x.mem s) (x.next s) l' v' ow' g' := by
  have hx := h.nx
  have C := h.co
  have okn := h.nok.next r
  have p := hx.pos
  have same : ∀ {s' : St}, Still s s' → cdN s x ≠ 3 → ∀ i, i < 3 → ∀ z, jb i = some z → cdS s' ow z = (if cdN s x = 3 then stl (cdS s ow z) else cdS s ow z) := fun hs k i hi z hz => by
    rw [if_neg k]; exact cdS_same (hs.word 1 In1) (fun _ => Iff.rfl)
  by_cases p1 : x.pc = 1
  · have c1 : cdN s x = 0 := by simp [cdN, p1]
    by_cases hl : l = []
    · obtain ⟨a1, a2, a3⟩ := nx1none C hx p1 hl
      have hk := keepN_new a1
      exact ⟨l, v, ow, g, by rw [hk]; exact h.nstill a3 (Nx.new _ _ _ _) NextS.ok_new (by omega), by omega, fun i hg => hg, fun _ => .inl ⟨a2, rfl⟩, fun _ => rfl, .inr ⟨hl, by rw [hk]; rfl⟩, .inl ⟨c1, .inl (by rw [hk]; rfl)⟩, same a3 (by omega)⟩
    · obtain ⟨a1, a2, a3, a4⟩ := nx1go C hx p1 hl
      have hk := keepN_some (x := x.next s) (by omega)
      have c2 : cdN (x.mem s) (x.next s) = 1 := by unfold cdN; rw [a1, a2, a3.word 1 In1]; simp
      exact ⟨l, v, ow, g, by rw [hk]; exact h.nstill a3 a4 okn (by omega), by omega, fun i hg => hg, fun k => by omega, fun _ => rfl, .inl (by rw [hk]; unfold Psi; rw [c1, c2]; show _ + (-1) + 1 ≤ _ + (0 : Int); omega), .inl ⟨c1, .inr (by rw [hk]; exact c2)⟩, same a3 (by omega)⟩
  by_cases p2 : x.pc = 2
  · obtain ⟨a1, a2, a3, a4⟩ := nx2go C hx p2
    have hk := keepN_some (x := x.next s) (by omega)
    by_cases q : s.word 1 = x.list
    · have c1 : cdN s x = 1 := by unfold cdN; rw [p2]; simp [q]
      have c2 : cdN (x.mem s) (x.next s) = 3 := by unfold cdN; rw [a1, a2, a3.word 1 In1]; simp [q]
      exact ⟨l, v, ow, g, by rw [hk]; exact h.nstill a3 a4 okn (by omega), by omega, fun i hg => hg, fun k => by omega, fun _ => rfl, .inl (by rw [hk]; unfold Psi; rw [c1, c2]; show _ + (-2) + 1 ≤ _ + (-1 : Int); omega), .inr (.inl ⟨c1, by rw [hk]; exact c2⟩), same a3 (by omega)⟩
    · have c1 : cdN s x = 2 := by unfold cdN; rw [p2]; simp [q]
      have c2 : cdN (x.mem s) (x.next s) = 4 := by unfold cdN; rw [a1, a2, a3.word 1 In1]; simp [q]
      exact ⟨l, v, ow, g, by rw [hk]; exact h.nstill a3 a4 okn (by omega), by omega, fun i hg => hg, fun k => by omega, fun _ => rfl, .inl (by rw [hk]; unfold Psi; rw [c1, c2]; show _ + 1 + 1 ≤ _ + (2 : Int); omega), .inr (.inr (.inl ⟨c1, by rw [hk]; exact c2⟩)), same a3 (by omega)⟩
  by_cases p3 : x.pc = 3
  · by_cases q : s.word 1 = x.list
    · have c1 : cdN s x = 3 := by unfold cdN; rw [p3]; simp [q]
      obtain ⟨c, rr, el, a1, a2, a3, a4, a5, a6, a7⟩ := nx3go C hv hx p3 q
      have hk := keepN_some (x := x.next s) (by omega)
      have c2 : cdN (x.mem s) (x.next s) = 5 := by simp [cdN, a1]
      have hl4 : t0 (x.next s).list = c := by
        have e1 : (x.next s).list = x.list := by
          obtain ⟨pc, q', hd, cc, k⟩ := x
          obtain rfl : pc = 3 := p3
          rfl
        rw [e1, ← q, C.t0, el]; rfl
      refine ⟨rr, v + 1, setO ow c 5, g, by rw [hk]; exact h.pop el a2 a3 a4 a5 a7 okn (by omega) ⟨a1, hl4⟩, by omega, fun i hg z hz k => ?_, fun k => by omega, fun _ => rfl, .inl ?_, .inr (.inr (.inr (.inl ⟨c1, by rw [hk]; exact c2⟩))), fun i hi z hz => ?_⟩
      · have := hg z hz k
        by_cases e : z.cell = c
        · rw [e, setO_same]; omega
        · rw [setO_other ow 5 e]; exact this
      · obtain ⟨i, hi, ei⟩ := hdr_ad a3
        have : Ps (setO ow c 5) jb + 4 ≤ Ps ow jb := by
          refine sumN_lt (k := i) 16 hi (fun i hi => ?_) ?_
          · by_cases e : ad i = c
            · unfold og
              rw [e, setO_same, a4, if_neg (by omega), if_neg (by omega), if_neg (by omega), if_pos rfl]
              omega
            · unfold og; rw [setO_other ow 5 e]; exact Int.le_refl _
          · unfold og
            rw [ei, setO_same, a4, if_neg (by omega), if_neg (by omega), if_neg (by omega), if_pos rfl]
            omega
        rw [hk]
        unfold Psi
        rw [c1, c2]
        show _ + 1 + 1 ≤ _ + (-2 : Int)
        omega
      · rw [if_pos c1]
        obtain ⟨sz, okz⟩ := h.sh i hi z hz
        have st : 4 ≤ z.pc → (x.mem s).word 1 ≠ z.list := fun k e => by
          obtain ⟨g', u, e1, e2, e3, e4⟩ := sz.four k
          rw [a6, e1] at e
          have := tw_inj (by omega) (by omega) e
          omega
        obtain ⟨cz, m, pc, zz, hd, lz⟩ := z
        have zp := sz.pos
        simp only at zp
        rcases pc_cases5 zp.2 with rfl | rfl | rfl | rfl | rfl | rfl
        · omega
        · rfl
        · simp only [cdS]
          by_cases e : cz = c
          · subst e; rw [setO_same, if_neg (by omega), if_neg (by omega)]; rfl
          · rw [setO_other ow 5 e]; split <;> rfl
        · rfl
        · have := st (by simp)
          simp only [cdS]
          rw [if_neg this]
          split <;> rfl
        · have := st (by simp)
          simp only [cdS]
          rw [if_neg this]
          split <;> rfl
    · obtain ⟨a1, a3, a4⟩ := nx3no C hx p3 q
      have hk := keepN_some (x := x.next s) (by omega)
      have c1 : cdN s x = 4 := by unfold cdN; rw [p3]; simp [q]
      have c2 : cdN (x.mem s) (x.next s) = 0 := by simp [cdN, a1]
      exact ⟨l, v, ow, g, by rw [hk]; exact h.nstill a3 a4 okn (by omega), by omega, fun i hg => hg, fun k => by omega, fun _ => rfl, .inl (by rw [hk]; unfold Psi; rw [c1, c2]; show _ + 0 + 1 ≤ _ + (1 : Int); omega), .inr (.inr (.inr (.inr (.inl ⟨c1, by rw [hk]; exact c2⟩)))), same a3 (by omega)⟩
  have p4 : x.pc = 4 := by omega
  have c1 : cdN s x = 5 := by simp [cdN, p4]
  obtain ⟨c, a1, a2, a3, a4, a5, a6⟩ := nx4go C hx p4
  have hk := keepN_new a1
  obtain ⟨cn, rfl⟩ : ∃ cn : Nat, c = cn := ⟨c.toNat, by have := a3.1; omega⟩
  have lt160 : cn < 160 := by have := a3.2.1; omega
  have ge96 : 96 ≤ cn := by have := a3.1; omega
  have w1 : (x.mem s).word 1 = s.word 1 := a6 1 In1 (Ne.symm a3.ne.2)
  have gf : g cn = false := by
    rcases hg : g cn with _ | _
    · rfl
    · have := (h.told cn lt160).1 hg; omega
  refine ⟨l, v, setO ow cn 6, _, by rw [hk]; exact h.tell a3 a4 a5 a6, by omega, fun i hg z hz k => ?_, fun _ => .inr ⟨cn, a2, ge96, lt160, gf, rfl⟩, fun k => absurd a1 k, .inl ?_, .inr (.inr (.inr (.inr (.inr ⟨c1, by rw [hk]; rfl⟩)))), fun i hi z hz => ?_⟩
  · have := hg z hz k
    by_cases e : z.cell = cn
    · rw [e, setO_same]; omega
    · rw [setO_other ow 6 e]; exact this
  · have : Ps (setO ow cn 6) jb ≤ Ps ow jb := sumN_le 16 fun i hi => by
      by_cases e : ad i = cn
      · unfold og
        rw [e, setO_same, a4, if_neg (by omega), if_neg (by omega), if_neg (by omega)]
        rw [if_neg (by omega), if_neg (by omega), if_neg (by omega)]
        exact Int.le_refl _
      · unfold og; rw [setO_other ow 6 e]; exact Int.le_refl _
    rw [hk]
    unfold Psi
    rw [c1]
    show _ + 0 + 1 ≤ _ + (1 : Int)
    omega
  · rw [if_neg (by omega)]
    refine cdS_same w1 (fun k => ?_)
    by_cases e : z.cell = cn
    · rw [e, setO_same, a4]; omega
    · rw [setO_other ow 6 e]
end
end Go.Proofs.YtkgmfnllhjedpaaDoor
