/-
  Three that shade and one that takes: the game, said plainly. What holds between steps, and what each step does. No program in sight.
-/
import Derived.Test.YtkgmfnllhjedpaaDoorGh
namespace Go.Proofs.YtkgmfnllhjedpaaDoor
set_option linter.unusedVariables false
set_option maxRecDepth 100000
open S.Plain (t0 t1 tw nx)
open H.Plain (hw pS pC pN pM pG pT pL)

/-- whose an object is: 0 nobody's (white), 1 the list's, 2 + j thread j's, 5 the taker's, 6 told -/
def setO (ow : Int → Nat) (a : Int) (n : Nat) : Int → Nat := fun b => if b = a then n else ow b
theorem setO_same (ow : Int → Nat) (a : Int) (n : Nat) : setO ow a n a = n := by simp [setO]
theorem setO_other (ow : Int → Nat) {a b : Int} (n : Nat) (h : b ≠ a) : setO ow a n b = ow b := by simp [setO, h]
/-- the memory -/
structure Co (s : St) (l : List Int) (v : Nat) (ow : Int → Nat) : Prop where
  len : s.ws.length = 160
  t : s.t = 0
  head : s.word 1 = tw (first l) v
  chain : Ch s l
  objs : ∀ c ∈ l, Hdr c
  nodup : l.Nodup
  on : ∀ a, Hdr a → (ow a = 1 ↔ a ∈ l)
  white : ∀ a, Hdr a → ow a = 0 → s.word a = 17
  marked : ∀ a, Hdr a → ow a ≠ 0 → skips (s.word a) 1
/-- a thread that shades -/
structure Sh (s : St) (v : Nat) (ow : Int → Nat) (j : Nat) (y : ShadeS) : Prop where
  mark : y.mark = 1
  cell : Hdr y.cell
  pos : 1 ≤ y.pc ∧ y.pc ≤ 5
  two : y.pc = 2 → y.found = 17 ∧ y.h = ⟨1, 0, 1, 1, 1, 0, 0⟩
  three : 3 ≤ y.pc → ow y.cell = 2 + j ∧ ∃ L, y.h = ⟨1, 0, 1, 1, 1, 0, L⟩
  four : 4 ≤ y.pc → ∃ c v', y.list = tw c (v' : Nat) ∧ v' ≤ v ∧ Rfr c ∧ (v' = v → y.list = s.word 1)
  five : y.pc = 5 → s.word y.cell = gw (t0 y.list)
/-- the one that takes -/
structure Nx (s : St) (l : List Int) (v : Nat) (ow : Int → Nat) (x : NextS) : Prop where
  pos : 1 ≤ x.pc ∧ x.pc ≤ 4
  zero : x.cell = 0 ∧ x.count = 0
  two : 2 ≤ x.pc → ∃ c v', x.list = tw c (v' : Nat) ∧ v' ≤ v ∧ Hdr c ∧ (x.pc ≤ 3 → c ∈ l ∧ (v' = v → x.list = s.word 1)) ∧ (x.pc = 3 → x.h = Hd.of (s.word c)) ∧ (x.pc = 4 → ow c = 5 ∧ ∃ L, x.h = ⟨1, 0, 1, 1, 1, 0, L⟩)
section
variable {s s' : St} {l l' : List Int} {v v' j : Nat} {ow ow' : Int → Nat} {y : ShadeS} {x : NextS} {a : Int}
theorem Sh.keep (h : Sh s v ow j y) (h1 : v' = v ∧ s'.word 1 = s.word 1 ∨ v < v') (h2 : 3 ≤ y.pc → ow' y.cell = ow y.cell ∧ s'.word y.cell = s.word y.cell) : Sh s' v' ow' j y :=
  ⟨h.mark, h.cell, h.pos, h.two, fun k => by rw [(h2 k).1]; exact h.three k, fun k => by
    obtain ⟨c, u, e, hu, hc, hv⟩ := h.four k
    refine ⟨c, u, e, by omega, hc, fun e' => ?_⟩
    rcases h1 with ⟨g1, g2⟩ | g1
    · rw [g2]; exact hv (by omega)
    · omega, fun k => by rw [(h2 (by omega)).2]; exact h.five k⟩
theorem Nx.keep (h : Nx s l v ow x) (h1 : v' = v ∧ s'.word 1 = s.word 1 ∨ v < v') (h2 : ∀ c ∈ l, c ∈ l' ∧ s'.word c = s.word c) (h3 : ∀ c, Hdr c → ow c = 5 → ow' c = 5) : Nx s' l' v' ow' x :=
  ⟨h.pos, h.zero, fun k => by
    obtain ⟨c, u, e, hu, hc, a1, a2, a3⟩ := h.two k
    refine ⟨c, u, e, by omega, hc, fun k' => ⟨(h2 c (a1 k').1).1, fun e' => ?_⟩, fun k' => ?_, fun k' => ⟨h3 c hc (a3 k').1, (a3 k').2⟩⟩
    · rcases h1 with ⟨g1, g2⟩ | g1
      · rw [g2]; exact (a1 k').2 (by omega)
      · omega
    · rw [(h2 c (a1 (by omega)).1).2]; exact a2 k'⟩
theorem Co.same (h : Co s l v ow) (hl : s'.ws.length = 160) (ht : s'.t = 0) (hw : ∀ b, In b → s'.word b = s.word b) : Co s' l v ow :=
  ⟨hl, ht, by rw [hw 1 In1]; exact h.head, h.chain.same fun c hc => hw c (h.objs c hc).in_, h.objs, h.nodup, h.on, fun a ha e => by rw [hw a ha.in_]; exact h.white a ha e, fun a ha e => by rw [hw a ha.in_]; exact h.marked a ha e⟩
/-- a word of an object that is on no list is written, and it is marked -/
theorem Co.write (h : Co s l v ow) (hl : s'.ws.length = 160) (ht : s'.t = 0) (ha : Hdr a) (hn : a ∉ l) {n : Nat} (n0 : n ≠ 0) (n1 : n ≠ 1) (ha' : skips (s'.word a) 1) (hw : ∀ b, In b → b ≠ a → s'.word b = s.word b) : Co s' l v (setO ow a n) :=
  ⟨hl, ht, by rw [hw 1 In1 (Ne.symm ha.ne.2)]; exact h.head, h.chain.same fun c hc => hw c (h.objs c hc).in_ (fun e => hn (e ▸ hc)), h.objs, h.nodup, fun b hb => by
    by_cases e : b = a
    · subst e; rw [setO_same]; exact ⟨fun k => absurd k n1, fun k => absurd k hn⟩
    · rw [setO_other ow n e]; exact h.on b hb, fun b hb e0 => by
    by_cases e : b = a
    · subst e; rw [setO_same] at e0; exact absurd e0 n0
    · rw [setO_other ow n e] at e0; rw [hw b hb.in_ e]; exact h.white b hb e0, fun b hb e0 => by
    by_cases e : b = a
    · subst e; exact ha'
    · rw [setO_other ow n e] at e0; rw [hw b hb.in_ e]; exact h.marked b hb e0⟩
theorem setO_id (ow : Int → Nat) (a : Int) : setO ow a (ow a) = ow := by
  funext b
  by_cases e : b = a
  · subst e; exact setO_same _ _ _
  · exact setO_other _ _ e
theorem Co.t0 (h : Co s l v ow) : S.Plain.t0 (s.word 1) = first l := by
  have := (first_rfr h.objs).bounds
  rw [h.head]; exact t0_tw' this.1 this.2
theorem Co.notin (h : Co s l v ow) (ha : Hdr a) (hn : ow a ≠ 1) : a ∉ l := fun k => hn ((h.on a ha).2 k)
theorem skip_gw {L : Int} (h : Rfr L) : skips (gw L) 1 := gw_skip h
/-- a head that was seen is the head just if its version is -/
theorem Co.cur (h : Co s l v ow) (hv : v < 1000) {z c : Int} {u : Nat} (e : z = tw c (u : Nat)) (hu : u ≤ v) (hz : u = v → z = s.word 1) : s.word 1 = z ↔ u = v := by
  constructor
  · intro k
    rw [h.head, e] at k
    exact (tw_inj (by omega) (by omega) k).symm
  · intro k; exact (hz k).symm

/-! ### what a step of a thread that shades does -/
/-- what stays: no word changes -/
structure Still (s s' : St) : Prop where
  len : s'.ws.length = 160
  t : s'.t = 0
  word : ∀ b, In b → s'.word b = s.word b
theorem Still.load (hl : s.ws.length = 160) (ht : s.t = 0) {b : Int} (hb : In b) : Still s (s.load b) := ⟨hl, by rw [t_load hl hb]; exact ht, fun _ _ => rfl⟩
theorem Still.cas (hl : s.ws.length = 160) (ht : s.t = 0) {b o z : Int} (hb : In b) (ho : s.word b ≠ o) : Still s (s.cas b o z) := ⟨n_cas' hl _ _ _, by rw [t_cas hl hb]; exact ht, fun _ _ => word_cas_no hl hb ho⟩
theorem sh1skip (C : Co s l v ow) (h : Sh s v ow j y) (p : y.pc = 1) (ho : ow y.cell ≠ 0) : (y.next s).pc = 0 ∧ Still s (y.mem s) := by
  obtain ⟨c, m, pc, z, hd, q⟩ := y
  obtain rfl : pc = 1 := p
  obtain rfl : m = 1 := h.mark
  have hc : Hdr c := h.cell
  refine ⟨?_, Still.load C.len C.t hc.in_⟩
  simp only [ShadeS.next, hc.in_.got C.len, if_pos (C.marked c hc ho)]
theorem sh1go (C : Co s l v ow) (h : Sh s v ow j y) (p : y.pc = 1) (ho : ow y.cell = 0) : (y.next s).pc = 2 ∧ (y.next s).cell = y.cell ∧ Still s (y.mem s) ∧ Sh (y.mem s) v ow j (y.next s) := by
  obtain ⟨c, m, pc, z, hd, q⟩ := y
  obtain rfl : pc = 1 := p
  obtain rfl : m = 1 := h.mark
  have hc : Hdr c := h.cell
  have e17 := C.white c hc ho
  have e : (ShadeS.next ⟨c, 1, 1, z, hd, q⟩ s) = ⟨c, 1, 2, 17, (Hd.of 17).shade 1, q⟩ := by
    simp only [ShadeS.next, hc.in_.got C.len, e17, if_neg no_skip]
  rw [e]
  exact ⟨rfl, rfl, Still.load C.len C.t hc.in_, rfl, hc, ⟨by simp, by simp⟩, fun _ => ⟨rfl, rfl⟩, fun k => by simp at k, fun k => by simp at k, fun k => by simp at k⟩
theorem sh2no (C : Co s l v ow) (h : Sh s v ow j y) (p : y.pc = 2) (ho : ow y.cell ≠ 0) : (y.next s).pc = 1 ∧ (y.next s).cell = y.cell ∧ Still s (y.mem s) ∧ Sh (y.mem s) v ow j (y.next s) := by
  obtain ⟨c, m, pc, z, hd, q⟩ := y
  obtain rfl : pc = 2 := p
  obtain rfl : m = 1 := h.mark
  have hc : Hdr c := h.cell
  obtain ⟨e1, e2⟩ := h.two rfl
  simp only at e1 e2
  subst e1 e2
  have hne : s.word c ≠ 17 := fun k => by have := C.marked c hc ho; rw [k] at this; exact no_skip this
  have hok : s.ok1 c 17 = false := by rw [ok1_iff C.len hc.in_]; simpa using hne
  have e : (ShadeS.next ⟨c, 1, 2, 17, ⟨1, 0, 1, 1, 1, 0, 0⟩, q⟩ s) = ⟨c, 1, 1, 17, ⟨1, 0, 1, 1, 1, 0, 0⟩, q⟩ := by
    simp only [ShadeS.next, hok, Bool.false_eq_true, if_false]
  rw [e]
  exact ⟨rfl, rfl, Still.cas C.len C.t hc.in_ hne, rfl, hc, ⟨by simp, by simp⟩, fun k => by simp at k, fun k => by simp at k, fun k => by simp at k, fun k => by simp at k⟩
theorem sh2go (C : Co s l v ow) (h : Sh s v ow j y) (p : y.pc = 2) (ho : ow y.cell = 0) : (y.next s).pc = 3 ∧ (y.next s).cell = y.cell ∧ Co (y.mem s) l v (setO ow y.cell (2 + j)) ∧ (∀ b, In b → b ≠ y.cell → (y.mem s).word b = s.word b) ∧ Sh (y.mem s) v (setO ow y.cell (2 + j)) j (y.next s) := by
  obtain ⟨c, m, pc, z, hd, q⟩ := y
  obtain rfl : pc = 2 := p
  obtain rfl : m = 1 := h.mark
  have hc : Hdr c := h.cell
  obtain ⟨e1, e2⟩ := h.two rfl
  simp only at e1 e2
  subst e1 e2
  have ho' : ow c = 0 := ho
  have e17 := C.white c hc ho
  have hok : s.ok1 c 17 = true := by rw [ok1_iff C.len hc.in_]; simpa using e17
  have e : (ShadeS.next ⟨c, 1, 2, 17, ⟨1, 0, 1, 1, 1, 0, 0⟩, q⟩ s) = ⟨c, 1, 3, 17, ⟨1, 0, 1, 1, 1, 0, 0⟩, q⟩ := by
    simp only [ShadeS.next, hok, if_true]
  have hw : ∀ b, In b → (s.cas c 17 (gw 0)).word b = if c = b then gw 0 else s.word b := fun b hb => word_cas_ok C.len hc.in_ hb e17
  have em : (ShadeS.mem ⟨c, 1, 2, 17, ⟨1, 0, 1, 1, 1, 0, 0⟩, q⟩ s) = s.cas c 17 (gw 0) := rfl
  rw [e, em]
  refine ⟨rfl, rfl, C.write (n_cas' C.len _ _ _) (by rw [t_cas C.len hc.in_]; exact C.t) hc (C.notin hc (by omega)) (by omega) (by omega) ?_ (fun b hb k => ?_), fun b hb k => ?_, rfl, hc, ⟨by simp, by simp⟩, fun k => by simp at k, fun _ => ⟨setO_same _ _ _, 0, rfl⟩, fun k => by simp at k, fun k => by simp at k⟩
  · rw [hw c hc.in_, if_pos rfl]; exact gw_skip (.inl rfl)
  · rw [hw b hb, if_neg (Ne.symm k)]
  · rw [hw b hb, if_neg (Ne.symm k)]
theorem sh3go (C : Co s l v ow) (h : Sh s v ow j y) (p : y.pc = 3) : (y.next s).pc = 4 ∧ (y.next s).cell = y.cell ∧ (y.next s).list = s.word 1 ∧ Still s (y.mem s) ∧ Sh (y.mem s) v ow j (y.next s) := by
  obtain ⟨c, m, pc, z, hd, q⟩ := y
  obtain rfl : pc = 3 := p
  have hc : Hdr c := h.cell
  have e : (ShadeS.next ⟨c, m, 3, z, hd, q⟩ s) = ⟨c, m, 4, z, hd, s.word 1⟩ := by simp only [ShadeS.next, In1.got C.len]
  rw [e]
  exact ⟨rfl, rfl, rfl, Still.load C.len C.t In1, h.mark, hc, ⟨by simp, by simp⟩, fun k => by simp at k, fun _ => h.three (by simp), fun _ => ⟨first l, v, C.head, Nat.le_refl _, first_rfr C.objs, fun _ => rfl⟩, fun k => by simp at k⟩
theorem sh4go (C : Co s l v ow) (h : Sh s v ow j y) (p : y.pc = 4) : (y.next s).pc = 5 ∧ (y.next s).cell = y.cell ∧ (y.next s).list = y.list ∧ Co (y.mem s) l v ow ∧ (∀ b, In b → b ≠ y.cell → (y.mem s).word b = s.word b) ∧ Sh (y.mem s) v ow j (y.next s) := by
  obtain ⟨c, m, pc, z, hd, q⟩ := y
  obtain rfl : pc = 4 := p
  have hc : Hdr c := h.cell
  obtain ⟨ho, L, rfl⟩ : ow c = 2 + j ∧ ∃ L, hd = ⟨1, 0, 1, 1, 1, 0, L⟩ := h.three (by simp)
  obtain ⟨g, u, e1, hu, hg, hz⟩ := h.four (by simp)
  simp only at e1 hz
  have tg : t0 q = g := by rw [e1]; exact t0_tw' hg.bounds.1 hg.bounds.2
  have hw : ∀ b, In b → (s.store c (gw (t0 q))).word b = if c = b then gw (t0 q) else s.word b := fun b hb => word_store C.len hc.in_ hb
  have em : (ShadeS.mem ⟨c, m, 4, z, ⟨1, 0, 1, 1, 1, 0, L⟩, q⟩ s) = s.store c (gw (t0 q)) := rfl
  rw [em]
  have hco := C.write (n_store' C.len _ _) (by rw [t_store C.len hc.in_]; exact C.t) hc (C.notin hc (by omega)) (n := ow c) (by omega) (by omega) (s' := s.store c (gw (t0 q))) (by rw [hw c hc.in_, if_pos rfl, tg]; exact gw_skip hg) (fun b hb k => by rw [hw b hb, if_neg (Ne.symm k)])
  rw [setO_id] at hco
  refine ⟨rfl, rfl, rfl, hco, fun b hb k => by rw [hw b hb, if_neg (Ne.symm k)], h.mark, hc, ⟨by simp [ShadeS.next], by simp [ShadeS.next]⟩, fun k => by simp [ShadeS.next] at k, fun _ => ⟨ho, _, rfl⟩, fun _ => ⟨g, u, e1, hu, hg, fun k => by rw [hw 1 In1, if_neg hc.ne.2]; exact hz k⟩, fun _ => ?_⟩
  show (s.store c (gw (t0 q))).word c = gw (t0 q)
  rw [hw c hc.in_, if_pos rfl]
theorem sh5no (C : Co s l v ow) (h : Sh s v ow j y) (p : y.pc = 5) (ho : s.word 1 ≠ y.list) : (y.next s).pc = 3 ∧ (y.next s).cell = y.cell ∧ Still s (y.mem s) ∧ Sh (y.mem s) v ow j (y.next s) := by
  obtain ⟨c, m, pc, z, hd, q⟩ := y
  obtain rfl : pc = 5 := p
  have hc : Hdr c := h.cell
  have hok : s.ok1 1 q = false := by rw [ok1_iff C.len In1]; simpa using ho
  have e : (ShadeS.next ⟨c, m, 5, z, hd, q⟩ s) = ⟨c, m, 3, z, hd, q⟩ := by simp only [ShadeS.next, hok, Bool.false_eq_true, if_false]
  rw [e]
  exact ⟨rfl, rfl, Still.cas C.len C.t In1 ho, h.mark, hc, ⟨by simp, by simp⟩, fun k => by simp at k, fun _ => h.three (by simp), fun k => by simp at k, fun k => by simp at k⟩
theorem sh5go (C : Co s l v ow) (hv : v < 1000) (h : Sh s v ow j y) (p : y.pc = 5) (ho : s.word 1 = y.list) : (y.next s).pc = 0 ∧ Co (y.mem s) (y.cell :: l) (v + 1) (setO ow y.cell 1) ∧ y.cell ∉ l ∧ (∀ b, In b → b ≠ 1 → (y.mem s).word b = s.word b) ∧ (y.mem s).word 1 = tw y.cell ((v + 1 : Nat) : Int) := by
  obtain ⟨c, m, pc, z, hd, q⟩ := y
  obtain rfl : pc = 5 := p
  have hc : Hdr c := h.cell
  simp only at ho
  have hok : s.ok1 1 q = true := by rw [ok1_iff C.len In1]; simpa using ho
  have e : (ShadeS.next ⟨c, m, 5, z, hd, q⟩ s).pc = 0 := by simp only [ShadeS.next, hok, if_true]
  have em : (ShadeS.mem ⟨c, m, 5, z, hd, q⟩ s) = s.cas 1 q (nx q c) := rfl
  have hw : ∀ b, In b → (s.cas 1 q (nx q c)).word b = if 1 = b then nx q c else s.word b := fun b hb => word_cas_ok C.len In1 hb ho
  have hn : c ∉ l := C.notin hc (by have := (h.three (by simp)).1; simp only at this; omega)
  have w5 : s.word c = gw (first l) := by have := h.five rfl; simp only at this; rw [this, ← ho, C.t0]
  have w1 : nx q c = tw c ((v + 1 : Nat) : Int) := by rw [← ho, C.head]; exact nx_tw (by omega)
  have wo : ∀ b, In b → b ≠ 1 → (s.cas 1 q (nx q c)).word b = s.word b := fun b hb k => by rw [hw b hb, if_neg (Ne.symm k)]
  rw [e, em]
  refine ⟨rfl, ⟨n_cas' C.len _ _ _, by rw [t_cas C.len In1]; exact C.t, ?_, ⟨?_, ?_⟩, ?_, List.nodup_cons.2 ⟨hn, C.nodup⟩, fun b hb => ?_, fun b hb e0 => ?_, fun b hb e0 => ?_⟩, hn, wo, by rw [hw 1 In1, if_pos rfl, w1]⟩
  · rw [hw 1 In1, if_pos rfl, w1]; rfl
  · show (s.cas 1 q (nx q c)).word c = _
    rw [wo c hc.in_ hc.ne.2]; exact w5
  · exact C.chain.same fun d hd' => wo d (C.objs d hd').in_ (C.objs d hd').ne.2
  · intro d hd'
    simp at hd'
    rcases hd' with rfl | hd'
    · exact hc
    · exact C.objs d hd'
  · show setO ow c 1 b = 1 ↔ b ∈ c :: l
    by_cases k : b = c
    · subst k; rw [setO_same]; simp
    · rw [setO_other ow 1 k]; simp [k]; exact C.on b hb
  · change setO ow c 1 b = 0 at e0
    by_cases k : b = c
    · subst k; rw [setO_same] at e0; omega
    · rw [setO_other ow 1 k] at e0; rw [wo b hb.in_ hb.ne.2]; exact C.white b hb e0
  · change setO ow c 1 b ≠ 0 at e0
    rw [wo b hb.in_ hb.ne.2]
    by_cases k : b = c
    · subst k; rw [w5]; exact gw_skip (first_rfr C.objs)
    · rw [setO_other ow 1 k] at e0; exact C.marked b hb e0

/-! ### what a step of the one that takes does -/
theorem nx1none (C : Co s l v ow) (h : Nx s l v ow x) (p : x.pc = 1) (hl : l = []) : (x.next s).pc = 0 ∧ (x.next s).cell = 0 ∧ Still s (x.mem s) := by
  obtain ⟨pc, q, hd, c, k⟩ := x
  obtain rfl : pc = 1 := p
  refine ⟨?_, h.zero.1, Still.load C.len C.t In1⟩
  simp only [NextS.next, In1.got C.len, C.t0, hl, first, if_true]
theorem nx1go (C : Co s l v ow) (h : Nx s l v ow x) (p : x.pc = 1) (hl : l ≠ []) : (x.next s).pc = 2 ∧ (x.next s).list = s.word 1 ∧ Still s (x.mem s) ∧ Nx (x.mem s) l v ow (x.next s) := by
  obtain ⟨pc, q, hd, c, k⟩ := x
  obtain rfl : pc = 1 := p
  obtain ⟨g, r, rfl⟩ := List.exists_cons_of_ne_nil hl
  have hg := C.objs g (by simp)
  have e : (NextS.next ⟨1, q, hd, c, k⟩ s) = ⟨2, s.word 1, hd, c, k⟩ := by
    simp only [NextS.next, In1.got C.len, C.t0, first, if_neg hg.ne.1]
  rw [e]
  exact ⟨rfl, rfl, Still.load C.len C.t In1, ⟨by simp, by simp⟩, h.zero, fun _ => ⟨g, v, C.head, Nat.le_refl _, hg, fun _ => ⟨by simp, fun _ => rfl⟩, fun k => by simp at k, fun k => by simp at k⟩⟩
theorem nx2go (C : Co s l v ow) (h : Nx s l v ow x) (p : x.pc = 2) : (x.next s).pc = 3 ∧ (x.next s).list = x.list ∧ Still s (x.mem s) ∧ Nx (x.mem s) l v ow (x.next s) := by
  obtain ⟨pc, q, hd, c, k⟩ := x
  obtain rfl : pc = 2 := p
  obtain ⟨g, u, e1, hu, hg, a1, a2, a3⟩ := h.two (by simp)
  simp only at e1 a1
  have tg : t0 q = g := by rw [e1]; exact t0_tw' hg.in_.1 hg.in_.2
  have e : (NextS.next ⟨2, q, hd, c, k⟩ s) = ⟨3, q, Hd.of (s.word g), c, k⟩ := by simp only [NextS.next, tg, hg.in_.got C.len]
  have em : (NextS.mem ⟨2, q, hd, c, k⟩ s) = s.load g := by simp only [NextS.mem, tg]
  rw [e, em]
  exact ⟨rfl, rfl, Still.load C.len C.t hg.in_, ⟨by simp, by simp⟩, h.zero, fun _ => ⟨g, u, e1, hu, hg, fun _ => a1 (by simp), fun _ => rfl, fun k => by simp at k⟩⟩
theorem nx3no (C : Co s l v ow) (h : Nx s l v ow x) (p : x.pc = 3) (ho : s.word 1 ≠ x.list) : (x.next s).pc = 1 ∧ Still s (x.mem s) ∧ Nx (x.mem s) l v ow (x.next s) := by
  obtain ⟨pc, q, hd, c, k⟩ := x
  obtain rfl : pc = 3 := p
  have hok : s.ok1 1 q = false := by rw [ok1_iff C.len In1]; simpa using ho
  have e : (NextS.next ⟨3, q, hd, c, k⟩ s) = ⟨1, q, hd, c, k⟩ := by simp only [NextS.next, hok, Bool.false_eq_true, if_false]
  rw [e]
  exact ⟨rfl, Still.cas C.len C.t In1 ho, ⟨by simp, by simp⟩, h.zero, fun k => by simp at k⟩
theorem nx3go (C : Co s l v ow) (hv : v < 1000) (h : Nx s l v ow x) (p : x.pc = 3) (ho : s.word 1 = x.list) : ∃ c r, l = c :: r ∧ (x.next s).pc = 4 ∧ Co (x.mem s) r (v + 1) (setO ow c 5) ∧ Hdr c ∧ ow c = 1 ∧ (∀ b, In b → b ≠ 1 → (x.mem s).word b = s.word b) ∧ (x.mem s).word 1 = tw (first r) ((v + 1 : Nat) : Int) ∧ Nx (x.mem s) r (v + 1) (setO ow c 5) (x.next s) := by
  obtain ⟨pc, q, hd, cc, k⟩ := x
  obtain rfl : pc = 3 := p
  simp only at ho
  obtain ⟨g, u, e1, hu, hg, a1, a2, a3⟩ := h.two (by simp)
  simp only at e1 a1 a2
  have tg : t0 q = g := by rw [e1]; exact t0_tw' hg.in_.1 hg.in_.2
  have fl : first l = g := by rw [← C.t0, ho, tg]
  obtain ⟨c, r, rfl⟩ : ∃ c r, l = c :: r := List.exists_cons_of_ne_nil (fun e => by have := (a1 (by simp)).1; rw [e] at this; simp at this)
  obtain rfl : c = g := fl
  have hr : ∀ d ∈ r, Hdr d := fun d hd' => C.objs d (by simp [hd'])
  have nd := List.nodup_cons.1 C.nodup
  have hL : Rfr (first r) := first_rfr hr
  have hh : hd = ⟨1, 0, 1, 1, 1, 0, first r⟩ := by rw [a2 trivial, C.chain.1]; exact gw_of hL.bounds.1 hL.bounds.2
  subst hh
  have hok : s.ok1 1 q = true := by rw [ok1_iff C.len In1]; simpa using ho
  have e : (NextS.next ⟨3, q, ⟨1, 0, 1, 1, 1, 0, first r⟩, cc, k⟩ s) = ⟨4, q, ⟨1, 0, 1, 1, 1, 0, first r⟩, cc, k⟩ := by simp only [NextS.next, hok, if_true]
  have em : (NextS.mem ⟨3, q, ⟨1, 0, 1, 1, 1, 0, first r⟩, cc, k⟩ s) = s.cas 1 q (nx q (first r)) := rfl
  have hw : ∀ b, In b → (s.cas 1 q (nx q (first r))).word b = if 1 = b then nx q (first r) else s.word b := fun b hb => word_cas_ok C.len In1 hb ho
  have w1 : nx q (first r) = tw (first r) ((v + 1 : Nat) : Int) := by rw [← ho, C.head]; exact nx_tw (by omega)
  have wo : ∀ b, In b → b ≠ 1 → (s.cas 1 q (nx q (first r))).word b = s.word b := fun b hb k => by rw [hw b hb, if_neg (Ne.symm k)]
  have o1 : ow c = 1 := (C.on c hg).2 (by simp)
  rw [e, em]
  refine ⟨c, r, rfl, rfl, ⟨n_cas' C.len _ _ _, by rw [t_cas C.len In1]; exact C.t, ?_, ?_, hr, nd.2, fun b hb => ?_, fun b hb e0 => ?_, fun b hb e0 => ?_⟩, hg, o1, wo, by rw [hw 1 In1, if_pos rfl, w1], ⟨by simp, by simp⟩, h.zero, fun _ => ⟨c, u, e1, by omega, hg, fun k => by simp at k, fun k => by simp at k, fun _ => ⟨setO_same _ _ _, _, rfl⟩⟩⟩
  · rw [hw 1 In1, if_pos rfl, w1]
  · exact C.chain.2.same fun d hd' => wo d (hr d hd').in_ (hr d hd').ne.2
  · by_cases k : b = c
    · subst k; rw [setO_same]; exact ⟨fun h => by omega, fun h => absurd h nd.1⟩
    · rw [setO_other ow 5 k]; rw [C.on b hb]; simp [k]
  · by_cases k : b = c
    · subst k; rw [setO_same] at e0; omega
    · rw [setO_other ow 5 k] at e0; rw [wo b hb.in_ hb.ne.2]; exact C.white b hb e0
  · rw [wo b hb.in_ hb.ne.2]
    by_cases k : b = c
    · subst k; exact C.marked b hb (by omega)
    · rw [setO_other ow 5 k] at e0; exact C.marked b hb e0
theorem nx4go (C : Co s l v ow) (h : Nx s l v ow x) (p : x.pc = 4) : ∃ c, (x.next s).pc = 0 ∧ (x.next s).cell = c ∧ Hdr c ∧ ow c = 5 ∧ Co (x.mem s) l v (setO ow c 6) ∧ (∀ b, In b → b ≠ c → (x.mem s).word b = s.word b) := by
  obtain ⟨pc, q, hd, cc, k⟩ := x
  obtain rfl : pc = 4 := p
  obtain ⟨g, u, e1, hu, hg, a1, a2, a3⟩ := h.two (by simp)
  simp only at e1
  have tg : t0 q = g := by rw [e1]; exact t0_tw' hg.in_.1 hg.in_.2
  obtain ⟨o5, L, rfl⟩ : ow g = 5 ∧ ∃ L, hd = ⟨1, 0, 1, 1, 1, 0, L⟩ := a3 rfl
  have e : (NextS.next ⟨4, q, ⟨1, 0, 1, 1, 1, 0, L⟩, cc, k⟩ s) = ⟨0, q, ⟨1, 0, 1, 1, 0, 0, 0⟩, g, 1⟩ := by simp only [NextS.next, tg]; rfl
  have em : (NextS.mem ⟨4, q, ⟨1, 0, 1, 1, 1, 0, L⟩, cc, k⟩ s) = s.store g 145 := by
    simp only [NextS.mem, tg]
    rfl
  have hw : ∀ b, In b → (s.store g 145).word b = if g = b then 145 else s.word b := fun b hb => word_store C.len hg.in_ hb
  rw [e, em]
  refine ⟨g, rfl, rfl, hg, o5, C.write (n_store' C.len _ _) (by rw [t_store C.len hg.in_]; exact C.t) hg (C.notin hg (by omega)) (by omega) (by omega) ?_ (fun b hb k => ?_), fun b hb k => ?_⟩
  · rw [hw g hg.in_, if_pos rfl]; decide
  · rw [hw b hb, if_neg (Ne.symm k)]
  · rw [hw b hb, if_neg (Ne.symm k)]
end
end Go.Proofs.YtkgmfnllhjedpaaDoor
