/-
  Four workers on one list, said plainly: what a step makes of them.
-/
import Derived.Test.YteclgafdflmioaaDoorOq
namespace Go.Proofs.YteclgafdflmioaaDoor
set_option linter.unusedVariables false
open S.Plain (t0 t1 tw nx)
open H.Plain (hw pL)

section
variable {n v k : Nat} {s s' : St} {l l' : List Int} {jb : Nat → Job} {hs : Nat → List Int}
/-- a step that leaves the words alone -/
theorem Inv.quiet (h : Inv n s l v jb hs) (hk : k < 4) (hw : ∀ a, s'.word a = s.word a) (hl : Lst s' l v) (ht : s'.t = 0) {y : Job} (hy : JobOk n s' v y) (hh : y.held = (jb k).held) : Inv n s' l v (set4 jb k y) hs where
  lst := hl
  traps := ht
  cnt := cnt_turn h.cnt hk (fun j _ hjk => own4_ne _ hjk) fun a => by rw [own4_self, hh]; rfl
  job := fun j hj => by
    by_cases e : j = k
    · subst e; rw [set4_self]; exact hy
    · rw [set4_ne _ _ e]; exact (h.job j hj).on (Nat.le_refl _) (hw 3) (fun _ _ _ _ => hw _) fun _ _ => hw _
theorem pot_quiet (hk : k < 4) (h3 : s'.word 3 = s.word 3) {y : Job} {d : Nat} (hy : y.pot s' + d ≤ (jb k).pot s) : pot4 s' (set4 jb k y) + d ≤ pot4 s jb := by
  have h := sum4_one (f := fun j => (set4 jb k y j).pot s') (g := fun j => (jb j).pot s) hk fun j _ hjk => by simp only [set4_ne _ _ hjk]; exact Job.pot_same h3 _
  simp only [set4_self] at h
  unfold pot4
  omega
theorem pot_turn (hk : k < 4) {y : Job} (hy : y.pot s' = 0) (hx : 11 ≤ (jb k).pot s) : pot4 s' (set4 jb k y) + 1 ≤ pot4 s jb := by
  have h := sum4_three (f := fun j => (set4 jb k y j).pot s') (g := fun j => (jb j).pot s) hk fun j _ hjk => by simp only [set4_ne _ _ hjk]; exact Job.pot_turn s s' _
  simp only [set4_self] at h
  unfold pot4
  omega
theorem push_cl (hn : n ≤ 12) (h : Inv n s l v jb hs) {j : Nat} (hj : j < 4) {x : PushS} (hx : jb j = .push x) : Cl x.fst ∧ x.fst ∉ l :=
  have hm : x.fst ∈ own4 jb hs j := by simp [own4, hx, Job.held]
  ⟨cel_cl hn (h.mem_own hj hm), h.own_l hj hm⟩

/-- what a Pop's step comes to -/
def PopEnds (n : Nat) (s : St) (v : Nat) (jb : Nat → Job) (hs : Nat → List Int) (k : Nat) (x' : PopS) (s' : St) : Prop :=
  ∃ l' v', v' ≤ v + 1 ∧ s'.ws.length = 160 ∧
    (((x'.pc == 0) = false ∧ x'.at_ = 0 ∧ Inv n s' l' v' (set4 jb k (.pop x')) hs ∧ pot4 s' (set4 jb k (.pop x')) + 1 ≤ pot4 s jb) ∨
     ((x'.pc == 0) = true ∧ x'.at_ = 0 ∧ Inv n s' l' v' (set4 jb k .idle) hs ∧ pot4 s' (set4 jb k .idle) + 1 ≤ pot4 s jb) ∨
     ((x'.pc == 0) = true ∧ x'.at_ ≠ 0 ∧ Inv n s' l' v' (set4 jb k .idle) (set4 hs k (hs k ++ [x'.at_])) ∧ pot4 s' (set4 jb k .idle) + 1 ≤ pot4 s jb))
def PushEnds (n : Nat) (s : St) (v : Nat) (jb : Nat → Job) (hs : Nat → List Int) (k : Nat) (x' : PushS) (s' : St) : Prop :=
  ∃ l' v', v' ≤ v + 1 ∧ s'.ws.length = 160 ∧
    (((x'.pc == 0) = false ∧ Inv n s' l' v' (set4 jb k (.push x')) hs ∧ pot4 s' (set4 jb k (.push x')) + 1 ≤ pot4 s jb) ∨
     ((x'.pc == 0) = true ∧ Inv n s' l' v' (set4 jb k .idle) hs ∧ pot4 s' (set4 jb k .idle) + 1 ≤ pot4 s jb))

theorem Inv.popStep (hn : n ≤ 12) (h : Inv n s l v jb hs) (hk : k < 4) {x : PopS} (hj : jb k = .pop x) (hv : v + 1 < 1099511627776) : PopEnds n s v jb hs k (x.next s) (x.mem s) := by
  have J := h.job k hk
  rw [hj] at J
  obtain ⟨hd, link, seen, pc⟩ := x
  obtain ⟨a1, a2, a3, a4, a5⟩ := J
  simp only at a1 a3 a4 a5
  subst a1
  have hb := h.lst.fb
  have g3 : s.got 3 = tw (first l) v := (In3.got h.lst.len).trans h.lst.head
  have e0 : t0 (tw (first l) v) = first l := t0_tw' hb.1 hb.2
  have hhk : (jb k).held = [] := by rw [hj]; rfl
  rcases pc_cases a2.pc with rfl | rfl | rfl | rfl
  · exact absurd rfl a3
  · have hl1 := h.lst.load 3
    have ht1 : (s.load 3).t = 0 := by rw [t_load h.lst.len In3, h.traps]
    have hp : (jb k).pot s = 13 := by rw [hj]; rfl
    rcases first_cases h.lst.cells with ⟨f0, fl⟩ | ⟨fc, fl⟩
    · have e1 : PopS.next ⟨3, link, seen, 1⟩ s = ⟨3, link, tw (first l) v, 0⟩ := by simp only [PopS.next, g3]; rw [e0, if_pos f0]
      rw [e1, show PopS.mem ⟨3, link, seen, 1⟩ s = s.load 3 from rfl]
      exact ⟨l, v, by omega, hl1.len, .inr (.inl ⟨rfl, by show (if (0 : Nat) = 0 then t0 (tw (first l) v) else 0) = 0; rw [if_pos rfl, e0, f0], h.quiet hk (fun a => word_load s _ a) hl1 ht1 trivial hhk.symm, pot_quiet hk (word_load s _ 3) (by rw [hp]; simp [Job.pot])⟩)⟩
    · have hne : first l ≠ 0 := by have := fc.1; omega
      have e1 : PopS.next ⟨3, link, seen, 1⟩ s = ⟨3, link, tw (first l) v, 2⟩ := by simp only [PopS.next, g3]; rw [e0, if_neg hne]
      rw [e1, show PopS.mem ⟨3, link, seen, 1⟩ s = s.load 3 from rfl]
      have hm : first l ∈ cel 0 n := h.mem_l (by cases l with | nil => exact absurd rfl fl | cons c r => simp [first])
      refine ⟨l, v, by omega, hl1.len, .inl ⟨rfl, rfl, h.quiet hk (fun a => word_load s _ a) hl1 ht1 ?_ hhk.symm, pot_quiet hk (word_load s _ 3) ?_⟩⟩
      · exact ⟨rfl, ⟨⟨S.Plain.tw_pos _ _, S.Plain.tw_le _ _⟩, by simp⟩, by simp, fun _ => ⟨v, first l, Nat.le_refl _, hm, rfl⟩, fun hpc => by simp at hpc⟩
      · rw [hp]
        have : (tw (first l) v == (s.load 3).word 3) = true := by rw [word_load]; simpa using h.lst.head.symm
        simp [Job.pot, dist, this]
  · obtain ⟨u, c, b1, b2, b3⟩ := a4 (by omega)
    have hc := cel_cl hn b2
    have ec : t0 seen = c := by rw [b3]; exact t0_tw' hc.in_.1 hc.in_.2
    have e1 : PopS.next ⟨3, link, seen, 2⟩ s = ⟨3, pL (s.word c), seen, 3⟩ := by simp [PopS.next, ec, hc.in_.got h.lst.len]
    have e2 : PopS.mem ⟨3, link, seen, 2⟩ s = s.load c := by simp [PopS.mem, ec]
    rw [e1, e2]
    have hl1 := h.lst.load c
    have ht1 : (s.load c).t = 0 := by rw [t_load h.lst.len hc.in_, h.traps]
    refine ⟨l, v, by omega, hl1.len, .inl ⟨rfl, rfl, h.quiet hk (fun a => word_load s _ a) hl1 ht1 ?_ hhk.symm, pot_quiet hk (word_load s _ 3) ?_⟩⟩
    · exact ⟨rfl, ⟨a2.seen, by simp⟩, by simp, fun _ => ⟨u, c, b1, b2, b3⟩, fun _ _ => by show pL (s.word (t0 seen)) = _; rw [ec]⟩
    · rw [hj]
      show dist 3 (seen == s.word 3) + 1 ≤ dist 2 (seen == s.word 3)
      cases (seen == s.word 3) <;> simp [dist]
  · have hok := ok1_iff h.lst.len In3 seen
    by_cases hw3 : s.word 3 = seen
    · have hokt : s.ok1 3 seen = true := by rw [hok, hw3]; simp
      have e1 : PopS.next ⟨3, link, seen, 3⟩ s = ⟨3, link, seen, 0⟩ := by simp [PopS.next, hokt]
      have e2 : PopS.mem ⟨3, link, seen, 3⟩ s = s.cas 3 seen (nx seen link) := rfl
      rw [e1, e2]
      obtain ⟨u, c, b1, b2, b3⟩ := a4 (by omega)
      have hc := cel_cl hn b2
      have ec : t0 seen = c := by rw [b3]; exact t0_tw' hc.in_.1 hc.in_.2
      have hlk : pL (s.word c) = link := by have := a5 rfl hw3.symm; rwa [ec] at this
      have ef : first l = c := by rw [← ec, ← hw3, h.lst.head, e0]
      have n0 : c ≠ 0 := by have := hc.1; omega
      cases l with
      | nil => exact absurd ef.symm (by simpa [first] using n0)
      | cons d r =>
        obtain rfl : d = c := ef
        have hL := h.lst.pop (by omega) hw3 (k := link) (by rw [← hlk]; exact h.lst.chain.1)
        have eA : PopS.at_ ⟨3, link, seen, 0⟩ = d := by simp [PopS.at_, ec]
        rw [← eA] at n0
        refine ⟨r, v + 1, Nat.le_refl _, hL.len, .inr (.inr ⟨rfl, n0, ⟨hL, by rw [t_cas h.lst.len In3, h.traps], ?_, ?_⟩, pot_turn hk rfl (by rw [hj]; exact dist_pos _ _)⟩)⟩
        · refine cnt_turn h.cnt hk (fun j _ hjk => own4_ne' _ _ hjk) fun a => ?_
          rw [own4_self', eA]
          simp only [own4, hj, Job.held, List.count_append, List.count_cons, List.count_nil, List.append_nil]
          omega
        · intro j hj4
          by_cases e : j = k
          · subst e; rw [set4_self]; trivial
          · rw [set4_ne _ _ e]
            refine (h.job j hj4).past hv hL.head fun y hy => ?_
            have := push_cl hn h hj4 hy
            rw [word_cas_ok h.lst.len In3 this.1.in_ hw3, if_neg this.1.ne]
    · have hokf : s.ok1 3 seen = false := by rw [hok]; simpa using hw3
      have e1 : PopS.next ⟨3, link, seen, 3⟩ s = ⟨3, link, seen, 1⟩ := by simp [PopS.next, hokf]
      have e2 : PopS.mem ⟨3, link, seen, 3⟩ s = s.cas 3 seen (nx seen link) := rfl
      rw [e1, e2]
      have hL := h.lst.cas_no (x := nx seen link) hw3
      refine ⟨l, v, by omega, hL.len, .inl ⟨rfl, rfl, h.quiet hk (fun a => word_cas_no h.lst.len In3 hw3) hL (by rw [t_cas h.lst.len In3, h.traps]) ?_ hhk.symm, pot_quiet hk (word_cas_no h.lst.len In3 hw3) ?_⟩⟩
      · exact ⟨rfl, ⟨a2.seen, by simp⟩, by simp, fun h => absurd rfl h, fun hpc => by simp at hpc⟩
      · rw [hj]
        have : (seen == s.word 3) = false := by simpa using fun e => hw3 e.symm
        simp [Job.pot, dist, this]

theorem Inv.pushStep (hn : n ≤ 12) (h : Inv n s l v jb hs) (hk : k < 4) {x : PushS} (hj : jb k = .push x) (hv : v + 1 < 1099511627776) : PushEnds n s v jb hs k (x.next s) (x.mem s) := by
  have J := h.job k hk
  have hcl := push_cl hn h hk hj
  have hhk : (jb k).held = [x.fst] := by rw [hj]; rfl
  rw [hj] at J
  obtain ⟨hd, fs, ls, cls, seen, pc⟩ := x
  obtain ⟨a1, a2, a3, a4, a5, a6, a7⟩ := J
  simp only at a1 a3 a4 a5 a6 a7 hcl hhk
  subst a1 a4 a5
  have hb := h.lst.fb
  have g3 : s.got 3 = tw (first l) v := (In3.got h.lst.len).trans h.lst.head
  have e0 : t0 (tw (first l) v) = first l := t0_tw' hb.1 hb.2
  rcases pc_cases a2.pc with rfl | rfl | rfl | rfl
  · exact absurd rfl a3
  · have hl1 := h.lst.load 3
    have ht1 : (s.load 3).t = 0 := by rw [t_load h.lst.len In3, h.traps]
    have hp : (jb k).pot s = 13 := by rw [hj]; rfl
    have e1 : PushS.next ⟨3, ls, ls, 0, seen, 1⟩ s = ⟨3, ls, ls, 0, tw (first l) v, 2⟩ := by simp [PushS.next, g3]
    rw [e1, show PushS.mem ⟨3, ls, ls, 0, seen, 1⟩ s = s.load 3 from rfl]
    refine ⟨l, v, by omega, hl1.len, .inl ⟨rfl, h.quiet hk (fun a => word_load s _ a) hl1 ht1 ?_ hhk.symm, pot_quiet hk (word_load s _ 3) ?_⟩⟩
    · exact ⟨rfl, ⟨⟨S.Plain.tw_pos _ _, S.Plain.tw_le _ _⟩, by simp⟩, by simp, rfl, rfl, fun _ => ⟨v, first l, Nat.le_refl _, hb.1, hb.2, rfl⟩, fun hpc => by simp at hpc⟩
    · rw [hp]
      have : (tw (first l) v == (s.load 3).word 3) = true := by rw [word_load]; simpa using h.lst.head.symm
      simp [Job.pot, dist, this]
  · obtain ⟨u, c, b1, b2, b2', b3⟩ := a6 (by omega)
    have ec : t0 seen = c := by rw [b3]; exact t0_tw' b2 b2'
    have e1 : PushS.next ⟨3, ls, ls, 0, seen, 2⟩ s = ⟨3, ls, ls, 0, seen, 3⟩ := rfl
    have e2 : PushS.mem ⟨3, ls, ls, 0, seen, 2⟩ s = s.store ls (hw 0 0 0 0 0 0 c) := by simp [PushS.mem, ec]
    rw [e1, e2]
    have hL := h.lst.store (x := hw 0 0 0 0 0 0 c) hcl.1 hcl.2
    have w3 : (s.store ls (hw 0 0 0 0 0 0 c)).word 3 = s.word 3 := by rw [word_store h.lst.len hcl.1.in_ In3, if_neg (Ne.symm hcl.1.ne)]
    refine ⟨l, v, by omega, hL.len, .inl ⟨rfl, ⟨hL, by rw [t_store h.lst.len hcl.1.in_, h.traps], ?_, ?_⟩, pot_quiet hk w3 ?_⟩⟩
    · exact cnt_turn h.cnt hk (fun j _ hjk => own4_ne _ hjk) fun a => by rw [own4_self]; simp only [own4, hj, Job.held]
    · intro j hj4
      by_cases e : j = k
      · subst e; rw [set4_self]
        refine ⟨rfl, ⟨a2.seen, by simp⟩, by simp, rfl, rfl, fun _ => ⟨u, c, b1, b2, b2', b3⟩, fun _ => ?_⟩
        show pL ((s.store ls (hw 0 0 0 0 0 0 c)).word ls) = t0 seen
        rw [word_store h.lst.len hcl.1.in_ hcl.1.in_, if_pos rfl, pL_hw b2 b2' (by omega) (by omega), ec]
      · rw [set4_ne _ _ e]
        refine (h.job j hj4).on (Nat.le_refl _) w3 (fun y hy hpc hsn => ?_) fun y hy => ?_
        · have Jy := h.job j hj4
          rw [hy] at Jy
          obtain ⟨_, _, _, c4, _⟩ := Jy
          obtain ⟨u', d, d1, d2, d3⟩ := c4 (by omega)
          have hd := cel_cl hn d2
          have ed : t0 y.seen = d := by rw [d3]; exact t0_tw' hd.in_.1 hd.in_.2
          have ef : first l = d := by rw [← ed, hsn, h.lst.head, e0]
          have hm : d ∈ l := by
            cases l with
            | nil => simp only [first] at ef; have := hd.1; omega
            | cons z r => simp only [first] at ef; simp [ef]
          rw [ed, word_store h.lst.len hcl.1.in_ hd.in_, if_neg (fun e : ls = d => hcl.2 (e ▸ hm))]
        · have hy' := push_cl hn h hj4 hy
          have hne : y.fst ∉ own4 jb hs k := h.own_ne hj4 hk e (by simp [own4, hy, Job.held])
          rw [word_store h.lst.len hcl.1.in_ hy'.1.in_, if_neg]
          intro e2
          exact hne (by rw [← e2]; simp [own4, hj, Job.held])
    · rw [hj]
      show dist 3 (seen == (s.store ls (hw 0 0 0 0 0 0 c)).word 3) + 1 ≤ dist 2 (seen == s.word 3)
      rw [w3]
      cases (seen == s.word 3) <;> simp [dist]
  · have hok := ok1_iff h.lst.len In3 seen
    by_cases hw3 : s.word 3 = seen
    · have hokt : s.ok1 3 seen = true := by rw [hok, hw3]; simp
      have e1 : PushS.next ⟨3, ls, ls, 0, seen, 3⟩ s = ⟨3, ls, ls, 0, seen, 0⟩ := by simp [PushS.next, hokt]
      have e2 : PushS.mem ⟨3, ls, ls, 0, seen, 3⟩ s = s.cas 3 seen (nx seen ls) := rfl
      rw [e1, e2]
      have hpl : pL (s.word ls) = first l := by rw [a7 rfl, ← hw3, h.lst.head, e0]
      have hL := h.lst.push1 (by omega) hw3 hpl hcl.1 hcl.2
      refine ⟨ls :: l, v + 1, Nat.le_refl _, hL.len, .inr ⟨rfl, ⟨hL, by rw [t_cas h.lst.len In3, h.traps], ?_, ?_⟩, pot_turn hk rfl (by rw [hj]; exact dist_pos _ _)⟩⟩
      · refine cnt_turn h.cnt hk (fun j _ hjk => own4_ne _ hjk) fun a => ?_
        rw [own4_self]
        simp only [own4, hj, Job.held, List.count_append, List.count_cons, List.count_nil, List.append_nil]
        omega
      · intro j hj4
        by_cases e : j = k
        · subst e; rw [set4_self]; trivial
        · rw [set4_ne _ _ e]
          refine (h.job j hj4).past hv hL.head fun y hy => ?_
          have := push_cl hn h hj4 hy
          rw [word_cas_ok h.lst.len In3 this.1.in_ hw3, if_neg this.1.ne]
    · have hokf : s.ok1 3 seen = false := by rw [hok]; simpa using hw3
      have e1 : PushS.next ⟨3, ls, ls, 0, seen, 3⟩ s = ⟨3, ls, ls, 0, seen, 1⟩ := by simp [PushS.next, hokf]
      have e2 : PushS.mem ⟨3, ls, ls, 0, seen, 3⟩ s = s.cas 3 seen (nx seen ls) := rfl
      rw [e1, e2]
      have hL := h.lst.cas_no (x := nx seen ls) hw3
      refine ⟨l, v, by omega, hL.len, .inl ⟨rfl, h.quiet hk (fun a => word_cas_no h.lst.len In3 hw3) hL (by rw [t_cas h.lst.len In3, h.traps]) ?_ hhk.symm, pot_quiet hk (word_cas_no h.lst.len In3 hw3) ?_⟩⟩
      · exact ⟨rfl, ⟨a2.seen, by simp⟩, by simp, rfl, rfl, fun h => absurd rfl h, fun hpc => by simp at hpc⟩
      · rw [hj]
        have : (seen == s.word 3) = false := by simpa using fun e => hw3 e.symm
        simp [Job.pot, dist, this]
/-- how it begins -/
theorem inv_start (hn : n ≤ 12) : Inv n (laidTo n n) (cel 0 n) n (fun _ => .idle) (fun _ => []) := by
  obtain ⟨h1, h2, h3⟩ := laid_lst hn n (Nat.le_refl _)
  rw [Nat.sub_self] at h1
  exact ⟨h1, h2, fun a => by simp [sum4, own4, Job.held], fun _ _ => trivial⟩
end
end Go.Proofs.YteclgafdflmioaaDoor
