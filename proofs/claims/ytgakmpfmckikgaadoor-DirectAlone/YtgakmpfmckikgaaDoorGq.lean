/-
  A Shade and a Next that step alone, said plainly: no program in sight.
-/
import Derived.Test.YtgakmpfmckikgaaDoorGa
namespace Go.Proofs.YtgakmpfmckikgaaDoor
set_option linter.unusedVariables false
set_option maxRecDepth 100000
open S.Plain (t0 t1 tw nx)
open H.Plain (hw pS pC pN pM pG pT pL)

section
variable {s : St} {a m : Int}
theorem ShadeS.still (x : ShadeS) (s : St) (h : x.pc = 0) : x.next s = x ∧ x.mem s = s := by
  obtain ⟨c, k, pc, z, hd, l⟩ := x
  obtain rfl : pc = 0 := h
  exact ⟨rfl, rfl⟩
theorem NextS.still (x : NextS) (s : St) (h : x.pc = 0) : x.next s = x ∧ x.mem s = s := by
  obtain ⟨pc, l, hd, c, k⟩ := x
  obtain rfl : pc = 0 := h
  exact ⟨rfl, rfl⟩
/-- of what it leaves alone one step -/
theorem shade_skip (hl : s.ws.length = 160) (ha : In a) (h0 : a ≠ 0) (h : skips (s.word a) m) :
    ∃ x1, (ShadeS.new a m).next s = x1 ∧ (ShadeS.new a m).mem s = s.load a ∧ x1.pc = 0 := by
  refine ⟨_, rfl, ?_, ?_⟩
  · simp only [ShadeS.new, if_neg h0, ShadeS.mem]
  · simp only [ShadeS.new, if_neg h0, ShadeS.next, ha.got hl, if_pos h]
/-- of others five -/
theorem shade_alone (hl : s.ws.length = 160) (ha : In a) (h0 : a ≠ 0) (h1 : a ≠ 1) (h : ¬ skips (s.word a) m) (ht : s.t = 0) :
    ∃ x1 x2 x3 x4 x5 s1 s2 s3 s4 s5, (ShadeS.new a m).next s = x1 ∧ (ShadeS.new a m).mem s = s1 ∧ x1.next s1 = x2 ∧ x1.mem s1 = s2 ∧ x2.next s2 = x3 ∧ x2.mem s2 = s3 ∧ x3.next s3 = x4 ∧ x3.mem s3 = s4 ∧ x4.next s4 = x5 ∧ x4.mem s4 = s5 ∧
      x1.pc = 2 ∧ x2.pc = 3 ∧ x3.pc = 4 ∧ x4.pc = 5 ∧ x5.pc = 0 ∧ s5.ws.length = 160 ∧ s5.t = 0 ∧ s5.word 1 = nx (s.word 1) a ∧ s5.word a = (((Hd.of (s.word a)).shade m).link (t0 (s.word 1))).w ∧ ∀ b, In b → b ≠ 1 → b ≠ a → s5.word b = s.word b := by
  have I1 := In1
  obtain ⟨g, hg⟩ : ∃ g, ((Hd.of (s.word a)).shade m) = g := ⟨_, rfl⟩
  obtain ⟨v, hv⟩ : ∃ v, s.word a = v := ⟨_, rfl⟩
  obtain ⟨l, hll⟩ : ∃ l, s.word 1 = l := ⟨_, rfl⟩
  rw [hv] at h hg
  rw [hv, hg]
  obtain ⟨s1, e1⟩ : ∃ s1, s.load a = s1 := ⟨_, rfl⟩
  have l1 : s1.ws.length = 160 := by rw [← e1]; exact hl
  have w1 : ∀ b, s1.word b = s.word b := fun b => by rw [← e1]; rfl
  have c1 : s1.t = 0 := by rw [← e1, t_load hl ha, ht]
  obtain ⟨s2, e2⟩ : ∃ s2, s1.cas a v g.w = s2 := ⟨_, rfl⟩
  have l2 : s2.ws.length = 160 := by rw [← e2]; exact n_cas' l1 _ _ _
  have w2 : ∀ b, In b → s2.word b = if a = b then g.w else s.word b := fun b hb => by rw [← e2, word_cas_ok l1 ha hb ((w1 a).trans hv), w1]
  have c2 : s2.t = 0 := by rw [← e2, t_cas l1 ha, c1]
  obtain ⟨s3, e3⟩ : ∃ s3, s2.load 1 = s3 := ⟨_, rfl⟩
  have l3 : s3.ws.length = 160 := by rw [← e3]; exact l2
  have w3 : ∀ b, s3.word b = s2.word b := fun b => by rw [← e3]; rfl
  have c3 : s3.t = 0 := by rw [← e3, t_load l2 I1, c2]
  have q1 : s2.word 1 = l := by rw [w2 1 I1, if_neg h1, hll]
  obtain ⟨s4, e4⟩ : ∃ s4, s3.store a (g.link (t0 l)).w = s4 := ⟨_, rfl⟩
  have l4 : s4.ws.length = 160 := by rw [← e4]; exact n_store' l3 _ _
  have w4 : ∀ b, In b → s4.word b = if a = b then (g.link (t0 l)).w else s2.word b := fun b hb => by rw [← e4, word_store l3 ha hb, w3]
  have c4 : s4.t = 0 := by rw [← e4, t_store l3 ha, c3]
  have q4 : s4.word 1 = l := by rw [w4 1 I1, if_neg h1, q1]
  obtain ⟨s5, e5⟩ : ∃ s5, s4.cas 1 l (nx l a) = s5 := ⟨_, rfl⟩
  have w5 : ∀ b, In b → s5.word b = if 1 = b then nx l a else s4.word b := fun b hb => by rw [← e5, word_cas_ok l4 I1 hb q4]
  refine ⟨⟨a, m, 2, v, g, 0⟩, ⟨a, m, 3, v, g, 0⟩, ⟨a, m, 4, v, g, l⟩, ⟨a, m, 5, v, g.link (t0 l), l⟩, ⟨a, m, 0, v, g.link (t0 l), l⟩, s1, s2, s3, s4, s5, ?_, ?_, ?_, ?_, ?_, ?_, ?_, ?_, ?_, ?_, rfl, rfl, rfl, rfl, rfl, ?_, ?_, ?_, ?_, ?_⟩
  · simp only [ShadeS.new, if_neg h0, ShadeS.next, ha.got hl, hv, if_neg h, hg]
  · simp only [ShadeS.new, if_neg h0, ShadeS.mem, e1]
  · simp only [ShadeS.next, ok1_iff l1 ha, w1, hv, beq_self_eq_true, if_true]
  · simp only [ShadeS.mem, e2]
  · simp only [ShadeS.next, I1.got l2, q1]
  · simp only [ShadeS.mem, e3]
  · simp only [ShadeS.next]
  · simp only [ShadeS.mem, e4]
  · simp only [ShadeS.next, ok1_iff l4 I1, q4, beq_self_eq_true, if_true]
  · simp only [ShadeS.mem, e5]
  · rw [← e5]; exact n_cas' l4 _ _ _
  · rw [← e5, t_cas l4 I1, c4]
  · rw [w5 1 I1, if_pos rfl, hll]
  · rw [w5 a ha, if_neg (Ne.symm h1), w4 a ha, if_pos rfl, hll]
  · intro b hb b1 ba
    rw [w5 b hb, if_neg (Ne.symm b1), w4 b hb, if_neg (Ne.symm ba), w2 b hb, if_neg (Ne.symm ba)]
theorem next_none (hl : s.ws.length = 160) (h : t0 (s.word 1) = 0) :
    ∃ x1, NextS.new.next s = x1 ∧ NextS.new.mem s = s.load 1 ∧ x1.pc = 0 ∧ x1.cell = 0 ∧ x1.count = 0 := by
  refine ⟨_, rfl, rfl, ?_, rfl, rfl⟩
  simp only [NextS.new, NextS.next, In1.got hl, if_pos h]
theorem next_alone {c : Int} (hl : s.ws.length = 160) (hc : t0 (s.word 1) = c) (c0 : c ≠ 0) (c1 : c ≠ 1) (ci : In c) (ht : s.t = 0) :
    ∃ x1 x2 x3 x4 s1 s2 s3 s4, NextS.new.next s = x1 ∧ NextS.new.mem s = s1 ∧ x1.next s1 = x2 ∧ x1.mem s1 = s2 ∧ x2.next s2 = x3 ∧ x2.mem s2 = s3 ∧ x3.next s3 = x4 ∧ x3.mem s3 = s4 ∧
      x1.pc = 2 ∧ x2.pc = 3 ∧ x3.pc = 4 ∧ x4.pc = 0 ∧ x4.cell = c ∧ x4.count = pN (s.word c) ∧ s4.ws.length = 160 ∧ s4.t = 0 ∧ s4.word 1 = nx (s.word 1) (pL (s.word c)) ∧ s4.word c = (Hd.of (s.word c)).plain.w ∧ ∀ b, In b → b ≠ 1 → b ≠ c → s4.word b = s.word b := by
  have I1 := In1
  obtain ⟨l, hll⟩ : ∃ l, s.word 1 = l := ⟨_, rfl⟩
  obtain ⟨v, hv⟩ : ∃ v, s.word c = v := ⟨_, rfl⟩
  rw [hll] at hc
  rw [hv, hll]
  obtain ⟨s1, e1⟩ : ∃ s1, s.load 1 = s1 := ⟨_, rfl⟩
  have l1 : s1.ws.length = 160 := by rw [← e1]; exact hl
  have w1 : ∀ b, s1.word b = s.word b := fun b => by rw [← e1]; rfl
  have t1' : s1.t = 0 := by rw [← e1, t_load hl I1, ht]
  obtain ⟨s2, e2⟩ : ∃ s2, s1.load c = s2 := ⟨_, rfl⟩
  have l2 : s2.ws.length = 160 := by rw [← e2]; exact l1
  have w2 : ∀ b, s2.word b = s.word b := fun b => by rw [← e2]; exact w1 b
  have t2 : s2.t = 0 := by rw [← e2, t_load l1 ci, t1']
  obtain ⟨s3, e3⟩ : ∃ s3, s2.cas 1 l (nx l (pL v)) = s3 := ⟨_, rfl⟩
  have l3 : s3.ws.length = 160 := by rw [← e3]; exact n_cas' l2 _ _ _
  have w3 : ∀ b, In b → s3.word b = if 1 = b then nx l (pL v) else s.word b := fun b hb => by rw [← e3, word_cas_ok l2 I1 hb ((w2 1).trans hll), w2]
  have t3 : s3.t = 0 := by rw [← e3, t_cas l2 I1, t2]
  obtain ⟨s4, e4⟩ : ∃ s4, s3.store c (Hd.of v).plain.w = s4 := ⟨_, rfl⟩
  have w4 : ∀ b, In b → s4.word b = if c = b then (Hd.of v).plain.w else s3.word b := fun b hb => by rw [← e4, word_store l3 ci hb]
  refine ⟨⟨2, l, Hd.zero, 0, 0⟩, ⟨3, l, Hd.of v, 0, 0⟩, ⟨4, l, Hd.of v, 0, 0⟩, ⟨0, l, (Hd.of v).plain, c, pN v⟩, s1, s2, s3, s4, ?_, ?_, ?_, ?_, ?_, ?_, ?_, ?_, rfl, rfl, rfl, rfl, rfl, rfl, ?_, ?_, ?_, ?_, ?_⟩
  · simp only [NextS.new, NextS.next, I1.got hl, hll, hc, if_neg c0]
  · simp only [NextS.new, NextS.mem, e1]
  · simp only [NextS.next, hc, ci.got l1, w1, hv]
  · simp only [NextS.mem, hc, e2]
  · simp only [NextS.next, ok1_iff l2 I1, w2, hll, beq_self_eq_true, if_true]
  · simp only [NextS.mem, Hd.of, e3]
  · simp only [NextS.next, hc, Hd.of]
  · simp only [NextS.mem, hc, e4]
  · rw [← e4]; exact n_store' l3 _ _
  · rw [← e4, t_store l3 ci, t3]
  · rw [w4 1 I1, if_neg c1, w3 1 I1, if_pos rfl]
  · rw [w4 c ci, if_pos rfl]
  · intro b hb b1 bc
    rw [w4 b hb, if_neg (Ne.symm bc), w3 b hb, if_neg (Ne.symm b1)]
end
end Go.Proofs.YtgakmpfmckikgaaDoor
