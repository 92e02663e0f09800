/-
  The walk of the law on an access alone.
-/
import Derived.Test.YtgakmpfmckikgaaDoorGa
import Derived.Test.YtgakmpfmckikgaaDoorDt
import Derived.Test.YtgakmpfmckikgaaDoorBg
import Derived.Test.YtgakmpfmckikgaaDoorHand
import Derived.Deep.Cut
import Derived.Deep.RegionHeld3
namespace Go.Proofs.YtgakmpfmckikgaaDoor
set_option linter.unusedVariables false
set_option maxRecDepth 100000
open S.Plain (t0 t1 tw nx)
open H.Plain (hw pS pC pN pM pG pT pL)

section
variable {s : St} {a m : Int}
theorem ShadeS.still (x : ShadeS) (s : St) (h : x.pc = 0) : x.next s = x ∧ x.mem s = s := by
  obtain ⟨c, k, pc, z, hd, l⟩ := x
  obtain rfl : pc = 0 := h
  exact ⟨rfl, rfl⟩
theorem NextS.still (x : NextS) (s : St) (h : x.pc = 0) : x.next s = x ∧ x.mem s = s := by
  obtain ⟨pc, l, hd, c, k⟩ := x
  obtain rfl : pc = 0 := h
  exact ⟨rfl, rfl⟩
/-- of what it leaves alone one step -/
theorem shade_skip (hl : s.ws.length = 160) (ha : In a) (h0 : a ≠ 0) (h : skips (s.word a) m) :
    ∃ x1, (ShadeS.new a m).next s = x1 ∧ (ShadeS.new a m).mem s = s.load a ∧ x1.pc = 0 := by
  refine ⟨_, rfl, ?_, ?_⟩
  · simp only [ShadeS.new, if_neg h0, ShadeS.mem]
  · simp only [ShadeS.new, if_neg h0, ShadeS.next, ha.got hl, if_pos h]
/-- of others five -/
theorem shade_alone (hl : s.ws.length = 160) (ha : In a) (h0 : a ≠ 0) (h1 : a ≠ 1) (h : ¬ skips (s.word a) m) (ht : s.t = 0) :
    ∃ x1 x2 x3 x4 x5 s1 s2 s3 s4 s5, (ShadeS.new a m).next s = x1 ∧ (ShadeS.new a m).mem s = s1 ∧ x1.next s1 = x2 ∧ x1.mem s1 = s2 ∧ x2.next s2 = x3 ∧ x2.mem s2 = s3 ∧ x3.next s3 = x4 ∧ x3.mem s3 = s4 ∧ x4.next s4 = x5 ∧ x4.mem s4 = s5 ∧
      x1.pc = 2 ∧ x2.pc = 3 ∧ x3.pc = 4 ∧ x4.pc = 5 ∧ x5.pc = 0 ∧ s5.ws.length = 160 ∧ s5.t = 0 ∧ s5.word 1 = nx (s.word 1) a ∧ s5.word a = (((Hd.of (s.word a)).shade m).link (t0 (s.word 1))).w ∧ ∀ b, In b → b ≠ 1 → b ≠ a → s5.word b = s.word b := by
  have I1 := In1
  obtain ⟨g, hg⟩ : ∃ g, ((Hd.of (s.word a)).shade m) = g := ⟨_, rfl⟩
  obtain ⟨v, hv⟩ : ∃ v, s.word a = v := ⟨_, rfl⟩
  obtain ⟨l, hll⟩ : ∃ l, s.word 1 = l := ⟨_, rfl⟩
  rw [hv] at h hg
  rw [hv, hg]
  obtain ⟨s1, e1⟩ : ∃ s1, s.load a = s1 := ⟨_, rfl⟩
  have l1 : s1.ws.length = 160 := by rw [← e1]; exact hl
  have w1 : ∀ b, s1.word b = s.word b := fun b => by rw [← e1]; rfl
  have c1 : s1.t = 0 := by rw [← e1, t_load hl ha, ht]
  obtain ⟨s2, e2⟩ : ∃ s2, s1.cas a v g.w = s2 := ⟨_, rfl⟩
  have l2 : s2.ws.length = 160 := by rw [← e2]; exact n_cas' l1 _ _ _
  have w2 : ∀ b, In b → s2.word b = if a = b then g.w else s.word b := fun b hb => by rw [← e2, word_cas_ok l1 ha hb ((w1 a).trans hv), w1]
  have c2 : s2.t = 0 := by rw [← e2, t_cas l1 ha, c1]
  obtain ⟨s3, e3⟩ : ∃ s3, s2.load 1 = s3 := ⟨_, rfl⟩
  have l3 : s3.ws.length = 160 := by rw [← e3]; exact l2
  have w3 : ∀ b, s3.word b = s2.word b := fun b => by rw [← e3]; rfl
  have c3 : s3.t = 0 := by rw [← e3, t_load l2 I1, c2]
  have q1 : s2.word 1 = l := by rw [w2 1 I1, if_neg h1, hll]
  obtain ⟨s4, e4⟩ : ∃ s4, s3.store a (g.link (t0 l)).w = s4 := ⟨_, rfl⟩
  have l4 : s4.ws.length = 160 := by rw [← e4]; exact n_store' l3 _ _
  have w4 : ∀ b, In b → s4.word b = if a = b then (g.link (t0 l)).w else s2.word b := fun b hb => by rw [← e4, word_store l3 ha hb, w3]
  have c4 : s4.t = 0 := by rw [← e4, t_store l3 ha, c3]
  have q4 : s4.word 1 = l := by rw [w4 1 I1, if_neg h1, q1]
  obtain ⟨s5, e5⟩ : ∃ s5, s4.cas 1 l (nx l a) = s5 := ⟨_, rfl⟩
  have w5 : ∀ b, In b → s5.word b = if 1 = b then nx l a else s4.word b := fun b hb => by rw [← e5, word_cas_ok l4 I1 hb q4]
  refine ⟨⟨a, m, 2, v, g, 0⟩, ⟨a, m, 3, v, g, 0⟩, ⟨a, m, 4, v, g, l⟩, ⟨a, m, 5, v, g.link (t0 l), l⟩, ⟨a, m, 0, v, g.link (t0 l), l⟩, s1, s2, s3, s4, s5, ?_, ?_, ?_, ?_, ?_, ?_, ?_, ?_, ?_, ?_, rfl, rfl, rfl, rfl, rfl, ?_, ?_, ?_, ?_, ?_⟩
  · simp only [ShadeS.new, if_neg h0, ShadeS.next, ha.got hl, hv, if_neg h, hg]
  · simp only [ShadeS.new, if_neg h0, ShadeS.mem, e1]
  · simp only [ShadeS.next, ok1_iff l1 ha, w1, hv, beq_self_eq_true, if_true]
  · simp only [ShadeS.mem, e2]
  · simp only [ShadeS.next, I1.got l2, q1]
  · simp only [ShadeS.mem, e3]
  · simp only [ShadeS.next]
  · simp only [ShadeS.mem, e4]
  · simp only [ShadeS.next, ok1_iff l4 I1, q4, beq_self_eq_true, if_true]
  · simp only [ShadeS.mem, e5]
  · rw [← e5]; exact n_cas' l4 _ _ _
  · rw [← e5, t_cas l4 I1, c4]
  · rw [w5 1 I1, if_pos rfl, hll]
  · rw [w5 a ha, if_neg (Ne.symm h1), w4 a ha, if_pos rfl, hll]
  · intro b hb b1 ba
    rw [w5 b hb, if_neg (Ne.symm b1), w4 b hb, if_neg (Ne.symm ba), w2 b hb, if_neg (Ne.symm ba)]
theorem next_none (hl : s.ws.length = 160) (h : t0 (s.word 1) = 0) :
    ∃ x1, NextS.new.next s = x1 ∧ NextS.new.mem s = s.load 1 ∧ x1.pc = 0 ∧ x1.cell = 0 ∧ x1.count = 0 := by
  refine ⟨_, rfl, rfl, ?_, rfl, rfl⟩
  simp only [NextS.new, NextS.next, In1.got hl, if_pos h]
theorem next_alone {c : Int} (hl : s.ws.length = 160) (hc : t0 (s.word 1) = c) (c0 : c ≠ 0) (c1 : c ≠ 1) (ci : In c) (ht : s.t = 0) :
    ∃ x1 x2 x3 x4 s1 s2 s3 s4, NextS.new.next s = x1 ∧ NextS.new.mem s = s1 ∧ x1.next s1 = x2 ∧ x1.mem s1 = s2 ∧ x2.next s2 = x3 ∧ x2.mem s2 = s3 ∧ x3.next s3 = x4 ∧ x3.mem s3 = s4 ∧
      x1.pc = 2 ∧ x2.pc = 3 ∧ x3.pc = 4 ∧ x4.pc = 0 ∧ x4.cell = c ∧ x4.count = pN (s.word c) ∧ s4.ws.length = 160 ∧ s4.t = 0 ∧ s4.word 1 = nx (s.word 1) (pL (s.word c)) ∧ s4.word c = (Hd.of (s.word c)).plain.w ∧ ∀ b, In b → b ≠ 1 → b ≠ c → s4.word b = s.word b := by
  have I1 := In1
  obtain ⟨l, hll⟩ : ∃ l, s.word 1 = l := ⟨_, rfl⟩
  obtain ⟨v, hv⟩ : ∃ v, s.word c = v := ⟨_, rfl⟩
  rw [hll] at hc
  rw [hv, hll]
  obtain ⟨s1, e1⟩ : ∃ s1, s.load 1 = s1 := ⟨_, rfl⟩
  have l1 : s1.ws.length = 160 := by rw [← e1]; exact hl
  have w1 : ∀ b, s1.word b = s.word b := fun b => by rw [← e1]; rfl
  have t1' : s1.t = 0 := by rw [← e1, t_load hl I1, ht]
  obtain ⟨s2, e2⟩ : ∃ s2, s1.load c = s2 := ⟨_, rfl⟩
  have l2 : s2.ws.length = 160 := by rw [← e2]; exact l1
  have w2 : ∀ b, s2.word b = s.word b := fun b => by rw [← e2]; exact w1 b
  have t2 : s2.t = 0 := by rw [← e2, t_load l1 ci, t1']
  obtain ⟨s3, e3⟩ : ∃ s3, s2.cas 1 l (nx l (pL v)) = s3 := ⟨_, rfl⟩
  have l3 : s3.ws.length = 160 := by rw [← e3]; exact n_cas' l2 _ _ _
  have w3 : ∀ b, In b → s3.word b = if 1 = b then nx l (pL v) else s.word b := fun b hb => by rw [← e3, word_cas_ok l2 I1 hb ((w2 1).trans hll), w2]
  have t3 : s3.t = 0 := by rw [← e3, t_cas l2 I1, t2]
  obtain ⟨s4, e4⟩ : ∃ s4, s3.store c (Hd.of v).plain.w = s4 := ⟨_, rfl⟩
  have w4 : ∀ b, In b → s4.word b = if c = b then (Hd.of v).plain.w else s3.word b := fun b hb => by rw [← e4, word_store l3 ci hb]
  refine ⟨⟨2, l, Hd.zero, 0, 0⟩, ⟨3, l, Hd.of v, 0, 0⟩, ⟨4, l, Hd.of v, 0, 0⟩, ⟨0, l, (Hd.of v).plain, c, pN v⟩, s1, s2, s3, s4, ?_, ?_, ?_, ?_, ?_, ?_, ?_, ?_, rfl, rfl, rfl, rfl, rfl, rfl, ?_, ?_, ?_, ?_, ?_⟩
  · simp only [NextS.new, NextS.next, I1.got hl, hll, hc, if_neg c0]
  · simp only [NextS.new, NextS.mem, e1]
  · simp only [NextS.next, hc, ci.got l1, w1, hv]
  · simp only [NextS.mem, hc, e2]
  · simp only [NextS.next, ok1_iff l2 I1, w2, hll, beq_self_eq_true, if_true]
  · simp only [NextS.mem, Hd.of, e3]
  · simp only [NextS.next, hc, Hd.of]
  · simp only [NextS.mem, hc, e4]
  · rw [← e4]; exact n_store' l3 _ _
  · rw [← e4, t_store l3 ci, t3]
  · rw [w4 1 I1, if_neg c1, w3 1 I1, if_pos rfl]
  · rw [w4 c ci, if_pos rfl]
  · intro b hb b1 bc
    rw [w4 b hb, if_neg (Ne.symm bc), w3 b hb, if_neg (Ne.symm b1)]
end
end Go.Proofs.YtgakmpfmckikgaaDoor

namespace Go.Proofs.YtgakmpfmckikgaaDoor
set_option linter.unusedVariables false
set_option maxRecDepth 100000
open H.Plain (hw pS pC pN pM pG pT pL mv)

/-- behind j steps -/
def runX (x : Sx) (s : St) : Nat → Sx × St
  | 0 => (x, s)
  | j + 1 => ((runX x s j).1.next (runX x s j).2, (runX x s j).1.mem (runX x s j).2)
/-- it is done behind d steps, and not ahead -/
structure Ends (x : Sx) (s : St) (d : Nat) (x' : Sx) (s' : St) : Prop where
  at_ : runX x s d = (x', s')
  done : x'.done = true
  not : ∀ j, j < d → (runX x s j).1.done = false
theorem runX_succ (x : Sx) (s : St) (j : Nat) : runX x s (j + 1) = runX (x.next s) (x.mem s) j := by
  induction j with
  | zero => rfl
  | succ j ih => rw [runX, ih]; rfl
theorem Ends.zero {x : Sx} {s : St} (h : x.done = true) : Ends x s 0 x s := ⟨rfl, h, fun j hj => by omega⟩
theorem Ends.more {x x' : Sx} {s s' : St} {d : Nat} (h : x.done = false) (e : Ends (x.next s) (x.mem s) d x' s') : Ends x s (d + 1) x' s' := by
  refine ⟨by rw [runX_succ]; exact e.at_, e.done, fun j hj => ?_⟩
  cases j with
  | zero => exact h
  | succ j => rw [runX_succ]; exact e.not j (by omega)
theorem Ends.step {x x1 x' : Sx} {s s1 s' : St} {d : Nat} (h : x.done = false) (q : x.next s = x1) (m : x.mem s = s1) (e : Ends x1 s1 d x' s') : Ends x s (d + 1) x' s' := Ends.more h (by rw [q, m]; exact e)
theorem got_load (s : St) (a b : Int) : (s.load a).got b = s.got b := rfl
/-- what is expected, wherever either stands -/
def canonP (s : St) (u x : Vl) : Bool := if u.far && x.far then movP s u.n == movP s x.n else decide (u = x)
theorem got_cas {s : St} (hl : s.ws.length = 160) {a : Int} (ha : In a) (x : Int) : (s.cas a (s.got a) x).got a = x := by
  rw [In.got (by rw [St.n_cas]; exact hl) ha, In.got hl ha, word_cas_ok hl ha ha rfl, if_pos rfl]
theorem ok1_got {s : St} (hl : s.ws.length = 160) {a : Int} (ha : In a) : s.ok1 a (s.got a) = true := by
  rw [ok1_iff hl ha, In.got hl ha]; simp
/-- the last step of a Swap whose field is as it was -/
theorem exch_ends {s s0 : St} (hl : s.ws.length = 160) (hs : s.ws = s0.ws) {f : Int} (hf : In f) (r : Rq) (h : Hw) (hit : Bool) :
    Ends ⟨some (.exch f (s0.got f) r h), hit, Ou.zero⟩ s 1 ⟨none, true, ⟨0, Vl.zero, true⟩⟩ (s.cas f (s.got f) r.y.w) := by
  have e : s0.got f = s.got f := (got_ws hs f).symm
  rw [e]
  refine Ends.more rfl ?_
  have q : (Sx.mk (some (.exch f (s.got f) r h)) hit Ou.zero).next s = ⟨none, true, ⟨0, Vl.zero, true⟩⟩ := by simp [Sx.next, K.next, ok1_got hl hf]
  rw [q]
  exact Ends.zero rfl
/-- a Swap that knows of moved objects, without a Shade -/
theorem canon_ends {s : St} (hl : s.ws.length = 160) {f : Int} (hf : In f) (r : Rq) (h3 : r.op = 3) {u : Vl} (hu : Vl.of (s.got f) = u) : ∃ d x' s', d ≤ 4 ∧ Ends (Sx.new f r ⟨false, true, false, 0⟩) s d x' s' ∧
    x'.o.y = canonP s u r.x ∧ Vl.of (s'.got f) = (if canonP s u r.x then Vl.of r.y.w else u) ∧ s'.ws.length = 160 := by
  have e0 : Sx.new f r ⟨false, true, false, 0⟩ = ⟨some (.swap f r ⟨false, true, false, 0⟩), false, Ou.zero⟩ := by simp [Sx.new, firstK, h3]
  have eb : ∀ z, behind f z r ⟨false, true, false, 0⟩ = .exch f z r ⟨false, true, false, 0⟩ := fun z => by simp [behind, shadeK]
  rw [e0]
  by_cases hx : u = r.x
  · have q : (Sx.mk (some (.swap f r ⟨false, true, false, 0⟩)) false Ou.zero).next s = ⟨some (.exch f (s.got f) r ⟨false, true, false, 0⟩), true, Ou.zero⟩ := by simp only [Sx.next, K.next, hu, if_pos hx, eb]
    have c : canonP s u r.x = true := by unfold canonP; rw [← hx]; split <;> simp
    refine ⟨2, _, _, by omega, Ends.step rfl q rfl (exch_ends (s := s.load f) hl rfl hf r _ true), by rw [c], ?_, by rw [St.n_cas]; exact hl⟩
    rw [c, got_cas (s := s.load f) hl hf]; rfl
  · by_cases hf2 : (u.far && r.x.far) = true
    · have q : (Sx.mk (some (.swap f r ⟨false, true, false, 0⟩)) false Ou.zero).next s = ⟨some (.compS u.n r.x.n (.exch f (s.got f) r ⟨false, true, false, 0⟩)), true, Ou.zero⟩ := by
        simp only [Sx.next, K.next, hu, if_neg hx, eb]
        rw [if_pos (by simpa using hf2)]
      have c : canonP s u r.x = (movP s u.n == movP s r.x.n) := by rw [canonP, if_pos hf2]
      have q2 : (Sx.mk (some (.compS u.n r.x.n (.exch f (s.got f) r ⟨false, true, false, 0⟩))) true Ou.zero).next (s.load f) = ⟨some (.comp2S (movP s u.n) r.x.n (.exch f (s.got f) r ⟨false, true, false, 0⟩)), false, Ou.zero⟩ := rfl
      rcases hm : (movP s u.n == movP s r.x.n) with _ | _
      · have hm' : ¬ movP s u.n = movP s r.x.n := by simpa using hm
        have q3 : (Sx.mk (some (.comp2S (movP s u.n) r.x.n (.exch f (s.got f) r ⟨false, true, false, 0⟩))) false Ou.zero).next ((s.load f).load u.n) = ⟨none, false, Ou.zero⟩ := by
          simp only [Sx.next, K.next, got_load]
          exact if_neg hm'
        exact ⟨3, ⟨none, false, Ou.zero⟩, ((s.load f).load u.n).load r.x.n, by omega, Ends.step rfl q rfl (Ends.step rfl q2 rfl (Ends.step rfl q3 rfl (Ends.zero rfl))), by rw [c, hm]; rfl, by rw [c, hm]; exact hu, hl⟩
      · have hm' : movP s u.n = movP s r.x.n := by simpa using hm
        have q3 : (Sx.mk (some (.comp2S (movP s u.n) r.x.n (.exch f (s.got f) r ⟨false, true, false, 0⟩))) false Ou.zero).next ((s.load f).load u.n) = ⟨some (.exch f (s.got f) r ⟨false, true, false, 0⟩), false, Ou.zero⟩ := by
          simp only [Sx.next, K.next, got_load]
          exact if_pos hm'
        refine ⟨4, ⟨none, true, ⟨0, Vl.zero, true⟩⟩, (((s.load f).load u.n).load r.x.n).cas f ((((s.load f).load u.n).load r.x.n).got f) r.y.w, by omega, Ends.step rfl q rfl (Ends.step rfl q2 rfl (Ends.step rfl q3 rfl (exch_ends (s := ((s.load f).load u.n).load r.x.n) hl rfl hf r _ false))), by rw [c, hm], ?_, by rw [St.n_cas]; exact hl⟩
        rw [c, hm, got_cas (s := ((s.load f).load u.n).load r.x.n) hl hf]; rfl
    · have q : (Sx.mk (some (.swap f r ⟨false, true, false, 0⟩)) false Ou.zero).next s = ⟨none, true, Ou.zero⟩ := by
        simp only [Sx.next, K.next, hu, if_neg hx]
        rw [if_neg (by simpa using hf2)]
      have c : canonP s u r.x = false := by rw [canonP, if_neg hf2]; simpa using hx
      refine ⟨1, ⟨none, true, Ou.zero⟩, s.load f, by omega, Ends.step rfl q rfl (Ends.zero rfl), by rw [c]; rfl, by rw [c]; exact hu, hl⟩
end Go.Proofs.YtgakmpfmckikgaaDoor

namespace Go.Proofs.YtgakmpfmckikgaaDoor
set_option linter.unusedVariables false
set_option maxRecDepth 100000
open S.Plain (t0 t1 tw nx)
open H.Plain (hw pS pC pN pM pG pT pL mv)

/-- it ends, with at most D steps, in what Q says -/
def Fin' (x : Sx) (s : St) (D : Nat) (Q : Sx → St → Prop) : Prop := ∃ d x' s', d ≤ D ∧ Ends x s d x' s' ∧ Q x' s'
section
variable {x : Sx} {s : St} {D : Nat} {Q : Sx → St → Prop}
theorem Fin'.stop (h : x.done = true) (q : Q x s) : Fin' x s D Q := ⟨0, x, s, Nat.zero_le _, Ends.zero h, q⟩
theorem Fin'.step (h : x.done = false) {x1 : Sx} {s1 : St} (e1 : x.next s = x1) (e2 : x.mem s = s1) (k : Fin' x1 s1 D Q) : Fin' x s (D + 1) Q := by
  obtain ⟨d, x', s', hd, E, q⟩ := k
  exact ⟨d + 1, x', s', by omega, Ends.step h e1 e2 E, q⟩
theorem Fin'.mono {D' : Nat} (k : Fin' x s D Q) (h : D ≤ D') : Fin' x s D' Q := by
  obtain ⟨d, x', s', hd, E, q⟩ := k
  exact ⟨d, x', s', by omega, E, q⟩
end
/-- nothing was moved: each object is where it stands, and has three fields -/
structure Calm (S : St) : Prop where
  len : S.ws.length = 160
  t : S.t = 0
  mv : ∀ i : Nat, i < 16 → mv (S.word (96 + 4 * (i : Int))) (96 + 4 * (i : Int)) = 96 + 4 * (i : Int)
  n : ∀ i : Nat, i < 16 → pN (S.word (96 + 4 * (i : Int))) = 3
/-- all fields are as they were -/
structure Near (S s : St) : Prop where
  len : s.ws.length = 160
  t : s.t = 0
  w : ∀ a, In a → 96 ≤ a → a % 4 ≠ 0 → s.word a = S.word a
theorem Calm.near {S : St} (h : Calm S) : Near S S := ⟨h.len, h.t, fun _ _ _ _ => rfl⟩
theorem Near.load {S s : St} (h : Near S s) {a : Int} (ha : In a) : Near S (s.load a) := ⟨h.len, by rw [t_load h.len ha]; exact h.t, h.w⟩
def Vl.Obj (v : Vl) : Prop := v.far = true → ∃ i : Nat, i < 16 ∧ v.n = 96 + 4 * (i : Int)
section
variable {S s : St} {D : Nat} {Q : Sx → St → Prop} {v : Vl} {h : Hw} {t : K}
/-- what is shaded first -/
theorem shadeK_fin (hv : v.Obj) (near : Near S s) (k : ∀ s1 hit, Near S s1 → Fin' ⟨some t, hit, Ou.zero⟩ s1 D Q) (hit : Bool) : Fin' ⟨some (shadeK v h t), hit, Ou.zero⟩ s (D + 5) Q := by
  unfold shadeK
  split
  · rename_i hh
    simp only [Bool.and_eq_true] at hh
    obtain ⟨i, hi, hn⟩ := hv hh.2
    have hin : In v.n := ⟨by omega, by omega⟩
    have h0 : v.n ≠ 0 := by omega
    have h1 : v.n ≠ 1 := by omega
    by_cases hs : skips (s.word v.n) h.mr
    · obtain ⟨x1, e1, e2, e3⟩ := shade_skip near.len hin h0 hs
      refine Fin'.mono (Fin'.step (D := D) rfl (x1 := ⟨some t, false, Ou.zero⟩) (s1 := s.load v.n) ?_ ?_ (k _ _ (near.load hin))) (by omega)
      · simp only [Sx.next, K.next, e1, e3, if_true]
      · simp only [Sx.mem, K.mem, e2]
    · obtain ⟨x1, x2, x3, x4, x5, s1, s2, s3, s4, s5, n1, m1, n2, m2, n3, m3, n4, m4, n5, m5, p1, p2, p3, p4, p5, l5, t5, _, _, w5⟩ := shade_alone near.len hin h0 h1 hs near.t
      have N5 : Near S s5 := ⟨l5, t5, fun a ha ha' ha4 => (w5 a ha (by omega) (by omega)).trans (near.w a ha ha' ha4)⟩
      have st : ∀ (x x' : ShadeS) (sa sb : St) (hit : Bool), x.next sa = x' → x'.pc ≠ 0 → (Sx.mk (some (.shade x t)) hit Ou.zero).next sa = ⟨some (.shade x' t), false, Ou.zero⟩ := fun x x' sa sb hit e p => by
        simp only [Sx.next, K.next, e, if_neg p]
      refine Fin'.step rfl (st _ _ s s1 _ n1 (by omega)) m1 ?_
      refine Fin'.step rfl (st _ _ s1 s2 _ n2 (by omega)) m2 ?_
      refine Fin'.step rfl (st _ _ s2 s3 _ n3 (by omega)) m3 ?_
      refine Fin'.step rfl (st _ _ s3 s4 _ n4 (by omega)) m4 ?_
      refine Fin'.step rfl (x1 := ⟨some t, false, Ou.zero⟩) ?_ m5 (k _ _ N5)
      simp only [Sx.next, K.next, n5, p5, if_true]
  · exact (k _ _ near).mono (by omega)
end
/-- what is left behind -/
structure Left (S : St) (f : Int) (r : Rq) (x' : Sx) (s' : St) : Prop where
  len : s'.ws.length = 160
  rest : ∀ a, In a → a ≠ f → 96 ≤ a → a % 4 ≠ 0 → s'.word a = S.word a
  rd : r.op = 1 → x'.o.c = 0 ∧ x'.o.v = Vl.of (S.word f) ∧ s'.word f = S.word f
  wr : r.op = 2 → x'.o.c = 0 ∧ s'.word f = r.y.w
  yes : r.op = 3 → Vl.of (S.word f) = r.x → x'.o.y = true ∧ s'.word f = r.y.w
  no : r.op = 3 → Vl.of (S.word f) ≠ r.x → x'.o.y = false ∧ s'.word f = S.word f
section
variable {S s : St} {f : Int} {r : Rq} {h : Hw}
theorem store_fin (near : Near S s) (hf : In f) (h96 : 96 ≤ f) (h4 : f % 4 ≠ 0) (h2 : r.op = 2) (hit : Bool) : Fin' ⟨some (.store f r.y), hit, Ou.zero⟩ s 1 (Left S f r) := by
  refine Fin'.step rfl (x1 := ⟨none, true, Ou.zero⟩) (s1 := s.store f r.y.w) rfl rfl (Fin'.stop rfl ⟨n_store' near.len _ _, fun a ha hne ha96 ha4 => ?_, fun e => by omega, fun _ => ⟨rfl, ?_⟩, fun e => by omega, fun e => by omega⟩)
  · rw [word_store near.len hf ha, if_neg (Ne.symm hne)]; exact near.w a ha ha96 ha4
  · rw [word_store near.len hf hf, if_pos rfl]
theorem exch_fin (hS : S.ws.length = 160) (near : Near S s) (hf : In f) (h96 : 96 ≤ f) (h4 : f % 4 ≠ 0) (h3 : r.op = 3) (he : Vl.of (S.word f) = r.x) (hit : Bool) : Fin' ⟨some (.exch f (S.word f) r h), hit, Ou.zero⟩ s 1 (Left S f r) := by
  have e : s.word f = S.word f := near.w f hf h96 h4
  refine Fin'.step rfl (x1 := ⟨none, true, ⟨0, Vl.zero, true⟩⟩) (s1 := s.cas f (S.word f) r.y.w) ?_ rfl (Fin'.stop rfl ⟨n_cas' near.len _ _ _, fun a ha hne ha96 ha4 => ?_, fun e => by omega, fun e => by omega, fun _ _ => ⟨rfl, ?_⟩, fun _ hne => absurd he hne⟩)
  · simp only [Sx.next, K.next, ok1_iff near.len hf, e, beq_self_eq_true, if_true]
  · rw [word_cas_ok near.len hf ha e, if_neg (Ne.symm hne)]; exact near.w a ha ha96 ha4
  · rw [word_cas_ok near.len hf hf e, if_pos rfl]
theorem direct_fin (C : Calm S) (ws : s.ws = S.ws) (ht : s.t = 0) (hf : In f) (h96 : 96 ≤ f) (h4 : f % 4 ≠ 0) (hop : r.op = 1 ∨ r.op = 2 ∨ r.op = 3) (hu : (Vl.of (S.word f)).Obj) (hx : r.x.Obj) (hy : r.y.Obj) : Fin' (Sx.new f r h) s 12 (Left S f r) := by
  have hw : ∀ a, s.word a = S.word a := fun a => by simp only [St.word, ws]
  have hl : s.ws.length = 160 := by rw [ws]; exact C.len
  have near : Near S s := ⟨hl, ht, fun a _ _ _ => hw a⟩
  have g : s.got f = S.word f := by rw [hf.got hl, hw]
  have same : ∀ {x' : Sx} {s' : St}, s'.ws = s.ws → (r.op = 1 → x'.o.c = 0 ∧ x'.o.v = Vl.of (S.word f)) → r.op ≠ 2 → (r.op = 3 → Vl.of (S.word f) ≠ r.x ∧ x'.o.y = false) → Left S f r x' s' := fun {x' s'} e h1 h2 h3 => by
    have hw' : ∀ a, s'.word a = S.word a := fun a => by simp only [St.word, e, ws]
    exact ⟨by rw [e]; exact hl, fun a _ _ _ _ => hw' a, fun e1 => ⟨(h1 e1).1, (h1 e1).2, hw' f⟩, fun e2 => absurd e2 h2, fun e3 he => absurd he (h3 e3).1, fun e3 _ => ⟨(h3 e3).2, hw' f⟩⟩
  rcases hop with h1 | h2 | h3
  · have e0 : Sx.new f r h = ⟨some (.read f h.fx), false, Ou.zero⟩ := by simp [Sx.new, firstK, h1]
    rw [e0]
    rcases hfx : (h.fx && (Vl.of (S.word f)).far) with _ | _
    · refine Fin'.mono (Fin'.step (D := 0) rfl (x1 := ⟨none, true, ⟨0, Vl.of (S.word f), false⟩⟩) (s1 := s.load f) ?_ rfl (Fin'.stop rfl (same rfl (fun _ => ⟨rfl, rfl⟩) (by omega) (fun e => by omega)))) (by omega)
      simp only [Sx.next, K.next, g, hfx, Bool.false_eq_true, if_false]
    · obtain ⟨i, hi, hn⟩ := hu (by simp only [Bool.and_eq_true] at hfx; exact hfx.2)
      have hk : (Vl.of (S.word f)).k = 1 := by simp only [Bool.and_eq_true, Vl.far, beq_iff_eq] at hfx; exact hfx.2.1
      have hin : In (Vl.of (S.word f)).n := ⟨by omega, by omega⟩
      have hm : mv ((s.load f).got (Vl.of (S.word f)).n) (Vl.of (S.word f)).n = (Vl.of (S.word f)).n := by rw [got_load, hin.got hl, hw, hn]; exact C.mv i hi
      refine Fin'.mono (Fin'.step (D := 1) rfl (x1 := ⟨some (.follow (Vl.of (S.word f)).n), true, Ou.zero⟩) (s1 := s.load f) ?_ rfl (Fin'.step (D := 0) rfl (x1 := ⟨none, false, ⟨0, Vl.of (S.word f), false⟩⟩) (s1 := (s.load f).load (Vl.of (S.word f)).n) ?_ rfl (Fin'.stop rfl (same rfl (fun _ => ⟨rfl, rfl⟩) (by omega) (fun e => by omega))))) (by omega)
      · simp only [Sx.next, K.next, g, hfx, if_true]
      · simp only [Sx.next, K.next, hm]
        rw [← hk]
  · rcases hsh : h.sh with _ | _
    · have e0 : Sx.new f r h = ⟨some (.store f r.y), false, Ou.zero⟩ := by simp [Sx.new, firstK, h2, hsh]
      rw [e0]
      exact (store_fin near hf h96 h4 h2 false).mono (by omega)
    · have e0 : Sx.new f r h = ⟨some (.load f r.y h), false, Ou.zero⟩ := by simp [Sx.new, firstK, h2, hsh]
      rw [e0]
      refine Fin'.step (D := 11) rfl (x1 := ⟨some (shadeK (Vl.of (S.word f)) h (shadeK r.y h (.store f r.y))), false, Ou.zero⟩) (s1 := s.load f) ?_ rfl ?_
      · simp only [Sx.next, K.next, g]
      · exact shadeK_fin (D := 6) hu (near.load hf) (fun s1 hit n1 => shadeK_fin (D := 1) hy n1 (fun s2 hit n2 => store_fin n2 hf h96 h4 h2 hit) hit) false
  · have e0 : Sx.new f r h = ⟨some (.swap f r h), false, Ou.zero⟩ := by simp [Sx.new, firstK, h3]
    rw [e0]
    by_cases he : Vl.of (S.word f) = r.x
    · refine Fin'.step (D := 11) rfl (x1 := ⟨some (behind f (S.word f) r h), true, Ou.zero⟩) (s1 := s.load f) ?_ rfl ?_
      · simp only [Sx.next, K.next, g, if_pos he]
      · exact shadeK_fin (D := 6) hu (near.load hf) (fun s1 hit n1 => shadeK_fin (D := 1) hy n1 (fun s2 hit n2 => exch_fin C.len n2 hf h96 h4 h3 he hit) hit) true
    · rcases hc : (h.ca && (Vl.of (S.word f)).far && r.x.far) with _ | _
      · refine Fin'.mono (Fin'.step (D := 0) rfl (x1 := ⟨none, true, Ou.zero⟩) (s1 := s.load f) ?_ rfl (Fin'.stop rfl (same rfl (fun e => by omega) (by omega) (fun _ => ⟨he, rfl⟩)))) (by omega)
        simp only [Sx.next, K.next, g, if_neg he, hc, Bool.false_eq_true, if_false]
      · have hc' := hc
        simp only [Bool.and_eq_true] at hc'
        obtain ⟨⟨_, c1⟩, c2⟩ := hc'
        obtain ⟨i, hi, hn⟩ := hu c1
        obtain ⟨j, hj, hm⟩ := hx c2
        have k1 : (Vl.of (S.word f)).k = 1 := by simp only [Bool.and_eq_true, Vl.far, beq_iff_eq] at c1; exact c1.1
        have k2 : r.x.k = 1 := by simp only [Bool.and_eq_true, Vl.far, beq_iff_eq] at c2; exact c2.1
        have ne : (Vl.of (S.word f)).n ≠ r.x.n := fun e => he (by
          have q1 : Vl.of (S.word f) = ⟨(Vl.of (S.word f)).k, (Vl.of (S.word f)).n⟩ := rfl
          have q2 : r.x = ⟨r.x.k, r.x.n⟩ := rfl
          rw [q1, q2, k1, k2, e])
        have in1 : In (Vl.of (S.word f)).n := ⟨by omega, by omega⟩
        have in2 : In r.x.n := ⟨by omega, by omega⟩
        have m1 : mv ((s.load f).got (Vl.of (S.word f)).n) (Vl.of (S.word f)).n = (Vl.of (S.word f)).n := by rw [got_load, in1.got hl, hw, hn]; exact C.mv i hi
        have m2 : mv (((s.load f).load (Vl.of (S.word f)).n).got r.x.n) r.x.n = r.x.n := by rw [got_load, got_load, in2.got hl, hw, hm]; exact C.mv j hj
        refine Fin'.mono (Fin'.step (D := 2) rfl (x1 := ⟨some (.compS (Vl.of (S.word f)).n r.x.n (behind f (S.word f) r h)), true, Ou.zero⟩) (s1 := s.load f) ?_ rfl
          (Fin'.step (D := 1) rfl (x1 := ⟨some (.comp2S (Vl.of (S.word f)).n r.x.n (behind f (S.word f) r h)), false, Ou.zero⟩) (s1 := (s.load f).load (Vl.of (S.word f)).n) ?_ rfl
            (Fin'.step (D := 0) rfl (x1 := ⟨none, false, Ou.zero⟩) (s1 := ((s.load f).load (Vl.of (S.word f)).n).load r.x.n) ?_ rfl (Fin'.stop rfl (same rfl (fun e => by omega) (by omega) (fun _ => ⟨he, rfl⟩)))))) (by omega)
        · simp only [Sx.next, K.next, g, if_neg he, hc, if_true]
        · simp only [Sx.next, K.next, m1]
        · simp only [Sx.next, K.next, m2, if_neg ne]
theorem plain_fin {e : En} (C : Calm S) {i : Nat} (hi : i < 16) (ha : r.at_ = 96 + 4 * (i : Int)) (hd : 0 ≤ r.fd) (hd3 : r.fd < 3) (hfe : f = r.at_ + 1 + r.fd) (hop : r.op = 1 ∨ r.op = 2 ∨ r.op = 3) (hu : (Vl.of (S.word f)).Obj) (hx : r.x.Obj) (hy : r.y.Obj) : Fin' (Sx.plain r e) S 13 (Left S f r) := by
  have hin : In r.at_ := ⟨by omega, by omega⟩
  have e0 : Sx.plain r e = ⟨some (.plain r e), false, Ou.zero⟩ := by rw [Sx.plain, if_neg (by omega)]
  rw [e0]
  refine Fin'.step (D := 12) rfl (x1 := Sx.new f r ⟨shadesM e.md, false, false, e.mr⟩) (s1 := S.load r.at_) ?_ rfl (direct_fin C rfl (by rw [t_load C.len hin]; exact C.t) ⟨by omega, by omega⟩ (by omega) (by omega) hop hu hx hy)
  have hn : pN (S.got r.at_) = 3 := by rw [hin.got C.len, ha]; exact C.n i hi
  simp only [Sx.next, K.next, hn]
  rw [if_neg (by omega), hfe]
end
section
variable {t : Nat → Bool} {l : Nat → Vl}
theorem laidF_t {s : St} (h : s.ws.length = 160) (ht : s.t = 0) (i f : Nat) (hi : i < 16) (hf : f ≤ 3) : (laidF s t l i f).t = 0 := by
  induction f with
  | zero => simp only [laidF]; rw [t_store h ⟨by omega, by omega⟩]; exact ht
  | succ f ih => simp only [laidF]; rw [t_store (laidF_len h i f) ⟨by omega, by omega⟩]; exact ih (by omega)
theorem laid_t (j : Nat) (hj : j ≤ 16) : (laidO t l j).t = 0 := by
  induction j with
  | zero => rfl
  | succ j ih => exact laidF_t (laid_len j) (ih (by omega)) j 3 (by omega) (Nat.le_refl _)
theorem calm_laid (zt : Nat → Int) : Calm (laidO (tagP 0 zt) l 16) := by
  have no : ∀ i, tagP 0 zt i = false := fun i => by simp [tagP]
  have P : ∀ i : Nat, i < 16 → pS (hdrW (tagP 0 zt) i) = 1 ∧ pN (hdrW (tagP 0 zt) i) = 3 ∧ pT (hdrW (tagP 0 zt) i) = 0 := fun i hi => by
    obtain ⟨a, b, _, c, _⟩ := hdr_parts (tagP 0 zt) (tagP_lt 0 zt) (i := i)
    exact ⟨a, b, by rw [c, tgP, no]; rfl⟩
  refine ⟨laid_len 16, laid_t 16 (Nat.le_refl _), fun i hi => ?_, fun i hi => ?_⟩
  · rw [laid_hdr hi]
    obtain ⟨a, b, c⟩ := P i hi
    unfold H.Plain.mv
    simp [a, c]
  · rw [laid_hdr hi]; exact (P i hi).2.1
end
end Go.Proofs.YtgakmpfmckikgaaDoor

namespace Go.Proofs.YtgakmpfmckikgaaDoor
set_option linter.unusedVariables false
set_option linter.unusedSimpArgs false
set_option maxRecDepth 100000
open Go.ChangeShapes Go.WideShapes Go.RowKit
open H.Plain (hw pS pC pN pM pG pT pL mv)

section
variable {w0 w w' : World} {b y p WB : Nat} {s1 s2 : St} {N : Nat} {x : Sx} {kk : Int}
theorem tLoad (h : Two w0 w b y s1 s2 N) (hN : N < 1000000) (a : Int) :
    Calls Tryd.prog 17 #[.pointer (some ⟨b, 0, none⟩), .int .i64 a] w fun e w' => e = .returned (.int .u64 (s1.got a)) ∧ Two w0 w' b y (s1.load a) s2 (N + 1) ∧ Oth [] w w' ∧ ∀ g cp, Seen2 w y g cp s2 → Seen2 w' y g cp s2 := by
  have ht := h.top1
  have hc : s1.c < 1000000 := by omega
  obtain ⟨⟨L, M, rfl, rfl, hm, hr, hl, hl2⟩, hb, f1, f2, t1, t2, r1, r2, wd⟩ := h
  refine (cLoad hm f1 hc a).mono ?_
  rintro e w' ⟨rfl, L', hm', st⟩
  have hl' : ∀ k ∈ L'.fp, w0.heap.size ≤ k ∧ k ∉ M.fp := fun k hk => (st.new k hk).elim (hl k) fun h' => ⟨Nat.le_trans hb.size h', fun hkM => by have := hr.lt k hkM; omega⟩
  have hr' : Rm w' M s2 := hr.on st.kept fun k hk hm' => (hl k hm').2 hk
  refine ⟨rfl, ⟨⟨L', M, st.b, rfl, hm', hr', hl', hl2⟩, hb.trans (st.kept.below (fun k hk => (hl k hk).1) hb.size), f1.load hc a, f2, by rw [St.c_load]; omega, by omega, r1.load a, r2, wd⟩, Oth.step hm (by simp [MTs]) f1 st, fun g cp hs => ?_⟩
  have e0 := hs.c0
  rw [hr.cell0] at e0
  simp at e0
  obtain ⟨rfl, rfl⟩ := e0
  exact ⟨hr'.cell0, hr'.cell2, fun j hj => hr'.wcell j hj, hr'.lt _ (by simp [Loc.fp]), hr'.lt _ (by simp [Loc.fp])⟩
/-- the worker's machine: of the first kind, or of the second -/
def Which (w0 w : World) (WB p : Nat) (kk : Int) (x : Sx) : Prop := ∃ cs, Blk w0 w WB 40 cs ∧ ((kk = 0 ∧ cs[0]? = some (pt p) ∧ Mx w0 w p 94 x) ∨ (kk = 1 ∧ cs[0]? = some (.pointer none) ∧ cs[1]? = some (pt p) ∧ Mx w0 w p 95 x))
end
theorem bel_drewN (w : World) (n : Nat) : Below w.heap.size w (w.drewN n) := S.bdr (Below.refl _ _) n
theorem kd_id {c n : Int} (h0 : 0 ≤ c) (h : c < n) : kd c n = c := by
  unfold kd
  rw [if_neg (by omega)]
  exact Int.emod_eq_of_lt h0 h
/-- what the law asks for -/
def askP (q : Op7) (ko kf : Int) : Rq := ⟨1 + kd q.a 3, 96 + 4 * ko, kf, valP q.x, valP q.y⟩
theorem alone_fin (ll : Nat) (zl : Nat → Vl) (q : Op7) {ko kf : Int} (k1 : 0 ≤ ko ∧ ko < 16) (k2 : 0 ≤ kf ∧ kf < 3) {S : St} (hS : laidO (tagP 0 (fun _ => 0)) (fldP ll zl) 16 = S) :
    ∃ u : Vl, u.Good ∧ S.word (97 + 4 * ko + kf) = u.w ∧ (∀ h, Fin' (Sx.new (96 + 4 * ko + 1 + kf) (askP q ko kf) h) S 13 (Left S (97 + 4 * ko + kf) (askP q ko kf))) ∧ ∀ e, Fin' (Sx.plain (askP q ko kf) e) S 13 (Left S (97 + 4 * ko + kf) (askP q ko kf)) := by
  have C : Calm S := hS ▸ calm_laid _
  obtain ⟨i, rfl⟩ : ∃ i : Nat, ko = i := ⟨ko.toNat, by omega⟩
  obtain ⟨f, rfl⟩ : ∃ f : Nat, kf = f := ⟨kf.toNat, by omega⟩
  have G := good_fldP ll zl (3 * i + f)
  have hw : S.word (97 + 4 * (i : Int) + (f : Int)) = (fldP ll zl (3 * i + f)).w := by rw [← hS]; exact laid_fld (by omega) (by omega)
  have hu : (Vl.of (S.word (97 + 4 * (i : Int) + (f : Int)))).Obj := by rw [hw, G.of]; exact G.far
  have k3 := kd_lt q.a 3 (by decide)
  have hop : (askP q i f).op = 1 ∨ (askP q i f).op = 2 ∨ (askP q i f).op = 3 := by simp only [askP]; omega
  have ef : 96 + 4 * (i : Int) + 1 + (f : Int) = 97 + 4 * (i : Int) + (f : Int) := by omega
  refine ⟨_, G, hw, fun h => ?_, fun e => ?_⟩
  · rw [ef]
    exact (direct_fin C rfl C.t ⟨by omega, by omega⟩ (by omega) (by omega) hop hu (good_valP _).far (good_valP _).far).mono (by omega)
  · exact plain_fin C (i := i) (by omega) rfl (by simp only [askP]; omega) (by simp only [askP]; omega) (by simp only [askP]; omega) hop hu (good_valP _).far (good_valP _).far
set_option maxHeartbeats 12000000 in
theorem wDirectAlone (av : Option Addr) (ll cv' : Nat) (zl : Nat → Vl) (q : Op7) (w : World) (W : H.Wid w) (cv : CameV w av ll zl) (fq : q.Fit) :
    Calls Tryd.prog 3 #[.slice av ll cv', .agg q.cells] w fun e w' => e = .returned (.bool true) ∧ Below w.heap.size w w' := by
  obtain ⟨S, hS⟩ : ∃ S, laidO (tagP 0 (fun _ => 0)) (fldP ll zl) 16 = S := ⟨_, rfl⟩
  have hSl : S.ws.length = 160 := by rw [← hS]; exact laid_len 16
  have g1 := kd_lt q.k 2 (by decide)
  have g2 := kd_lt q.o 16 (by decide)
  have g3 := kd_lt q.f 3 (by decide)
  have hk3b := kd_lt q.a 3 (by decide)
  obtain ⟨u, Gu, hSw, F0, F1⟩ := alone_fin ll zl q g2 g3 hS
  have Gx := good_valP q.x
  have Gy := good_valP q.y
  simp only [askP] at F0 F1
  obtain ⟨kk, hkk⟩ : ∃ v, kd q.k 2 = v := ⟨_, rfl⟩
  obtain ⟨ko, hko⟩ : ∃ v, kd q.o 16 = v := ⟨_, rfl⟩
  obtain ⟨kf, hkf⟩ : ∃ v, kd q.f 3 = v := ⟨_, rfl⟩
  obtain ⟨ka, hka⟩ : ∃ v, kd q.a 3 = v := ⟨_, rfl⟩
  obtain ⟨vx, hvx⟩ : ∃ v, valP q.x = v := ⟨_, rfl⟩
  obtain ⟨vy, hvy⟩ : ∃ v, valP q.y = v := ⟨_, rfl⟩
  rw [hkk] at g1
  rw [hko] at g2 hSw F0 F1
  rw [hkf] at g3 hSw F0 F1
  rw [hka] at hk3b F0 F1
  rw [hvx] at Gx F0 F1
  rw [hvy] at Gy F0 F1
  obtain ⟨na, hna⟩ : ∃ na : Nat, 97 + 4 * ko + kf = (na : Int) := ⟨(97 + 4 * ko + kf).toNat, by omega⟩
  have na1 : na < 160 := by omega
  have na0 : 96 ≤ na := by omega
  rw [hna] at hSw
  unfold Op7.cells
  go_enter Tryd.func3, Tryd.ntmps3
  go_upto_region 1 with (fail)
  have hb0 : Below w.heap.size w (w.alloc (.cells #[.int .i64 q.k, .int .i64 q.b, .int .i64 q.o, .int .i64 q.f, .int .i64 q.a, .int .i64 q.x.k, .int .i64 q.x.n, .int .i64 q.y.k, .int .i64 q.y.n] 26)) := (Below.refl _ _).alloc (Nat.le_refl _) _
  have OB0 : Blk w (w.alloc (.cells #[.int .i64 q.k, .int .i64 q.b, .int .i64 q.o, .int .i64 q.f, .int .i64 q.a, .int .i64 q.x.k, .int .i64 q.x.n, .int .i64 q.y.k, .int .i64 q.y.n] 26)) w.heap.size 26 #[.int .i64 q.k, .int .i64 q.b, .int .i64 q.o, .int .i64 q.f, .int .i64 q.a, .int .i64 q.x.k, .int .i64 q.x.n, .int .i64 q.y.k, .int .i64 q.y.n] := Blk.new (Nat.le_refl _) _ (by decide)
  generalize w.alloc (.cells #[.int .i64 q.k, .int .i64 q.b, .int .i64 q.o, .int .i64 q.f, .int .i64 q.a, .int .i64 q.x.k, .int .i64 q.x.n, .int .i64 q.y.k, .int .i64 q.y.n] 26) = w0 at hb0 OB0 ⊢
  obtain ⟨ob, hob⟩ : ∃ ob, w.heap.size = ob := ⟨_, rfl⟩
  rw [hob] at OB0 ⊢
  go_upto_region 5 with (first
    | (go_at_call 8; refine (cShown _ (W.on hb0)).mono ?_; rintro e w1 ⟨rfl, hb1'⟩; have hb1 := bel_trans hb0 hb1'; have OB1 := OB0.below hb1'; clear hb1')
    | (go_at_call 9; refine (cLaid w1 (W.on hb1) (zt := fun _ => 0) (.inl rfl) (cv.on hb1)).mono ?_; rintro e w2 ⟨b, y, rfl, h2⟩; have T2 := h2.lift hb1 W; rw [hS] at T2; have OB2 := OB1.below h2.bel; clear h2))
  clear hb0 hb1 OB0 OB1
  have c0 : w2.cell? ⟨ob, 0, none⟩ = some (.int .i64 q.k) := OB2.cell 0
  have c1 : w2.cell? ⟨ob, 1, none⟩ = some (.int .i64 q.b) := OB2.cell 1
  have c2 : w2.cell? ⟨ob, 2, none⟩ = some (.int .i64 q.o) := OB2.cell 2
  have c3 : w2.cell? ⟨ob, 3, none⟩ = some (.int .i64 q.f) := OB2.cell 3
  have c4 : w2.cell? ⟨ob, 4, none⟩ = some (.int .i64 q.a) := OB2.cell 4
  have c5 : w2.cell? ⟨ob, 5, none⟩ = some (.int .i64 q.x.k) := OB2.cell 5
  have c6 : w2.cell? ⟨ob, 6, none⟩ = some (.int .i64 q.x.n) := OB2.cell 6
  have c7 : w2.cell? ⟨ob, 7, none⟩ = some (.int .i64 q.y.k) := OB2.cell 7
  have c8 : w2.cell? ⟨ob, 8, none⟩ = some (.int .i64 q.y.n) := OB2.cell 8
  have cl := OB2.lt
  have fz : ∀ i, w2.frozen? ⟨ob, i, none⟩ = false := fun i => OB2.free i
  go_upto_region 6 with (go_at_call 10; refine (cKind _ q.k 2 fq.k.1 fq.k.2 (by decide)).mono ?_; rintro e wk ⟨rfl, hwk⟩; rw [hwk, hkk]; clear hwk wk)
  have T3 := T2.set OB2 0 (.int .i64 kk)
  have OB3 : Blk w (w2.setCell ⟨ob, 0, none⟩ (.int .i64 kk)) ob 26 #[.int .i64 kk, .int .i64 q.b, .int .i64 q.o, .int .i64 q.f, .int .i64 q.a, .int .i64 q.x.k, .int .i64 q.x.n, .int .i64 q.y.k, .int .i64 q.y.n] := OB2.set 0 (.int .i64 kk)
  clear c0 c1 c2 c3 c4 c5 c6 c7 c8 cl fz
  generalize w2.setCell ⟨ob, 0, none⟩ (.int .i64 kk) = w3 at OB3 T3 ⊢
  have c0 : w3.cell? ⟨ob, 0, none⟩ = some (.int .i64 kk) := OB3.cell 0
  have c1 : w3.cell? ⟨ob, 1, none⟩ = some (.int .i64 q.b) := OB3.cell 1
  have c2 : w3.cell? ⟨ob, 2, none⟩ = some (.int .i64 q.o) := OB3.cell 2
  have c3 : w3.cell? ⟨ob, 3, none⟩ = some (.int .i64 q.f) := OB3.cell 3
  have c4 : w3.cell? ⟨ob, 4, none⟩ = some (.int .i64 q.a) := OB3.cell 4
  have c5 : w3.cell? ⟨ob, 5, none⟩ = some (.int .i64 q.x.k) := OB3.cell 5
  have c6 : w3.cell? ⟨ob, 6, none⟩ = some (.int .i64 q.x.n) := OB3.cell 6
  have c7 : w3.cell? ⟨ob, 7, none⟩ = some (.int .i64 q.y.k) := OB3.cell 7
  have c8 : w3.cell? ⟨ob, 8, none⟩ = some (.int .i64 q.y.n) := OB3.cell 8
  have cl := OB3.lt
  have fz : ∀ i, w3.frozen? ⟨ob, i, none⟩ = false := fun i => OB3.free i
  go_upto_region 7 with (go_at_call 10; refine (cKind _ q.o 16 fq.o.1 fq.o.2 (by decide)).mono ?_; rintro e wk ⟨rfl, hwk⟩; rw [hwk, hko]; clear hwk wk)
  have T4 := T3.set OB3 2 (.int .i64 ko)
  have OB4 : Blk w (w3.setCell ⟨ob, 2, none⟩ (.int .i64 ko)) ob 26 #[.int .i64 kk, .int .i64 q.b, .int .i64 ko, .int .i64 q.f, .int .i64 q.a, .int .i64 q.x.k, .int .i64 q.x.n, .int .i64 q.y.k, .int .i64 q.y.n] := OB3.set 2 (.int .i64 ko)
  clear c0 c1 c2 c3 c4 c5 c6 c7 c8 cl fz
  generalize w3.setCell ⟨ob, 2, none⟩ (.int .i64 ko) = w4 at OB4 T4 ⊢
  have c0 : w4.cell? ⟨ob, 0, none⟩ = some (.int .i64 kk) := OB4.cell 0
  have c1 : w4.cell? ⟨ob, 1, none⟩ = some (.int .i64 q.b) := OB4.cell 1
  have c2 : w4.cell? ⟨ob, 2, none⟩ = some (.int .i64 ko) := OB4.cell 2
  have c3 : w4.cell? ⟨ob, 3, none⟩ = some (.int .i64 q.f) := OB4.cell 3
  have c4 : w4.cell? ⟨ob, 4, none⟩ = some (.int .i64 q.a) := OB4.cell 4
  have c5 : w4.cell? ⟨ob, 5, none⟩ = some (.int .i64 q.x.k) := OB4.cell 5
  have c6 : w4.cell? ⟨ob, 6, none⟩ = some (.int .i64 q.x.n) := OB4.cell 6
  have c7 : w4.cell? ⟨ob, 7, none⟩ = some (.int .i64 q.y.k) := OB4.cell 7
  have c8 : w4.cell? ⟨ob, 8, none⟩ = some (.int .i64 q.y.n) := OB4.cell 8
  have cl := OB4.lt
  have fz : ∀ i, w4.frozen? ⟨ob, i, none⟩ = false := fun i => OB4.free i
  go_upto_region 8 with (go_at_call 10; refine (cKind _ q.f 3 fq.f.1 fq.f.2 (by decide)).mono ?_; rintro e wk ⟨rfl, hwk⟩; rw [hwk, hkf]; clear hwk wk)
  have T5 := T4.set OB4 3 (.int .i64 kf)
  have OB5 : Blk w (w4.setCell ⟨ob, 3, none⟩ (.int .i64 kf)) ob 26 #[.int .i64 kk, .int .i64 q.b, .int .i64 ko, .int .i64 kf, .int .i64 q.a, .int .i64 q.x.k, .int .i64 q.x.n, .int .i64 q.y.k, .int .i64 q.y.n] := OB4.set 3 (.int .i64 kf)
  clear c0 c1 c2 c3 c4 c5 c6 c7 c8 cl fz
  generalize w4.setCell ⟨ob, 3, none⟩ (.int .i64 kf) = w5 at OB5 T5 ⊢
  clear OB2 OB3 OB4 T2 T3 T4
  go_upto_region 9 with (fail)
  have hb5 : Below w5.heap.size w5 (w5.alloc (.cells #[.pointer none, .pointer none, .pointer none, .pointer none, .pointer none, .pointer none] 40)) := (Below.refl _ _).alloc (Nat.le_refl _) _
  have WB0 : Blk w (w5.alloc (.cells #[.pointer none, .pointer none, .pointer none, .pointer none, .pointer none, .pointer none] 40)) w5.heap.size 40 #[.pointer none, .pointer none, .pointer none, .pointer none, .pointer none, .pointer none] := Blk.new T5.bel.size _ (by decide)
  have T6 := T5.below hb5
  have OB6 := OB5.below hb5
  generalize w5.alloc (.cells #[.pointer none, .pointer none, .pointer none, .pointer none, .pointer none, .pointer none] 40) = w6 at WB0 T6 OB6 ⊢
  generalize w5.heap.size = WB at WB0 ⊢
  clear hb5 T5 OB5
  have c0 : w6.cell? ⟨ob, 0, none⟩ = some (.int .i64 kk) := OB6.cell 0
  have c1 : w6.cell? ⟨ob, 1, none⟩ = some (.int .i64 q.b) := OB6.cell 1
  have c2 : w6.cell? ⟨ob, 2, none⟩ = some (.int .i64 ko) := OB6.cell 2
  have c3 : w6.cell? ⟨ob, 3, none⟩ = some (.int .i64 kf) := OB6.cell 3
  have c4 : w6.cell? ⟨ob, 4, none⟩ = some (.int .i64 q.a) := OB6.cell 4
  have c5 : w6.cell? ⟨ob, 5, none⟩ = some (.int .i64 q.x.k) := OB6.cell 5
  have c6 : w6.cell? ⟨ob, 6, none⟩ = some (.int .i64 q.x.n) := OB6.cell 6
  have c7 : w6.cell? ⟨ob, 7, none⟩ = some (.int .i64 q.y.k) := OB6.cell 7
  have c8 : w6.cell? ⟨ob, 8, none⟩ = some (.int .i64 q.y.n) := OB6.cell 8
  have cl := OB6.lt
  have fq' : (Op7.mk kk q.b ko kf q.a q.x q.y).Fit := ⟨⟨by simp only; omega, by simp only; omega⟩, fq.b, ⟨by simp only; omega, by simp only; omega⟩, ⟨by simp only; omega, by simp only; omega⟩, fq.a, fq.x, fq.y⟩
  go_upto_region 12 with (go_at_call 11; refine (cBegin (q := ⟨kk, q.b, ko, kf, q.a, q.x, q.y⟩) fq' WB0 (o := 0) (by decide) (by decide) (by decide) (by decide) (by decide)).mono ?_; rintro e w7 ⟨rfl, B0, B1, B2⟩)
  clear c0 c1 c2 c3 c4 c5 c6 c7 c8 cl B2
  obtain ⟨p, x0, d, xe, se, hd, E, hL, T7, OB7, WH, nd0⟩ : ∃ p x0 d xe se, d ≤ 13 ∧ Ends x0 S d xe se ∧ Left S (97 + 4 * ko + kf) ⟨1 + ka, 96 + 4 * ko, kf, vx, vy⟩ xe se ∧ Two w w7 b y S S 128 ∧ Blk w w7 ob 26 #[.int .i64 kk, .int .i64 q.b, .int .i64 ko, .int .i64 kf, .int .i64 q.a, .int .i64 q.x.k, .int .i64 q.x.n, .int .i64 q.y.k, .int .i64 q.y.n] ∧ Which w w7 WB p kk x0 ∧ x0.done = false := by
    have i1 : kd ko 17 = ko := kd_id g2.1 (by omega)
    have i2 : kd kf 3 = kf := kd_id g3.1 g3.2
    have i4 : ko % 16 = ko := Int.emod_eq_of_lt g2.1 g2.2
    have fin : ∀ (K : Kept [WB] w6 w7), Two w w7 b y S S 128 ∧ Blk w w7 ob 26 #[.int .i64 kk, .int .i64 q.b, .int .i64 ko, .int .i64 kf, .int .i64 q.a, .int .i64 q.x.k, .int .i64 q.x.n, .int .i64 q.y.k, .int .i64 q.y.n] := fun K => ⟨T6.kept K fun k hk => by simp at hk; subst hk; exact ⟨WB0.old, _, _, _, WB0.hT, WB0.at_⟩, OB6.oth (Oth.kept K) (by simpa using OB6.ne WB0 (by decide))⟩
    rcases (show kk = 0 ∨ kk = 1 by omega) with rfl | rfl
    · obtain ⟨K, p, p', cs', X, _, Bw, sx, _, _⟩ := B0 (show kd 0 3 = 0 by decide)
      simp only [baseP, rqP, hwP, i1, i2, i4, hka, hvx, hvy] at X
      obtain ⟨d, xe, se, hd, E, hL⟩ := F0 ⟨kd q.b 16 % 2 == 1, kd q.b 16 / 2 % 2 == 1, kd q.b 16 / 4 % 2 == 1, kd q.b 16 / 8⟩
      exact ⟨p, _, d, xe, se, hd, E, hL, (fin K).1, (fin K).2, ⟨_, Bw, .inl ⟨rfl, sx.one, X⟩⟩, by
        simp only [Sx.new, Sx.done, firstK]
        rcases (show ka = 0 ∨ ka = 1 ∨ ka = 2 by omega) with rfl | rfl | rfl <;> rfl⟩
    · obtain ⟨K, p, p', cs', X, _, Bw, sx, _, _⟩ := B1 (show kd 1 3 = 1 by decide)
      have i5 : (if ko = 16 then (0 : Int) else 96 + 4 * ko) = 96 + 4 * ko := if_neg (by omega)
      simp only [atP, rqP, enP, i1, i5, hka, hvx, hvy] at X
      obtain ⟨d, xe, se, hd, E, hL⟩ := F1 ⟨kd q.b 16 % 5, kd q.b 16 / 8, 0⟩
      exact ⟨p, _, d, xe, se, hd, E, hL, (fin K).1, (fin K).2, ⟨_, Bw, .inr ⟨rfl, sx.nil 0 (by decide) (by decide), sx.one, X⟩⟩, by
        simp only [Sx.plain]
        rw [if_neg (by omega)]
        rfl⟩
  clear B0 B1 F0 F1 WB0 T6 OB6 fq'
  have hd1 : 0 < d := by
    rcases Nat.eq_zero_or_pos d with h | h
    · have := E.at_
      rw [h] at this
      have q := E.done
      simp only [runX, Prod.mk.injEq] at this
      rw [← this.1, nd0] at q
      cases q
    · exact h
  go_wp2_with (fail)
  go_loopw [10, 11] (fun dv i wr => ∃ j : Nat, j ≤ d ∧ i = .int .i64 j ∧ dv = .bool (runX x0 S j).1.done ∧ Two w wr b y (runX x0 S j).2 S (128 + j) ∧ Which w wr WB p kk (runX x0 S j).1 ∧ Blk w wr ob 26 #[.int .i64 kk, .int .i64 q.b, .int .i64 ko, .int .i64 kf, .int .i64 q.a, .int .i64 q.x.k, .int .i64 q.x.n, .int .i64 q.y.k, .int .i64 q.y.n]) (fun _ i _ => 40 - (intOf i).toNat)
  case atStart => exact ⟨0, Nat.zero_le _, rfl, (by rw [E.not 0 hd1]), T7, WH, OB7⟩
  case round =>
    obtain ⟨j, hj, rfl, rfl, p1, p3, p4⟩ := hrel
    clear T7 WH OB7
    have hj6 : (j : Int) < 40 := by omega
    by_cases hjd : j < d
    case pos =>
      rcases p3 with ⟨cs, BW, ⟨rfl, i0, m2⟩ | ⟨rfl, i0, i1, m2⟩⟩
      · have nd := E.not j hjd
        obtain ⟨xj, hxj⟩ : ∃ xj, (runX x0 S j).1 = xj := ⟨_, rfl⟩
        obtain ⟨sj, hsj⟩ : ∃ sj, (runX x0 S j).2 = sj := ⟨_, rfl⟩
        rw [hxj] at nd m2 ⊢
        rw [hsj] at p1
        rw [nd]
        have r1 : (runX x0 S (j + 1)).1 = xj.next sj := by simp only [runX, hxj, hsj]
        have r2 : (runX x0 S (j + 1)).2 = xj.mem sj := by simp only [runX, hxj, hsj]
        have wc0 : wr.cell? ⟨WB, 0, none⟩ = some (pt p) := (BW.cell 0).trans i0
        go_wp2_with (go_at_call 12; refine (tD p1 m2 (by omega)).mono ?_; rintro e w8 ⟨rfl, t1, t2, o8⟩; obtain ⟨vx', Bx'⟩ := m2.blk; have t3 := BW.oth o8 (by simpa using Bx'.ne BW (by decide) |>.symm); have t4 := p4.oth o8 (by simpa using Bx'.ne p4 (by decide) |>.symm); clear Bx' o8)
        go_roundw
        case rel => exact ⟨j + 1, by omega, by go_num, (by rw [r1]), (by rw [r2]; exact t1), (by rw [r1]; exact ⟨_, t3, .inl ⟨rfl, i0, t2⟩⟩), t4⟩
        case measure => simp [intOf]; omega
      · have nd := E.not j hjd
        obtain ⟨xj, hxj⟩ : ∃ xj, (runX x0 S j).1 = xj := ⟨_, rfl⟩
        obtain ⟨sj, hsj⟩ : ∃ sj, (runX x0 S j).2 = sj := ⟨_, rfl⟩
        rw [hxj] at nd m2 ⊢
        rw [hsj] at p1
        rw [nd]
        have r1 : (runX x0 S (j + 1)).1 = xj.next sj := by simp only [runX, hxj, hsj]
        have r2 : (runX x0 S (j + 1)).2 = xj.mem sj := by simp only [runX, hxj, hsj]
        have wc0 : wr.cell? ⟨WB, 0, none⟩ = some (.pointer none) := (BW.cell 0).trans i0
        have wc1 : wr.cell? ⟨WB, 1, none⟩ = some (pt p) := (BW.cell 1).trans i1
        go_wp2_with (go_at_call 13; refine (tP p1 m2 (by omega)).mono ?_; rintro e w8 ⟨rfl, t1, t2, o8⟩; obtain ⟨vx', Bx'⟩ := m2.blk; have t3 := BW.oth o8 (by simpa using Bx'.ne BW (by decide) |>.symm); have t4 := p4.oth o8 (by simpa using Bx'.ne p4 (by decide) |>.symm); clear Bx' o8)
        go_roundw
        case rel => exact ⟨j + 1, by omega, by go_num, (by rw [r1]), (by rw [r2]; exact t1), (by rw [r1]; exact ⟨_, t3, .inr ⟨rfl, i0, i1, t2⟩⟩), t4⟩
        case measure => simp [intOf]; omega
    case neg =>
      obtain rfl : j = d := by omega
      rw [E.at_] at p1 p3 ⊢
      simp only at p1 p3 ⊢
      rw [E.done]
      go_upto_region 20 with (fail)
      have ZB : Below wr.heap.size wr (wr.alloc (.cells #[.int .i64 0, .int .i64 0, .int .i64 0, .bool false] 45)) := (Below.refl _ _).alloc (Nat.le_refl _) _
      have BO : Blk w (wr.alloc (.cells #[.int .i64 0, .int .i64 0, .int .i64 0, .bool false] 45)) wr.heap.size 45 #[.int .i64 0, .int .i64 0, .int .i64 0, .bool false] := Blk.new p1.bel.size _ (by decide)
      have p9 := p1.below ZB
      have p49 := p4.below ZB
      have p39 : Which w (wr.alloc (.cells #[.int .i64 0, .int .i64 0, .int .i64 0, .bool false] 45)) WB p kk xe := by
        rcases p3 with ⟨cs, BW, ⟨e, i0, m2⟩ | ⟨e, i0, i1, m2⟩⟩
        · exact ⟨cs, BW.below ZB, .inl ⟨e, i0, m2.below ZB⟩⟩
        · exact ⟨cs, BW.below ZB, .inr ⟨e, i0, i1, m2.below ZB⟩⟩
      clear ZB p1 p3 p4
      generalize wr.alloc (.cells #[.int .i64 0, .int .i64 0, .int .i64 0, .bool false] 45) = w9 at BO p9 p49 p39 ⊢
      generalize wr.heap.size = outb at BO ⊢
      obtain ⟨cs, BW9, p39⟩ := p39
      obtain ⟨wv, hwv, hwq⟩ : ∃ wv, w9.cell? ⟨WB, 0, none⟩ = some (.pointer wv) ∧ ((kk = 0 ∧ wv = some ⟨p, 0, none⟩) ∨ (kk = 1 ∧ wv = none)) := by
        rcases p39 with ⟨e, i0, m2⟩ | ⟨e, i0, i1, m2⟩
        · exact ⟨_, (BW9.cell 0).trans i0, .inl ⟨e, rfl⟩⟩
        · exact ⟨_, (BW9.cell 0).trans i0, .inr ⟨e, rfl⟩⟩
      go_upto_if 69 with (fail)
      go_cut [10] from 70 (fun c wx => c = .bool true ∧ Two w wx b y se S (128 + j) ∧ Blk w wx outb 45 #[.int .i64 xe.o.c, .int .i64 xe.o.v.k, .int .i64 xe.o.v.n, .bool xe.o.y] ∧ Blk w wx ob 26 #[.int .i64 kk, .int .i64 q.b, .int .i64 ko, .int .i64 kf, .int .i64 q.a, .int .i64 q.x.k, .int .i64 q.x.n, .int .i64 q.y.k, .int .i64 q.y.n])
      case first =>
        rcases p39 with ⟨rfl, i0, m9⟩ | ⟨rfl, i0, i1, m9⟩
        · obtain rfl : wv = some ⟨p, 0, none⟩ := by rcases hwq with ⟨_, h⟩ | ⟨h, _⟩; exact h; exact absurd h (by decide)
          have wc0 : w9.cell? ⟨WB, 0, none⟩ = some (pt p) := (BW9.cell 0).trans i0
          obtain ⟨vx', Bx'⟩ := m9.blk
          have fo0 := fOut0
          have fo1 := fOut1
          have fo2 := fOut2
          go_wp2_with (go_at_call 14; refine (cDResult Bx').mono ?_; rintro e v1 ⟨rfl, hbv1⟩; unfold Ou.val; have T1 := p9.below hbv1; have B1 := BO.below hbv1; have O1 := p49.below hbv1; have b0 : v1.cell? ⟨outb, 0, none⟩ = some (.int .i64 0) := B1.cell 0; have b1 : v1.cell? ⟨outb, 1, none⟩ = some (.int .i64 0) := B1.cell 1; have b2 : v1.cell? ⟨outb, 2, none⟩ = some (.int .i64 0) := B1.cell 2; have b3 : v1.cell? ⟨outb, 3, none⟩ = some (.bool false) := B1.cell 3; have bf : ∀ i, v1.frozen? ⟨outb, i, none⟩ = false := fun i => B1.free i)
          go_meet
          case rel =>
            have oo : Oth [outb] v1 ((((v1.setCell ⟨outb, 0, none⟩ (.int .i64 xe.o.c)).setCell ⟨outb, 1, none⟩ (.int .i64 xe.o.v.k)).setCell ⟨outb, 2, none⟩ (.int .i64 xe.o.v.n)).setCell ⟨outb, 3, none⟩ (.bool xe.o.y)) := (((Oth.set _ _ _ _ (by simp)).trans (Oth.set _ _ _ _ (by simp))).trans (Oth.set _ _ _ _ (by simp))).trans (Oth.set _ _ _ _ (by simp))
            exact ⟨rfl, (((T1.set B1 0 _).set (B1.set 0 _) 1 _).set ((B1.set 0 _).set 1 _) 2 _).set (((B1.set 0 _).set 1 _).set 2 _) 3 _, ((((B1.set 0 (.int .i64 xe.o.c)).set 1 (.int .i64 xe.o.v.k)).set 2 (.int .i64 xe.o.v.n)).set 3 (.bool xe.o.y)), O1.oth oo (by simpa using (B1.ne O1 (by decide)).symm)⟩
        · obtain rfl : wv = none := by rcases hwq with ⟨h, _⟩ | ⟨_, h⟩; exact absurd h (by decide); exact h
          have wc0 : w9.cell? ⟨WB, 0, none⟩ = some (.pointer none) := (BW9.cell 0).trans i0
          have wc1 : w9.cell? ⟨WB, 1, none⟩ = some (pt p) := (BW9.cell 1).trans i1
          obtain ⟨vx', Bx'⟩ := m9.blk
          have fo0 := fOut0
          have fo1 := fOut1
          have fo2 := fOut2
          go_wp2_with (go_at_call 15; refine (cPResult Bx').mono ?_; rintro e v1 ⟨rfl, hbv1⟩; unfold Ou.val; have T1 := p9.below hbv1; have B1 := BO.below hbv1; have O1 := p49.below hbv1; have b0 : v1.cell? ⟨outb, 0, none⟩ = some (.int .i64 0) := B1.cell 0; have b1 : v1.cell? ⟨outb, 1, none⟩ = some (.int .i64 0) := B1.cell 1; have b2 : v1.cell? ⟨outb, 2, none⟩ = some (.int .i64 0) := B1.cell 2; have b3 : v1.cell? ⟨outb, 3, none⟩ = some (.bool false) := B1.cell 3; have bf : ∀ i, v1.frozen? ⟨outb, i, none⟩ = false := fun i => B1.free i)
          go_meet
          case rel =>
            have oo : Oth [outb] v1 ((((v1.setCell ⟨outb, 0, none⟩ (.int .i64 xe.o.c)).setCell ⟨outb, 1, none⟩ (.int .i64 xe.o.v.k)).setCell ⟨outb, 2, none⟩ (.int .i64 xe.o.v.n)).setCell ⟨outb, 3, none⟩ (.bool xe.o.y)) := (((Oth.set _ _ _ _ (by simp)).trans (Oth.set _ _ _ _ (by simp))).trans (Oth.set _ _ _ _ (by simp))).trans (Oth.set _ _ _ _ (by simp))
            exact ⟨rfl, (((T1.set B1 0 _).set (B1.set 0 _) 1 _).set ((B1.set 0 _).set 1 _) 2 _).set (((B1.set 0 _).set 1 _).set 2 _) 3 _, ((((B1.set 0 (.int .i64 xe.o.c)).set 1 (.int .i64 xe.o.v.k)).set 2 (.int .i64 xe.o.v.n)).set 3 (.bool xe.o.y)), O1.oth oo (by simpa using (B1.ne O1 (by decide)).symm)⟩
      case rest =>
        obtain ⟨rfl, k1, k2, k4⟩ := hcut
        clear hwv hwq p39 BW9 BO p9 p49
        obtain ⟨oc, hoc⟩ : ∃ v, xe.o.c = v := ⟨_, rfl⟩
        obtain ⟨ov, hov⟩ : ∃ v, xe.o.v = v := ⟨_, rfl⟩
        obtain ⟨oy, hoy'⟩ : ∃ v, xe.o.y = v := ⟨_, rfl⟩
        rw [hoc, hov, hoy'] at k2
        have Gse : U64 (se.got na) := k1.rng1.got na
        obtain ⟨gw, hgw⟩ : ∃ gw, se.got na = gw := ⟨_, rfl⟩
        obtain ⟨nv, hnv⟩ : ∃ nv, Vl.of gw = nv := ⟨_, rfl⟩
        have hwn : se.word na = gw := by rw [← In.got hL.len ⟨by omega, by omega⟩]; exact hgw
        have lrd : 1 + ka = 1 → oc = 0 ∧ ov = u ∧ nv = u := fun e => by
          obtain ⟨a1, a2, a3⟩ := hL.rd e
          rw [hna] at a2 a3
          exact ⟨hoc ▸ a1, by rw [← hov, a2, hSw, Gu.of], by rw [← hnv, ← hwn, a3, hSw, Gu.of]⟩
        have lwr : 1 + ka = 2 → oc = 0 ∧ nv = vy := fun e => by
          obtain ⟨a1, a3⟩ := hL.wr e
          rw [hna] at a3
          exact ⟨hoc ▸ a1, by rw [← hnv, ← hwn, a3]; exact Gy.of⟩
        have lyes : 1 + ka = 3 → u = vx → oy = true ∧ nv = vy := fun e h => by
          obtain ⟨a1, a3⟩ := hL.yes e (by rw [hna, hSw, Gu.of]; exact h)
          rw [hna] at a3
          exact ⟨hoy' ▸ a1, by rw [← hnv, ← hwn, a3]; exact Gy.of⟩
        have lno : 1 + ka = 3 → u ≠ vx → oy = false ∧ nv = u := fun e h => by
          obtain ⟨a1, a3⟩ := hL.no e (by rw [hna, hSw, Gu.of]; exact h)
          rw [hna] at a3
          exact ⟨hoy' ▸ a1, by rw [← hnv, ← hwn, a3, hSw, Gu.of]⟩
        rw [hgw] at Gse
        have hk2 : F.Plain.kind gw = nv.k := congrArg Vl.k hnv
        have hn2 : F.Plain.num gw = nv.n := congrArg Vl.n hnv
        have hU := u.u64
        have hkk2 : F.Plain.kind u.w = u.k := congrArg Vl.k Gu.of
        have hnn2 : F.Plain.num u.w = u.n := congrArg Vl.n Gu.of
        have c0 : wc.cell? ⟨ob, 0, none⟩ = some (.int .i64 kk) := k4.cell 0
        have c1 : wc.cell? ⟨ob, 1, none⟩ = some (.int .i64 q.b) := k4.cell 1
        have c2 : wc.cell? ⟨ob, 2, none⟩ = some (.int .i64 ko) := k4.cell 2
        have c3 : wc.cell? ⟨ob, 3, none⟩ = some (.int .i64 kf) := k4.cell 3
        have c4 : wc.cell? ⟨ob, 4, none⟩ = some (.int .i64 q.a) := k4.cell 4
        have c5 : wc.cell? ⟨ob, 5, none⟩ = some (.int .i64 q.x.k) := k4.cell 5
        have c6 : wc.cell? ⟨ob, 6, none⟩ = some (.int .i64 q.x.n) := k4.cell 6
        have c7 : wc.cell? ⟨ob, 7, none⟩ = some (.int .i64 q.y.k) := k4.cell 7
        have c8 : wc.cell? ⟨ob, 8, none⟩ = some (.int .i64 q.y.n) := k4.cell 8
        have cl := k4.lt
        go_upto_region 24 with (fail)
        try rw [hna]
        clear c0 c1 c2 c3 c4 c5 c6 c7 c8 cl
        obtain ⟨g, cp, hs⟩ := k1.seen
        have x0 := hs.c0
        rw [hSl] at x0
        have x1 := hs.at hSl na (by omega)
        rw [hSw] at x1
        have ly := hs.ly
        have lg := hs.lg
        obtain ⟨uw, huw⟩ : ∃ uw, u.w = uw := ⟨_, rfl⟩
        rw [huw] at x1 hU hkk2 hnn2
        go_upto_region 25 with (go_at_call 16; refine (F.rOf uw hU.1 hU.2 _).mono ?_; rintro e w10 ⟨rfl, hw10⟩; rw [hkk2, hnn2] at hw10 ⊢; have hb10 : Below wc.heap.size wc w10 := (by rw [hw10]; go_grown); have t1 := k1.below hb10; have t2 := k2.below hb10; have t4 := k4.below hb10; clear hw10 hb10)
        have BUb : Below w10.heap.size w10 (w10.alloc (.cells #[.int .i64 u.k, .int .i64 u.n] 24)) := (Below.refl _ _).alloc (Nat.le_refl _) _
        have BU : Blk w (w10.alloc (.cells #[.int .i64 u.k, .int .i64 u.n] 24)) w10.heap.size 24 #[.int .i64 u.k, .int .i64 u.n] := Blk.new t1.bel.size _ (by decide)
        have f1 := t1.below BUb
        have f2 := t2.below BUb
        have f4 := t4.below BUb
        generalize w10.alloc (.cells #[.int .i64 u.k, .int .i64 u.n] 24) = w11 at BU f1 f2 f4 ⊢
        generalize w10.heap.size = ub at BU ⊢
        clear BUb t1 t2 t4 k1 k2 k4 hs x0 x1 ly lg
        go_upto_region 26 with (first
          | (go_at_call 17; refine (tLoad f1 (by omega) na).mono ?_; rintro e w12 ⟨rfl, z1, o12, n12⟩; rw [hgw]; clear n12)
          | (go_at_call 16; refine (F.rOf gw Gse.1 Gse.2 _).mono ?_; rintro e w13 ⟨rfl, hw13⟩; rw [hk2, hn2] at hw13 ⊢; have hb13 : Below w12.heap.size w12 w13 := (by rw [hw13]; go_grown); clear hw13))
        have BNb : Below w13.heap.size w13 (w13.alloc (.cells #[.int .i64 nv.k, .int .i64 nv.n] 24)) := (Below.refl _ _).alloc (Nat.le_refl _) _
        have z2 := z1.below hb13
        have BN5 : Blk w (w13.alloc (.cells #[.int .i64 nv.k, .int .i64 nv.n] 24)) w13.heap.size 24 #[.int .i64 nv.k, .int .i64 nv.n] := Blk.new z2.bel.size _ (by decide)
        have BU5 := ((BU.oth o12 (by simp)).below hb13).below BNb
        have BO5 := ((f2.oth o12 (by simp)).below hb13).below BNb
        have OB5 := ((f4.oth o12 (by simp)).below hb13).below BNb
        have z3 := z2.below BNb
        generalize w13.alloc (.cells #[.int .i64 nv.k, .int .i64 nv.n] 24) = w14 at BN5 BU5 BO5 OB5 z3 ⊢
        generalize w13.heap.size = nb at BN5 ⊢
        clear BNb z1 z2 hb13 o12 f1 f2 f4 BU
        have z1 := z3
        clear z3
        have hws : (se.load na).ws = se.ws := rfl
        go_wp2_with (fail)
        go_loopw [16] (fun a wr => ∃ n : Nat, 96 ≤ n ∧ n ≤ 160 ∧ a = .int .i64 n ∧ ∃ s, s.ws = se.ws ∧ Two w wr b y s S (200 + n) ∧ Blk w wr outb 45 #[.int .i64 oc, .int .i64 ov.k, .int .i64 ov.n, .bool oy] ∧ Blk w wr ub 24 #[.int .i64 u.k, .int .i64 u.n] ∧ Blk w wr nb 24 #[.int .i64 nv.k, .int .i64 nv.n] ∧ Blk w wr ob 26 #[.int .i64 kk, .int .i64 q.b, .int .i64 ko, .int .i64 kf, .int .i64 q.a, .int .i64 q.x.k, .int .i64 q.x.n, .int .i64 q.y.k, .int .i64 q.y.n]) (fun a _ => 160 - (intOf a).toNat)
        case atStart => exact ⟨96, Nat.le_refl _, by decide, rfl, _, hws, z1.mono (by omega), BO5, BU5, BN5, OB5⟩
        case round =>
          obtain ⟨n, hn0, hn1, rfl, s, hs, p1, BO, BU, BN, OB⟩ := hrel
          clear z1 BO5 BU5 BN5 OB5 hws
          by_cases hn : n < 160
          case pos =>
            have d1 : decide ((n : Int) < 160) = true := by simp; omega
            rcases Nat.lt_trichotomy n na with hne | rfl | hne
            rotate_left
            · have e1 : ((n : Int) != (n : Int)) = false := by simp
              go_upto_region 29 with (fail)
              go_quiet (fail)
              go_wp2
              go_roundw
              case rel => exact ⟨n + 1, by omega, by omega, by go_num, s, hs, (p1.below (bel_drewN _ _)).mono (by omega), BO.below (bel_drewN _ _), BU.below (bel_drewN _ _), BN.below (bel_drewN _ _), OB.below (bel_drewN _ _)⟩
              case measure => simp [intOf]; omega
            all_goals (
              have e1 : ((n : Int) != (na : Int)) = true := by simp; omega
              obtain ⟨r4, hr4⟩ : ∃ r4 : Nat, (n : Int) % 4 = (r4 : Int) := ⟨((n : Int) % 4).toNat, by omega⟩
              have hr5 : (r4 : Int) < 4 := by omega
              rcases e2 : ((r4 : Int) != 0) with _ | _
              · go_upto_region 29 with (fail)
                go_quiet (fail)
                go_wp2
                go_roundw
                case rel => exact ⟨n + 1, by omega, by omega, by go_num, s, hs, (p1.below (bel_drewN _ _)).mono (by omega), BO.below (bel_drewN _ _), BU.below (bel_drewN _ _), BN.below (bel_drewN _ _), OB.below (bel_drewN _ _)⟩
                case measure => simp [intOf]; omega
              · obtain ⟨g, cp, hse⟩ := p1.seen
                have x0 := hse.c0
                rw [hSl] at x0
                have xj := hse.at hSl n hn
                have hsl : s.ws.length = 160 := by rw [hs]; exact hL.len
                have gj : s.got n = S.word n := by
                  rw [In.got hsl ⟨by omega, by omega⟩]
                  have : s.word n = se.word n := by simp only [St.word, hs]
                  rw [this]
                  exact hL.rest n ⟨by omega, by omega⟩ (by rw [hna]; omega) (by omega) (by rw [hr4]; simpa using e2)
                obtain ⟨v, hv⟩ : ∃ v, S.word n = v := ⟨_, rfl⟩
                rw [hv] at xj gj
                have lyy := hse.ly
                have lgg := hse.lg
                go_upto_region 29 with (fail)
                refine wp_region_noPanic ?_
                have x0d : wr.drew.cell? ⟨y, 0, none⟩ = some (.slice (some ⟨g, 0, none⟩) 160 cp) := x0
                have xjd : wr.drew.cell? ⟨g, n, none⟩ = some (.int .u64 v) := xj
                refine wp_region_held_drew (S := fun w' => w'.cell? ⟨y, 0, none⟩ = some (.slice (some ⟨g, 0, none⟩) 160 cp) ∧ w'.cell? ⟨g, n, none⟩ = some (.int .u64 v)) (by kernel_rfl) ⟨x0d, xjd⟩ (fun hHeld => ?_)
                refine takeH (i := 0) 99 (.int .i64 n) rfl rfl (by kernel_rfl) (by kernel_rfl) (by kernel_rfl) (fun _ _ _ h => h) (by rfl) ?_ (by assumption) ?_
                · intro w hSw; (try dsimp only at hSw); go_simp
                simp only [List.setIfInBounds_toArray, List.set_cons_zero, List.set_cons_succ]
                refine takeH (i := 1) 100 (.int .i64 na) rfl rfl (by kernel_rfl) (by kernel_rfl) (by kernel_rfl) (fun _ _ _ h => h) (by rfl) ?_ (by assumption) ?_
                · intro w hSw; (try dsimp only at hSw); go_simp
                simp only [List.setIfInBounds_toArray, List.set_cons_zero, List.set_cons_succ]
                refine takeH (i := 2) 101 (.bool true) rfl rfl (by kernel_rfl) (by kernel_rfl) (by kernel_rfl) (fun _ _ _ h => h) (by rfl) ?_ (by assumption) ?_
                · intro w hSw; (try dsimp only at hSw); go_simp
                simp only [List.setIfInBounds_toArray, List.set_cons_zero, List.set_cons_succ]
                refine takeH (i := 3) 102 (.bool true) rfl rfl (by kernel_rfl) (by kernel_rfl) (by kernel_rfl) (fun _ _ _ h => h) (by rfl) ?_ (by assumption) ?_
                · intro w hSw; (try dsimp only at hSw); go_simp
                simp only [List.setIfInBounds_toArray, List.set_cons_zero, List.set_cons_succ]
                refine takeH (i := 4) 103 (.int .i64 n) rfl rfl (by kernel_rfl) (by kernel_rfl) (by kernel_rfl) (fun _ _ _ h => h) (by rfl) ?_ (by assumption) ?_
                · intro w hSw; (try dsimp only at hSw); go_simp
                simp only [List.setIfInBounds_toArray, List.set_cons_zero, List.set_cons_succ]
                refine takeH (i := 5) 104 (.int .i64 r4) rfl rfl (by kernel_rfl) (by kernel_rfl) (by kernel_rfl) (fun _ _ _ h => h) (by rfl) ?_ (by assumption) ?_
                · intro w hSw; (try dsimp only at hSw); go_simp; exact (Int.tmod_eq_emod_of_nonneg (by omega)).trans hr4
                simp only [List.setIfInBounds_toArray, List.set_cons_zero, List.set_cons_succ]
                refine takeH (i := 6) 105 (.bool true) rfl rfl (by kernel_rfl) (by kernel_rfl) (by kernel_rfl) (fun _ _ _ h => h) (by rfl) ?_ (by assumption) ?_
                · intro w hSw; (try dsimp only at hSw); go_simp
                simp only [List.setIfInBounds_toArray, List.set_cons_zero, List.set_cons_succ]
                refine takeH (i := 7) 106 (.bool true) rfl rfl (by kernel_rfl) (by kernel_rfl) (by kernel_rfl) (fun _ _ _ h => h) (by rfl) ?_ (by assumption) ?_
                · intro w hSw; (try dsimp only at hSw); go_simp
                simp only [List.setIfInBounds_toArray, List.set_cons_zero, List.set_cons_succ]
                refine takeH (i := 8) 107 (.bool true) rfl rfl (by kernel_rfl) (by kernel_rfl) (by kernel_rfl) (fun _ _ _ h => h) (by rfl) ?_ (by assumption) ?_
                · intro w hSw; (try dsimp only at hSw); go_simp
                simp only [List.setIfInBounds_toArray, List.set_cons_zero, List.set_cons_succ]
                refine takeH (i := 9) 108 (pt b) rfl rfl (by kernel_rfl) (by kernel_rfl) (by kernel_rfl) (fun _ _ _ h => h) (by rfl) ?_ (by assumption) ?_
                · intro w hSw; (try dsimp only at hSw); go_simp
                simp only [List.setIfInBounds_toArray, List.set_cons_zero, List.set_cons_succ]
                refine takeH (i := 10) 109 (.int .i64 n) rfl rfl (by kernel_rfl) (by kernel_rfl) (by kernel_rfl) (fun _ _ _ h => h) (by rfl) ?_ (by assumption) ?_
                · intro w hSw; (try dsimp only at hSw); go_simp
                simp only [List.setIfInBounds_toArray, List.set_cons_zero, List.set_cons_succ]
                refine takeH (i := 12) 111 (pt y) rfl rfl (by kernel_rfl) (by kernel_rfl) (by kernel_rfl) (fun _ _ _ h => h) (by rfl) ?_ (by assumption) ?_
                · intro w hSw; (try dsimp only at hSw); go_simp
                simp only [List.setIfInBounds_toArray, List.set_cons_zero, List.set_cons_succ]
                refine takeH (i := 13) 112 (pt y) rfl rfl (by kernel_rfl) (by kernel_rfl) (by kernel_rfl) (fun _ _ _ h => h) (by rfl) ?_ (by assumption) ?_
                · intro w hSw; (try dsimp only at hSw); go_simp
                simp only [List.setIfInBounds_toArray, List.set_cons_zero, List.set_cons_succ]
                refine takeH (i := 14) 113 (pt y) rfl rfl (by kernel_rfl) (by kernel_rfl) (by kernel_rfl) (fun _ _ _ h => h) (by rfl) ?_ (by assumption) ?_
                · intro w hSw; (try dsimp only at hSw); go_simp
                simp only [List.setIfInBounds_toArray, List.set_cons_zero, List.set_cons_succ]
                refine takeH (i := 15) 114 (.slice (some ⟨g, 0, none⟩) 160 cp) rfl rfl (by kernel_rfl) (by kernel_rfl) (by kernel_rfl) (fun _ _ _ h => h) (by rfl) ?_ (by assumption) ?_
                · intro w hSw; (try dsimp only at hSw); go_simp
                simp only [List.setIfInBounds_toArray, List.set_cons_zero, List.set_cons_succ]
                refine takeH (i := 16) 115 (.int .i64 n) rfl rfl (by kernel_rfl) (by kernel_rfl) (by kernel_rfl) (fun _ _ _ h => h) (by rfl) ?_ (by assumption) ?_
                · intro w hSw; (try dsimp only at hSw); go_simp
                simp only [List.setIfInBounds_toArray, List.set_cons_zero, List.set_cons_succ]
                refine takeH (i := 17) 116 (.pointer (some ⟨g, n, none⟩)) rfl rfl (by kernel_rfl) (by kernel_rfl) (by kernel_rfl) (fun _ _ _ h => h) (by rfl) ?_ (by assumption) ?_
                · intro w hSw; (try dsimp only at hSw); go_simp; intro h; exact absurd h (by omega)
                simp only [List.setIfInBounds_toArray, List.set_cons_zero, List.set_cons_succ]
                refine takeH (i := 18) 117 (.int .u64 v) rfl rfl (by kernel_rfl) (by kernel_rfl) (by kernel_rfl) (fun _ _ _ h => h) (by rfl) ?_ (by assumption) ?_
                · intro w hSw; (try dsimp only at hSw); go_simp
                simp only [List.setIfInBounds_toArray, List.set_cons_zero, List.set_cons_succ]
                refine wpAnyH_ready (rs := [11]) (by kernel_rfl) (by simp) ?_
                refine AllReadyH.cons rfl (fun K hK => ?_) AllReadyH.nil
                go_simp
                refine (tLoad p1.drew (by omega) n).mono ?_
                rintro e w7 ⟨rfl, h7, o7, n7⟩
                rw [gj]
                have hse7 := n7 g cp (hse.below (Below.refl _ _).drew)
                have x7 : w7.cell? ⟨y, 0, none⟩ = some (.slice (some ⟨g, 0, none⟩) 160 cp) ∧ w7.cell? ⟨g, n, none⟩ = some (.int .u64 v) := ⟨hSl ▸ hse7.c0, hv ▸ hse7.at hSl n hn⟩
                clear hse7 n7
                refine hK.out _ _ x7 (fun hHeld => ?_)
                clear hK K
                try simp only [Act.put, List.setIfInBounds_toArray, List.set_cons_zero, List.set_cons_succ]
                refine takeH (i := 19) 118 (.bool false) rfl rfl (by kernel_rfl) (by kernel_rfl) (by kernel_rfl) (fun _ _ _ h => h) (by rfl) ?_ (by assumption) ?_
                · intro w hSw; (try dsimp only at hSw); go_simp
                simp only [List.setIfInBounds_toArray, List.set_cons_zero, List.set_cons_succ]
                refine takeH (i := 20) 119 (.bool false) rfl rfl (by kernel_rfl) (by kernel_rfl) (by kernel_rfl) (fun _ _ _ h => h) (by rfl) ?_ (by assumption) ?_
                · intro w hSw; (try dsimp only at hSw); go_simp
                simp only [List.setIfInBounds_toArray, List.set_cons_zero, List.set_cons_succ]
                refine wpAnyH_done (by kernel_rfl) ?_ _
                refine NoPanic.normal ?_
                go_wp2
                go_roundw
                case rel => exact ⟨n + 1, by omega, by omega, by go_num, s.load n, hs, h7.mono (by omega), (BO.below (Below.refl _ _).drew).oth o7 (by simp), (BU.below (Below.refl _ _).drew).oth o7 (by simp), (BN.below (Below.refl _ _).drew).oth o7 (by simp), (OB.below (Below.refl _ _).drew).oth o7 (by simp)⟩
                case measure => simp [intOf]; omega)

          case neg =>
            obtain rfl : n = 160 := by omega
            have hk3 : ka = 0 ∨ ka = 1 ∨ ka = 2 := by omega
            have o0 : wr.cell? ⟨outb, 0, none⟩ = some (.int .i64 oc) := BO.cell 0
            have o1 : wr.cell? ⟨outb, 1, none⟩ = some (.int .i64 ov.k) := BO.cell 1
            have o2 : wr.cell? ⟨outb, 2, none⟩ = some (.int .i64 ov.n) := BO.cell 2
            have o3 : wr.cell? ⟨outb, 3, none⟩ = some (.bool oy) := BO.cell 3
            have ol := BO.lt
            have a0 : wr.cell? ⟨ub, 0, none⟩ = some (.int .i64 u.k) := BU.cell 0
            have a1 : wr.cell? ⟨ub, 1, none⟩ = some (.int .i64 u.n) := BU.cell 1
            have al := BU.lt
            have n0 : wr.cell? ⟨nb, 0, none⟩ = some (.int .i64 nv.k) := BN.cell 0
            have n1 : wr.cell? ⟨nb, 1, none⟩ = some (.int .i64 nv.n) := BN.cell 1
            have nl := BN.lt
            have c0 : wr.cell? ⟨ob, 0, none⟩ = some (.int .i64 kk) := OB.cell 0
            have c1 : wr.cell? ⟨ob, 1, none⟩ = some (.int .i64 q.b) := OB.cell 1
            have c2 : wr.cell? ⟨ob, 2, none⟩ = some (.int .i64 ko) := OB.cell 2
            have c3 : wr.cell? ⟨ob, 3, none⟩ = some (.int .i64 kf) := OB.cell 3
            have c4 : wr.cell? ⟨ob, 4, none⟩ = some (.int .i64 q.a) := OB.cell 4
            have c5 : wr.cell? ⟨ob, 5, none⟩ = some (.int .i64 q.x.k) := OB.cell 5
            have c6 : wr.cell? ⟨ob, 6, none⟩ = some (.int .i64 q.x.n) := OB.cell 6
            have c7 : wr.cell? ⟨ob, 7, none⟩ = some (.int .i64 q.y.k) := OB.cell 7
            have c8 : wr.cell? ⟨ob, 8, none⟩ = some (.int .i64 q.y.n) := OB.cell 8
            have cl := OB.lt
            clear hk3b
            rcases hk3 with rfl | rfl | rfl
            · obtain ⟨h1, h2, h3⟩ := lrd rfl
              rw [h1] at o0
              clear lrd lwr lyes lno
              have vq1 := eqVal_t (a := ov) (b := u) h2
              have vq2 := eqVal_t (a := nv) (b := u) h3
              clear h1 h2 h3
              go_wp2_with (go_at_call 10; refine (cKind _ q.a 3 fq.a.1 fq.a.2 (by decide)).mono ?_; rintro e wk ⟨rfl, hwk⟩; rw [hwk, hka]; clear hwk wk)
              go_ret
              exact ⟨rfl, p1.bel⟩
            · obtain ⟨h1, h2⟩ := lwr rfl
              rw [h1] at o0
              clear lrd lwr lyes lno
              have vq := eqVal_t (a := nv) (b := vy) h2
              clear h1 h2
              go_upto_region 35 with (go_at_call 10; refine (cKind _ q.a 3 fq.a.1 fq.a.2 (by decide)).mono ?_; rintro e wk ⟨rfl, hwk⟩; rw [hwk, hka]; clear hwk wk)
              have keep : ∀ w', Below wr.heap.size wr w' → w'.cell? ⟨outb, 0, none⟩ = some (.int .i64 0) ∧ w'.cell? ⟨outb, 1, none⟩ = some (.int .i64 ov.k) ∧ w'.cell? ⟨outb, 2, none⟩ = some (.int .i64 ov.n) ∧ w'.cell? ⟨outb, 3, none⟩ = some (.bool oy) ∧ w'.cell? ⟨ub, 0, none⟩ = some (.int .i64 u.k) ∧ w'.cell? ⟨ub, 1, none⟩ = some (.int .i64 u.n) ∧ w'.cell? ⟨nb, 0, none⟩ = some (.int .i64 nv.k) ∧ w'.cell? ⟨nb, 1, none⟩ = some (.int .i64 nv.n) ∧ w'.cell? ⟨ob, 0, none⟩ = some (.int .i64 kk) ∧ w'.cell? ⟨ob, 1, none⟩ = some (.int .i64 q.b) ∧ w'.cell? ⟨ob, 2, none⟩ = some (.int .i64 ko) ∧ w'.cell? ⟨ob, 3, none⟩ = some (.int .i64 kf) ∧ w'.cell? ⟨ob, 4, none⟩ = some (.int .i64 q.a) ∧ w'.cell? ⟨ob, 5, none⟩ = some (.int .i64 q.x.k) ∧ w'.cell? ⟨ob, 6, none⟩ = some (.int .i64 q.x.n) ∧ w'.cell? ⟨ob, 7, none⟩ = some (.int .i64 q.y.k) ∧ w'.cell? ⟨ob, 8, none⟩ = some (.int .i64 q.y.n) := fun w' hb => ⟨bcell hb ol o0, bcell hb ol o1, bcell hb ol o2, bcell hb ol o3, bcell hb al a0, bcell hb al a1, bcell hb nl n0, bcell hb nl n1, bcell hb cl c0, bcell hb cl c1, bcell hb cl c2, bcell hb cl c3, bcell hb cl c4, bcell hb cl c5, bcell hb cl c6, bcell hb cl c7, bcell hb cl c8⟩
              have hbd : Below wr.heap.size wr wr.drew := (Below.refl _ _).drew
              have RD := keep _ hbd
              go_region_held3 (fun w' => w'.cell? ⟨outb, 0, none⟩ = some (.int .i64 0) ∧ w'.cell? ⟨outb, 1, none⟩ = some (.int .i64 ov.k) ∧ w'.cell? ⟨outb, 2, none⟩ = some (.int .i64 ov.n) ∧ w'.cell? ⟨outb, 3, none⟩ = some (.bool oy) ∧ w'.cell? ⟨ub, 0, none⟩ = some (.int .i64 u.k) ∧ w'.cell? ⟨ub, 1, none⟩ = some (.int .i64 u.n) ∧ w'.cell? ⟨nb, 0, none⟩ = some (.int .i64 nv.k) ∧ w'.cell? ⟨nb, 1, none⟩ = some (.int .i64 nv.n) ∧ w'.cell? ⟨ob, 0, none⟩ = some (.int .i64 kk) ∧ w'.cell? ⟨ob, 1, none⟩ = some (.int .i64 q.b) ∧ w'.cell? ⟨ob, 2, none⟩ = some (.int .i64 ko) ∧ w'.cell? ⟨ob, 3, none⟩ = some (.int .i64 kf) ∧ w'.cell? ⟨ob, 4, none⟩ = some (.int .i64 q.a) ∧ w'.cell? ⟨ob, 5, none⟩ = some (.int .i64 q.x.k) ∧ w'.cell? ⟨ob, 6, none⟩ = some (.int .i64 q.x.n) ∧ w'.cell? ⟨ob, 7, none⟩ = some (.int .i64 q.y.k) ∧ w'.cell? ⟨ob, 8, none⟩ = some (.int .i64 q.y.n)) (first | assumption | exact RD | exact keep _ (by assumption))
                ((go_at_call 18; refine (cVal q.y fq.y _).mono ?_; rintro e v1 ⟨rfl, hbv1⟩; rw [hvy]; have hq1 := bel_trans hbd hbv1))
              go_wp2
              go_ret
              exact ⟨rfl, bel_trans p1.bel hq1⟩
            · by_cases hd0 : u = vx
              · have heq' : ∀ w, (binOp .eql 24 (.agg #[.int .i64 u.k, .int .i64 u.n]) (.agg #[.int .i64 vx.k, .int .i64 vx.n])).run Tryd.prog w = .ok (.bool true) w := eqVal_t (a := u) (b := vx) hd0
                obtain ⟨hoy, hnv⟩ : oy = true ∧ nv = vy := lyes rfl hd0
                rw [hoy] at o3
                clear lrd lwr lyes lno
                go_upto_region 36 with (go_at_call 10; refine (cKind _ q.a 3 fq.a.1 fq.a.2 (by decide)).mono ?_; rintro e wk ⟨rfl, hwk⟩; rw [hwk, hka]; clear hwk wk)
                have keep : ∀ w', Below wr.heap.size wr w' → w'.cell? ⟨outb, 0, none⟩ = some (.int .i64 oc) ∧ w'.cell? ⟨outb, 1, none⟩ = some (.int .i64 ov.k) ∧ w'.cell? ⟨outb, 2, none⟩ = some (.int .i64 ov.n) ∧ w'.cell? ⟨outb, 3, none⟩ = some (.bool true) ∧ w'.cell? ⟨ub, 0, none⟩ = some (.int .i64 u.k) ∧ w'.cell? ⟨ub, 1, none⟩ = some (.int .i64 u.n) ∧ w'.cell? ⟨nb, 0, none⟩ = some (.int .i64 nv.k) ∧ w'.cell? ⟨nb, 1, none⟩ = some (.int .i64 nv.n) ∧ w'.cell? ⟨ob, 0, none⟩ = some (.int .i64 kk) ∧ w'.cell? ⟨ob, 1, none⟩ = some (.int .i64 q.b) ∧ w'.cell? ⟨ob, 2, none⟩ = some (.int .i64 ko) ∧ w'.cell? ⟨ob, 3, none⟩ = some (.int .i64 kf) ∧ w'.cell? ⟨ob, 4, none⟩ = some (.int .i64 q.a) ∧ w'.cell? ⟨ob, 5, none⟩ = some (.int .i64 q.x.k) ∧ w'.cell? ⟨ob, 6, none⟩ = some (.int .i64 q.x.n) ∧ w'.cell? ⟨ob, 7, none⟩ = some (.int .i64 q.y.k) ∧ w'.cell? ⟨ob, 8, none⟩ = some (.int .i64 q.y.n) := fun w' hb => ⟨bcell hb ol o0, bcell hb ol o1, bcell hb ol o2, bcell hb ol o3, bcell hb al a0, bcell hb al a1, bcell hb nl n0, bcell hb nl n1, bcell hb cl c0, bcell hb cl c1, bcell hb cl c2, bcell hb cl c3, bcell hb cl c4, bcell hb cl c5, bcell hb cl c6, bcell hb cl c7, bcell hb cl c8⟩
                have hbd : Below wr.heap.size wr wr.drew := (Below.refl _ _).drew
                have RD := keep _ hbd
                go_region_held3 (fun w' => w'.cell? ⟨outb, 0, none⟩ = some (.int .i64 oc) ∧ w'.cell? ⟨outb, 1, none⟩ = some (.int .i64 ov.k) ∧ w'.cell? ⟨outb, 2, none⟩ = some (.int .i64 ov.n) ∧ w'.cell? ⟨outb, 3, none⟩ = some (.bool true) ∧ w'.cell? ⟨ub, 0, none⟩ = some (.int .i64 u.k) ∧ w'.cell? ⟨ub, 1, none⟩ = some (.int .i64 u.n) ∧ w'.cell? ⟨nb, 0, none⟩ = some (.int .i64 nv.k) ∧ w'.cell? ⟨nb, 1, none⟩ = some (.int .i64 nv.n) ∧ w'.cell? ⟨ob, 0, none⟩ = some (.int .i64 kk) ∧ w'.cell? ⟨ob, 1, none⟩ = some (.int .i64 q.b) ∧ w'.cell? ⟨ob, 2, none⟩ = some (.int .i64 ko) ∧ w'.cell? ⟨ob, 3, none⟩ = some (.int .i64 kf) ∧ w'.cell? ⟨ob, 4, none⟩ = some (.int .i64 q.a) ∧ w'.cell? ⟨ob, 5, none⟩ = some (.int .i64 q.x.k) ∧ w'.cell? ⟨ob, 6, none⟩ = some (.int .i64 q.x.n) ∧ w'.cell? ⟨ob, 7, none⟩ = some (.int .i64 q.y.k) ∧ w'.cell? ⟨ob, 8, none⟩ = some (.int .i64 q.y.n)) (first | assumption | exact RD | exact keep _ (by assumption))
                  ((go_at_call 18; refine (cVal q.x fq.x _).mono ?_; rintro e v1 ⟨rfl, hbv1⟩; rw [hvx]; have hq1 := bel_trans hbd hbv1))
                clear keep RD
                have BO2 := BO.below hq1
                have BU2 := BU.below hq1
                have BN2 := BN.below hq1
                have OB2 := OB.below hq1
                rw [hoy] at BO2
                clear o0 o1 o2 o3 ol a0 a1 al n0 n1 nl c0 c1 c2 c3 c4 c5 c6 c7 c8 cl
                have o0 : v1.cell? ⟨outb, 0, none⟩ = some (.int .i64 oc) := BO2.cell 0
                have o1 : v1.cell? ⟨outb, 1, none⟩ = some (.int .i64 ov.k) := BO2.cell 1
                have o2 : v1.cell? ⟨outb, 2, none⟩ = some (.int .i64 ov.n) := BO2.cell 2
                have o3 : v1.cell? ⟨outb, 3, none⟩ = some (.bool true) := BO2.cell 3
                have ol := BO2.lt
                have a0 : v1.cell? ⟨ub, 0, none⟩ = some (.int .i64 u.k) := BU2.cell 0
                have a1 : v1.cell? ⟨ub, 1, none⟩ = some (.int .i64 u.n) := BU2.cell 1
                have al := BU2.lt
                have n0 : v1.cell? ⟨nb, 0, none⟩ = some (.int .i64 nv.k) := BN2.cell 0
                have n1 : v1.cell? ⟨nb, 1, none⟩ = some (.int .i64 nv.n) := BN2.cell 1
                have nl := BN2.lt
                have c0 : v1.cell? ⟨ob, 0, none⟩ = some (.int .i64 kk) := OB2.cell 0
                have c1 : v1.cell? ⟨ob, 1, none⟩ = some (.int .i64 q.b) := OB2.cell 1
                have c2 : v1.cell? ⟨ob, 2, none⟩ = some (.int .i64 ko) := OB2.cell 2
                have c3 : v1.cell? ⟨ob, 3, none⟩ = some (.int .i64 kf) := OB2.cell 3
                have c4 : v1.cell? ⟨ob, 4, none⟩ = some (.int .i64 q.a) := OB2.cell 4
                have c5 : v1.cell? ⟨ob, 5, none⟩ = some (.int .i64 q.x.k) := OB2.cell 5
                have c6 : v1.cell? ⟨ob, 6, none⟩ = some (.int .i64 q.x.n) := OB2.cell 6
                have c7 : v1.cell? ⟨ob, 7, none⟩ = some (.int .i64 q.y.k) := OB2.cell 7
                have c8 : v1.cell? ⟨ob, 8, none⟩ = some (.int .i64 q.y.n) := OB2.cell 8
                have cl := OB2.lt
                have vq := eqVal_t (a := nv) (b := vy) hnv
                have hbw := bel_trans p1.bel hq1
                clear hq1 hbv1 hbd heq'
                go_upto_region 38 with (fail)
                have keep : ∀ w', Below v1.heap.size v1 w' → w'.cell? ⟨outb, 0, none⟩ = some (.int .i64 oc) ∧ w'.cell? ⟨outb, 1, none⟩ = some (.int .i64 ov.k) ∧ w'.cell? ⟨outb, 2, none⟩ = some (.int .i64 ov.n) ∧ w'.cell? ⟨outb, 3, none⟩ = some (.bool true) ∧ w'.cell? ⟨ub, 0, none⟩ = some (.int .i64 u.k) ∧ w'.cell? ⟨ub, 1, none⟩ = some (.int .i64 u.n) ∧ w'.cell? ⟨nb, 0, none⟩ = some (.int .i64 nv.k) ∧ w'.cell? ⟨nb, 1, none⟩ = some (.int .i64 nv.n) ∧ w'.cell? ⟨ob, 0, none⟩ = some (.int .i64 kk) ∧ w'.cell? ⟨ob, 1, none⟩ = some (.int .i64 q.b) ∧ w'.cell? ⟨ob, 2, none⟩ = some (.int .i64 ko) ∧ w'.cell? ⟨ob, 3, none⟩ = some (.int .i64 kf) ∧ w'.cell? ⟨ob, 4, none⟩ = some (.int .i64 q.a) ∧ w'.cell? ⟨ob, 5, none⟩ = some (.int .i64 q.x.k) ∧ w'.cell? ⟨ob, 6, none⟩ = some (.int .i64 q.x.n) ∧ w'.cell? ⟨ob, 7, none⟩ = some (.int .i64 q.y.k) ∧ w'.cell? ⟨ob, 8, none⟩ = some (.int .i64 q.y.n) := fun w' hb => ⟨bcell hb ol o0, bcell hb ol o1, bcell hb ol o2, bcell hb ol o3, bcell hb al a0, bcell hb al a1, bcell hb nl n0, bcell hb nl n1, bcell hb cl c0, bcell hb cl c1, bcell hb cl c2, bcell hb cl c3, bcell hb cl c4, bcell hb cl c5, bcell hb cl c6, bcell hb cl c7, bcell hb cl c8⟩
                have hbd : Below v1.heap.size v1 v1.drew := (Below.refl _ _).drew
                have RD := keep _ hbd
                go_region_held3 (fun w' => w'.cell? ⟨outb, 0, none⟩ = some (.int .i64 oc) ∧ w'.cell? ⟨outb, 1, none⟩ = some (.int .i64 ov.k) ∧ w'.cell? ⟨outb, 2, none⟩ = some (.int .i64 ov.n) ∧ w'.cell? ⟨outb, 3, none⟩ = some (.bool true) ∧ w'.cell? ⟨ub, 0, none⟩ = some (.int .i64 u.k) ∧ w'.cell? ⟨ub, 1, none⟩ = some (.int .i64 u.n) ∧ w'.cell? ⟨nb, 0, none⟩ = some (.int .i64 nv.k) ∧ w'.cell? ⟨nb, 1, none⟩ = some (.int .i64 nv.n) ∧ w'.cell? ⟨ob, 0, none⟩ = some (.int .i64 kk) ∧ w'.cell? ⟨ob, 1, none⟩ = some (.int .i64 q.b) ∧ w'.cell? ⟨ob, 2, none⟩ = some (.int .i64 ko) ∧ w'.cell? ⟨ob, 3, none⟩ = some (.int .i64 kf) ∧ w'.cell? ⟨ob, 4, none⟩ = some (.int .i64 q.a) ∧ w'.cell? ⟨ob, 5, none⟩ = some (.int .i64 q.x.k) ∧ w'.cell? ⟨ob, 6, none⟩ = some (.int .i64 q.x.n) ∧ w'.cell? ⟨ob, 7, none⟩ = some (.int .i64 q.y.k) ∧ w'.cell? ⟨ob, 8, none⟩ = some (.int .i64 q.y.n)) (first | assumption | exact RD | exact keep _ (by assumption))
                  ((go_at_call 18; refine (cVal q.y fq.y _).mono ?_; rintro e v2 ⟨rfl, hbv2⟩; rw [hvy]; have hq2 := bel_trans hbd hbv2))
                go_wp2
                go_ret
                exact ⟨rfl, bel_trans hbw hq2⟩
              · have heq' : ∀ w, (binOp .eql 24 (.agg #[.int .i64 u.k, .int .i64 u.n]) (.agg #[.int .i64 vx.k, .int .i64 vx.n])).run Tryd.prog w = .ok (.bool false) w := eqVal_f (a := u) (b := vx) hd0
                obtain ⟨hoy, hnv⟩ : oy = false ∧ nv = u := lno rfl hd0
                rw [hoy] at o3
                clear lrd lwr lyes lno
                go_upto_region 36 with (go_at_call 10; refine (cKind _ q.a 3 fq.a.1 fq.a.2 (by decide)).mono ?_; rintro e wk ⟨rfl, hwk⟩; rw [hwk, hka]; clear hwk wk)
                have keep : ∀ w', Below wr.heap.size wr w' → w'.cell? ⟨outb, 0, none⟩ = some (.int .i64 oc) ∧ w'.cell? ⟨outb, 1, none⟩ = some (.int .i64 ov.k) ∧ w'.cell? ⟨outb, 2, none⟩ = some (.int .i64 ov.n) ∧ w'.cell? ⟨outb, 3, none⟩ = some (.bool false) ∧ w'.cell? ⟨ub, 0, none⟩ = some (.int .i64 u.k) ∧ w'.cell? ⟨ub, 1, none⟩ = some (.int .i64 u.n) ∧ w'.cell? ⟨nb, 0, none⟩ = some (.int .i64 nv.k) ∧ w'.cell? ⟨nb, 1, none⟩ = some (.int .i64 nv.n) ∧ w'.cell? ⟨ob, 0, none⟩ = some (.int .i64 kk) ∧ w'.cell? ⟨ob, 1, none⟩ = some (.int .i64 q.b) ∧ w'.cell? ⟨ob, 2, none⟩ = some (.int .i64 ko) ∧ w'.cell? ⟨ob, 3, none⟩ = some (.int .i64 kf) ∧ w'.cell? ⟨ob, 4, none⟩ = some (.int .i64 q.a) ∧ w'.cell? ⟨ob, 5, none⟩ = some (.int .i64 q.x.k) ∧ w'.cell? ⟨ob, 6, none⟩ = some (.int .i64 q.x.n) ∧ w'.cell? ⟨ob, 7, none⟩ = some (.int .i64 q.y.k) ∧ w'.cell? ⟨ob, 8, none⟩ = some (.int .i64 q.y.n) := fun w' hb => ⟨bcell hb ol o0, bcell hb ol o1, bcell hb ol o2, bcell hb ol o3, bcell hb al a0, bcell hb al a1, bcell hb nl n0, bcell hb nl n1, bcell hb cl c0, bcell hb cl c1, bcell hb cl c2, bcell hb cl c3, bcell hb cl c4, bcell hb cl c5, bcell hb cl c6, bcell hb cl c7, bcell hb cl c8⟩
                have hbd : Below wr.heap.size wr wr.drew := (Below.refl _ _).drew
                have RD := keep _ hbd
                go_region_held3 (fun w' => w'.cell? ⟨outb, 0, none⟩ = some (.int .i64 oc) ∧ w'.cell? ⟨outb, 1, none⟩ = some (.int .i64 ov.k) ∧ w'.cell? ⟨outb, 2, none⟩ = some (.int .i64 ov.n) ∧ w'.cell? ⟨outb, 3, none⟩ = some (.bool false) ∧ w'.cell? ⟨ub, 0, none⟩ = some (.int .i64 u.k) ∧ w'.cell? ⟨ub, 1, none⟩ = some (.int .i64 u.n) ∧ w'.cell? ⟨nb, 0, none⟩ = some (.int .i64 nv.k) ∧ w'.cell? ⟨nb, 1, none⟩ = some (.int .i64 nv.n) ∧ w'.cell? ⟨ob, 0, none⟩ = some (.int .i64 kk) ∧ w'.cell? ⟨ob, 1, none⟩ = some (.int .i64 q.b) ∧ w'.cell? ⟨ob, 2, none⟩ = some (.int .i64 ko) ∧ w'.cell? ⟨ob, 3, none⟩ = some (.int .i64 kf) ∧ w'.cell? ⟨ob, 4, none⟩ = some (.int .i64 q.a) ∧ w'.cell? ⟨ob, 5, none⟩ = some (.int .i64 q.x.k) ∧ w'.cell? ⟨ob, 6, none⟩ = some (.int .i64 q.x.n) ∧ w'.cell? ⟨ob, 7, none⟩ = some (.int .i64 q.y.k) ∧ w'.cell? ⟨ob, 8, none⟩ = some (.int .i64 q.y.n)) (first | assumption | exact RD | exact keep _ (by assumption))
                  ((go_at_call 18; refine (cVal q.x fq.x _).mono ?_; rintro e v1 ⟨rfl, hbv1⟩; rw [hvx]; have hq1 := bel_trans hbd hbv1))
                clear keep RD
                have BO2 := BO.below hq1
                have BU2 := BU.below hq1
                have BN2 := BN.below hq1
                have OB2 := OB.below hq1
                rw [hoy] at BO2
                clear o0 o1 o2 o3 ol a0 a1 al n0 n1 nl c0 c1 c2 c3 c4 c5 c6 c7 c8 cl
                have o0 : v1.cell? ⟨outb, 0, none⟩ = some (.int .i64 oc) := BO2.cell 0
                have o1 : v1.cell? ⟨outb, 1, none⟩ = some (.int .i64 ov.k) := BO2.cell 1
                have o2 : v1.cell? ⟨outb, 2, none⟩ = some (.int .i64 ov.n) := BO2.cell 2
                have o3 : v1.cell? ⟨outb, 3, none⟩ = some (.bool false) := BO2.cell 3
                have ol := BO2.lt
                have a0 : v1.cell? ⟨ub, 0, none⟩ = some (.int .i64 u.k) := BU2.cell 0
                have a1 : v1.cell? ⟨ub, 1, none⟩ = some (.int .i64 u.n) := BU2.cell 1
                have al := BU2.lt
                have n0 : v1.cell? ⟨nb, 0, none⟩ = some (.int .i64 nv.k) := BN2.cell 0
                have n1 : v1.cell? ⟨nb, 1, none⟩ = some (.int .i64 nv.n) := BN2.cell 1
                have nl := BN2.lt
                have c0 : v1.cell? ⟨ob, 0, none⟩ = some (.int .i64 kk) := OB2.cell 0
                have c1 : v1.cell? ⟨ob, 1, none⟩ = some (.int .i64 q.b) := OB2.cell 1
                have c2 : v1.cell? ⟨ob, 2, none⟩ = some (.int .i64 ko) := OB2.cell 2
                have c3 : v1.cell? ⟨ob, 3, none⟩ = some (.int .i64 kf) := OB2.cell 3
                have c4 : v1.cell? ⟨ob, 4, none⟩ = some (.int .i64 q.a) := OB2.cell 4
                have c5 : v1.cell? ⟨ob, 5, none⟩ = some (.int .i64 q.x.k) := OB2.cell 5
                have c6 : v1.cell? ⟨ob, 6, none⟩ = some (.int .i64 q.x.n) := OB2.cell 6
                have c7 : v1.cell? ⟨ob, 7, none⟩ = some (.int .i64 q.y.k) := OB2.cell 7
                have c8 : v1.cell? ⟨ob, 8, none⟩ = some (.int .i64 q.y.n) := OB2.cell 8
                have cl := OB2.lt
                have vq := eqVal_t (a := nv) (b := u) hnv
                have hbw := bel_trans p1.bel hq1
                clear hq1 hbv1 hbd heq'
                go_wp2_with (fail)
                go_ret
                exact ⟨rfl, hbw⟩
end Go.Proofs.YtgakmpfmckikgaaDoor
