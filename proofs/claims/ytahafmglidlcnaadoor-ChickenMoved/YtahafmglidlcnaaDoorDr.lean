/-
  A machine that steps alone, plainly: no program in sight.
-/
import Derived.Test.YtahafmglidlcnaaDoorD2
import Derived.Test.YtahafmglidlcnaaDoorDs3
namespace Go.Proofs.YtahafmglidlcnaaDoor
set_option linter.unusedVariables false
set_option maxRecDepth 100000
open Go.ChangeShapes Go.WideShapes Go.RowKit
open H.Plain (hw pS pC pN pM pG pT pL mv)
section
variable {w0 w w' : World} {b y p q : Nat} {s1 s2 : St} {N : Nat} {T T' : TypeId} {cs : Array Value} {F : List Nat} {x : Sx}
theorem tStepX {f : Nat} (h : Two w0 w b y s1 s2 N) (m : Mx w0 w p T x) (hN : N < 1000000)
    (hc : ∀ {L : Loc} {v : Value}, At 98 w L s1 p T (x.cells v) → RepO w x.k v → x.Ok → s1.Fit → s1.c < 1000000 → s1.Rng → Calls Tryd.prog f #[pt p, pt L.b] w fun e w' => e = .returned (.bool (x.next s1).done) ∧ ∃ v' L', At 98 w' L' (x.mem s1) p T ((x.next s1).cells v') ∧ Went w L p w' L' ∧ RepO w' (x.next s1).k v') :
    Calls Tryd.prog f #[pt p, pt b] w fun e w' => e = .returned (.bool (x.next s1).done) ∧ Two w0 w' b y (x.mem s1) s2 (N + 1) ∧ Mx w0 w' p T (x.next s1) ∧ Oth [p] w w' := by
  have ht := h.top1
  have hc' : s1.c < 1000000 := by omega
  have f := h.fit1
  have r := h.rng1
  obtain ⟨⟨v, B, R⟩, kd, ok⟩ := m
  obtain ⟨L, rfl, A, k⟩ := h.went1 B
  refine (hc A R ok f hc' r).mono ?_
  rintro e w' ⟨rfl, v', L', A', g, R'⟩
  have := Sx.cnt (s := s1) ok
  obtain ⟨H1, B1, O1⟩ := k A' g (Sx.fit ok f hc') (Sx.rng ok r) (show _ ≤ ((N + 1 : Nat) : Int) by omega) (by omega)
  exact ⟨rfl, H1, ⟨⟨v', B1, R'⟩, kd, ok.next r⟩, O1⟩
theorem tD (h : Two w0 w b y s1 s2 N) (m : Mx w0 w p 84 x) (hN : N < 1000000) :
    Calls Tryd.prog 110 #[pt p, pt b] w fun e w' => e = .returned (.bool (x.next s1).done) ∧ Two w0 w' b y (x.mem s1) s2 (N + 1) ∧ Mx w0 w' p 84 (x.next s1) ∧ Oth [p] w w' := tStepX h m hN fun A R ok ft hc rr => cDStep A R ok ft hc rr
theorem tP (h : Two w0 w b y s1 s2 N) (m : Mx w0 w p 83 x) (hN : N < 1000000) :
    Calls Tryd.prog 106 #[pt p, pt b] w fun e w' => e = .returned (.bool (x.next s1).done) ∧ Two w0 w' b y (x.mem s1) s2 (N + 1) ∧ Mx w0 w' p 83 (x.next s1) ∧ Oth [p] w w' := tStepX h m hN fun A R ok ft hc rr => cPStep A R ok ft hc rr
theorem Two.seen (h : Two w0 w b y s1 s2 N) : ∃ g cp, Seen2 w y g cp s2 := by
  obtain ⟨⟨L, M, e1, rfl, hm, hr, hl, hl2⟩, _⟩ := h
  exact ⟨M.g, M.cp, hr.cell0, hr.cell2, fun j hj => hr.wcell j hj, hr.lt _ (by simp [Loc.fp]), hr.lt _ (by simp [Loc.fp])⟩
theorem Seen2.at {g cp : Nat} {s : St} (h : Seen2 w y g cp s) (hl : s.ws.length = 160) (a : Nat) (ha : a < 160) : w.cell? ⟨g, a, none⟩ = some (.int .u64 (s.word a)) := h.cw a (by omega)
end
/-! ### two addresses of objects, plainly -/
def movP (s : St) (a : Int) : Int := mv (s.got a) a
def sameP (s : St) (p q : Int) : Bool := if p ≠ 0 ∧ q ≠ 0 then movP s p == movP s q else p == q
theorem got_ws {s s' : St} (h : s'.ws = s.ws) (a : Int) : s'.got a = s.got a := by simp [St.got, St.is1, St.word, h]
theorem same_two (s : St) (p q : Int) : ∃ x1 s1 z1 s2 x2 s3 z2 s4, (Sx.same p q).next s = x1 ∧ (Sx.same p q).mem s = s1 ∧ (Sx.same q p).next s1 = z1 ∧ (Sx.same q p).mem s1 = s2 ∧ x1.next s2 = x2 ∧ x1.mem s2 = s3 ∧ z1.next s3 = z2 ∧ z1.mem s3 = s4 ∧
    x2.o.y = sameP s p q ∧ z2.o.y = sameP s p q ∧ x2.next s4 = x2 ∧ x2.mem s4 = s4 ∧ x2.done = true := by
  by_cases h : p = q ∨ p = 0 ∨ q = 0
  · have h' : q = p ∨ q = 0 ∨ p = 0 := by omega
    have e1 : Sx.same p q = ⟨none, false, ⟨0, Vl.zero, p == q⟩⟩ := by rw [Sx.same, if_pos h]
    have e2 : Sx.same q p = ⟨none, false, ⟨0, Vl.zero, q == p⟩⟩ := by rw [Sx.same, if_pos h']
    have e3 : sameP s p q = (p == q) := by
      unfold sameP
      split
      · obtain rfl : p = q := by omega
        simp
      · rfl
    rw [e1, e2]
    refine ⟨_, _, _, _, _, _, _, _, rfl, rfl, rfl, rfl, rfl, rfl, rfl, rfl, e3.symm, ?_, rfl, rfl, rfl⟩
    rw [e3]
    exact Bool.beq_comm ..
  · have h' : ¬ (q = p ∨ q = 0 ∨ p = 0) := by omega
    have e1 : Sx.same p q = ⟨some (.compT p q), false, Ou.zero⟩ := by rw [Sx.same, if_neg h]
    have e2 : Sx.same q p = ⟨some (.compT q p), false, Ou.zero⟩ := by rw [Sx.same, if_neg h']
    have e3 : sameP s p q = (movP s p == movP s q) := by rw [sameP, if_pos ⟨by omega, by omega⟩]
    rw [e1, e2]
    refine ⟨_, _, _, _, _, _, _, _, rfl, rfl, rfl, rfl, rfl, rfl, rfl, rfl, e3.symm, ?_, rfl, rfl, rfl⟩
    rw [e3]
    exact Bool.beq_comm ..
end Go.Proofs.YtahafmglidlcnaaDoor

namespace Go.Proofs.YtahafmglidlcnaaDoor
set_option linter.unusedVariables false
set_option maxRecDepth 100000
open H.Plain (hw pS pC pN pM pG pT pL mv)

/-- behind j steps -/
def runX (x : Sx) (s : St) : Nat → Sx × St
  | 0 => (x, s)
  | j + 1 => ((runX x s j).1.next (runX x s j).2, (runX x s j).1.mem (runX x s j).2)
/-- it is done behind d steps, and not ahead -/
structure Ends (x : Sx) (s : St) (d : Nat) (x' : Sx) (s' : St) : Prop where
  at_ : runX x s d = (x', s')
  done : x'.done = true
  not : ∀ j, j < d → (runX x s j).1.done = false
theorem runX_succ (x : Sx) (s : St) (j : Nat) : runX x s (j + 1) = runX (x.next s) (x.mem s) j := by
  induction j with
  | zero => rfl
  | succ j ih => rw [runX, ih]; rfl
theorem Ends.zero {x : Sx} {s : St} (h : x.done = true) : Ends x s 0 x s := ⟨rfl, h, fun j hj => by omega⟩
theorem Ends.more {x x' : Sx} {s s' : St} {d : Nat} (h : x.done = false) (e : Ends (x.next s) (x.mem s) d x' s') : Ends x s (d + 1) x' s' := by
  refine ⟨by rw [runX_succ]; exact e.at_, e.done, fun j hj => ?_⟩
  cases j with
  | zero => exact h
  | succ j => rw [runX_succ]; exact e.not j (by omega)
theorem Ends.step {x x1 x' : Sx} {s s1 s' : St} {d : Nat} (h : x.done = false) (q : x.next s = x1) (m : x.mem s = s1) (e : Ends x1 s1 d x' s') : Ends x s (d + 1) x' s' := Ends.more h (by rw [q, m]; exact e)
theorem got_load (s : St) (a b : Int) : (s.load a).got b = s.got b := rfl
/-- what is expected, wherever either stands -/
def canonP (s : St) (u x : Vl) : Bool := if u.far && x.far then movP s u.n == movP s x.n else decide (u = x)
theorem got_cas {s : St} (hl : s.ws.length = 160) {a : Int} (ha : In a) (x : Int) : (s.cas a (s.got a) x).got a = x := by
  rw [In.got (by rw [St.n_cas]; exact hl) ha, In.got hl ha, word_cas_ok hl ha ha rfl, if_pos rfl]
theorem ok1_got {s : St} (hl : s.ws.length = 160) {a : Int} (ha : In a) : s.ok1 a (s.got a) = true := by
  rw [ok1_iff hl ha, In.got hl ha]; simp
/-- the last step of a Swap whose field is as it was -/
theorem exch_ends {s s0 : St} (hl : s.ws.length = 160) (hs : s.ws = s0.ws) {f : Int} (hf : In f) (r : Rq) (h : Hw) (hit : Bool) :
    Ends ⟨some (.exch f (s0.got f) r h), hit, Ou.zero⟩ s 1 ⟨none, true, ⟨0, Vl.zero, true⟩⟩ (s.cas f (s.got f) r.y.w) := by
  have e : s0.got f = s.got f := (got_ws hs f).symm
  rw [e]
  refine Ends.more rfl ?_
  have q : (Sx.mk (some (.exch f (s.got f) r h)) hit Ou.zero).next s = ⟨none, true, ⟨0, Vl.zero, true⟩⟩ := by simp [Sx.next, K.next, ok1_got hl hf]
  rw [q]
  exact Ends.zero rfl
/-- a Swap that knows of moved objects, without a Shade -/
theorem canon_ends {s : St} (hl : s.ws.length = 160) {f : Int} (hf : In f) (r : Rq) (h3 : r.op = 3) {u : Vl} (hu : Vl.of (s.got f) = u) : ∃ d x' s', d ≤ 4 ∧ Ends (Sx.new f r ⟨false, true, false, 0⟩) s d x' s' ∧
    x'.o.y = canonP s u r.x ∧ Vl.of (s'.got f) = (if canonP s u r.x then Vl.of r.y.w else u) ∧ s'.ws.length = 160 := by
  have e0 : Sx.new f r ⟨false, true, false, 0⟩ = ⟨some (.swap f r ⟨false, true, false, 0⟩), false, Ou.zero⟩ := by simp [Sx.new, firstK, h3]
  have eb : ∀ z, behind f z r ⟨false, true, false, 0⟩ = .exch f z r ⟨false, true, false, 0⟩ := fun z => by simp [behind, shadeK]
  rw [e0]
  by_cases hx : u = r.x
  · have q : (Sx.mk (some (.swap f r ⟨false, true, false, 0⟩)) false Ou.zero).next s = ⟨some (.exch f (s.got f) r ⟨false, true, false, 0⟩), true, Ou.zero⟩ := by simp only [Sx.next, K.next, hu, if_pos hx, eb]
    have c : canonP s u r.x = true := by unfold canonP; rw [← hx]; split <;> simp
    refine ⟨2, _, _, by omega, Ends.step rfl q rfl (exch_ends (s := s.load f) hl rfl hf r _ true), by rw [c], ?_, by rw [St.n_cas]; exact hl⟩
    rw [c, got_cas (s := s.load f) hl hf]; rfl
  · by_cases hf2 : (u.far && r.x.far) = true
    · have q : (Sx.mk (some (.swap f r ⟨false, true, false, 0⟩)) false Ou.zero).next s = ⟨some (.compS u.n r.x.n (.exch f (s.got f) r ⟨false, true, false, 0⟩)), true, Ou.zero⟩ := by
        simp only [Sx.next, K.next, hu, if_neg hx, eb]
        rw [if_pos (by simpa using hf2)]
      have c : canonP s u r.x = (movP s u.n == movP s r.x.n) := by rw [canonP, if_pos hf2]
      have q2 : (Sx.mk (some (.compS u.n r.x.n (.exch f (s.got f) r ⟨false, true, false, 0⟩))) true Ou.zero).next (s.load f) = ⟨some (.comp2S (movP s u.n) r.x.n (.exch f (s.got f) r ⟨false, true, false, 0⟩)), false, Ou.zero⟩ := rfl
      rcases hm : (movP s u.n == movP s r.x.n) with _ | _
      · have hm' : ¬ movP s u.n = movP s r.x.n := by simpa using hm
        have q3 : (Sx.mk (some (.comp2S (movP s u.n) r.x.n (.exch f (s.got f) r ⟨false, true, false, 0⟩))) false Ou.zero).next ((s.load f).load u.n) = ⟨none, false, Ou.zero⟩ := by
          simp only [Sx.next, K.next, got_load]
          exact if_neg hm'
        exact ⟨3, ⟨none, false, Ou.zero⟩, ((s.load f).load u.n).load r.x.n, by omega, Ends.step rfl q rfl (Ends.step rfl q2 rfl (Ends.step rfl q3 rfl (Ends.zero rfl))), by rw [c, hm]; rfl, by rw [c, hm]; exact hu, hl⟩
      · have hm' : movP s u.n = movP s r.x.n := by simpa using hm
        have q3 : (Sx.mk (some (.comp2S (movP s u.n) r.x.n (.exch f (s.got f) r ⟨false, true, false, 0⟩))) false Ou.zero).next ((s.load f).load u.n) = ⟨some (.exch f (s.got f) r ⟨false, true, false, 0⟩), false, Ou.zero⟩ := by
          simp only [Sx.next, K.next, got_load]
          exact if_pos hm'
        refine ⟨4, ⟨none, true, ⟨0, Vl.zero, true⟩⟩, (((s.load f).load u.n).load r.x.n).cas f ((((s.load f).load u.n).load r.x.n).got f) r.y.w, by omega, Ends.step rfl q rfl (Ends.step rfl q2 rfl (Ends.step rfl q3 rfl (exch_ends (s := ((s.load f).load u.n).load r.x.n) hl rfl hf r _ false))), by rw [c, hm], ?_, by rw [St.n_cas]; exact hl⟩
        rw [c, hm, got_cas (s := ((s.load f).load u.n).load r.x.n) hl hf]; rfl
    · have q : (Sx.mk (some (.swap f r ⟨false, true, false, 0⟩)) false Ou.zero).next s = ⟨none, true, Ou.zero⟩ := by
        simp only [Sx.next, K.next, hu, if_neg hx]
        rw [if_neg (by simpa using hf2)]
      have c : canonP s u r.x = false := by rw [canonP, if_neg hf2]; simpa using hx
      refine ⟨1, ⟨none, true, Ou.zero⟩, s.load f, by omega, Ends.step rfl q rfl (Ends.zero rfl), by rw [c]; rfl, by rw [c]; exact hu, hl⟩
end Go.Proofs.YtahafmglidlcnaaDoor
