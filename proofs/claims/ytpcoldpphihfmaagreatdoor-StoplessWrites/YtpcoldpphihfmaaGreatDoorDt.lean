/-
  The program's memory and the reference's side by side, with machines of the program.
-/
import Derived.Test.YtpcoldpphihfmaaGreatDoorD2
import Derived.Test.YtpcoldpphihfmaaGreatDoorDs3
namespace Go.Proofs.YtpcoldpphihfmaaGreatDoor
set_option linter.unusedVariables false
set_option maxRecDepth 100000
open Go.ChangeShapes Go.WideShapes Go.RowKit
open H.Plain (hw pS pC pN pM pG pT pL mv)
section
variable {w0 w w' : World} {b y p q : Nat} {s1 s2 : St} {N : Nat} {T T' : TypeId} {cs : Array Value} {F : List Nat} {x : Sx}
theorem tStepX {f : Nat} (h : Two w0 w b y s1 s2 N) (m : Mx w0 w p T x) (hN : N < 1000000)
    (hc : ∀ {L : Loc} {v : Value}, At 132 w L s1 p T (x.cells v) → RepO w x.k v → x.Ok → s1.Fit → s1.c < 1000000 → s1.Rng → Calls Tryz.prog f #[pt p, pt L.b] w fun e w' => e = .returned (.bool (x.next s1).done) ∧ ∃ v' L', At 132 w' L' (x.mem s1) p T ((x.next s1).cells v') ∧ Went w L p w' L' ∧ RepO w' (x.next s1).k v') :
    Calls Tryz.prog f #[pt p, pt b] w fun e w' => e = .returned (.bool (x.next s1).done) ∧ Two w0 w' b y (x.mem s1) s2 (N + 1) ∧ Mx w0 w' p T (x.next s1) ∧ Oth [p] w w' := by
  have ht := h.top1
  have hc' : s1.c < 1000000 := by omega
  have f := h.fit1
  have r := h.rng1
  obtain ⟨⟨v, B, R⟩, kd, ok⟩ := m
  obtain ⟨L, rfl, A, k⟩ := h.went1 B
  refine (hc A R ok f hc' r).mono ?_
  rintro e w' ⟨rfl, v', L', A', g, R'⟩
  have := Sx.cnt (s := s1) ok
  obtain ⟨H1, B1, O1⟩ := k A' g (Sx.fit ok f hc') (Sx.rng ok r) (show _ ≤ ((N + 1 : Nat) : Int) by omega) (by omega)
  exact ⟨rfl, H1, ⟨⟨v', B1, R'⟩, kd, ok.next r⟩, O1⟩
theorem tD (h : Two w0 w b y s1 s2 N) (m : Mx w0 w p 112 x) (hN : N < 1000000) :
    Calls Tryz.prog 163 #[pt p, pt b] w fun e w' => e = .returned (.bool (x.next s1).done) ∧ Two w0 w' b y (x.mem s1) s2 (N + 1) ∧ Mx w0 w' p 112 (x.next s1) ∧ Oth [p] w w' := tStepX h m hN fun A R ok ft hc rr => cDStep A R ok ft hc rr
theorem tP (h : Two w0 w b y s1 s2 N) (m : Mx w0 w p 111 x) (hN : N < 1000000) :
    Calls Tryz.prog 159 #[pt p, pt b] w fun e w' => e = .returned (.bool (x.next s1).done) ∧ Two w0 w' b y (x.mem s1) s2 (N + 1) ∧ Mx w0 w' p 111 (x.next s1) ∧ Oth [p] w w' := tStepX h m hN fun A R ok ft hc rr => cPStep A R ok ft hc rr
theorem Two.seen (h : Two w0 w b y s1 s2 N) : ∃ g cp, Seen2 w y g cp s2 := by
  obtain ⟨⟨L, M, e1, rfl, hm, hr, hl, hl2⟩, _⟩ := h
  exact ⟨M.g, M.cp, hr.cell0, hr.cell2, fun j hj => hr.wcell j hj, hr.lt _ (by simp [Loc.fp]), hr.lt _ (by simp [Loc.fp])⟩
theorem Seen2.at {g cp : Nat} {s : St} (h : Seen2 w y g cp s) (hl : s.ws.length = 160) (a : Nat) (ha : a < 160) : w.cell? ⟨g, a, none⟩ = some (.int .u64 (s.word a)) := h.cw a (by omega)
end
/-! ### two addresses of objects, plainly -/
def movP (s : St) (a : Int) : Int := mv (s.got a) a
def sameP (s : St) (p q : Int) : Bool := if p ≠ 0 ∧ q ≠ 0 then movP s p == movP s q else p == q
theorem got_ws {s s' : St} (h : s'.ws = s.ws) (a : Int) : s'.got a = s.got a := by simp [St.got, St.is1, St.word, h]
theorem same_two (s : St) (p q : Int) : ∃ x1 s1 z1 s2 x2 s3 z2 s4, (Sx.same p q).next s = x1 ∧ (Sx.same p q).mem s = s1 ∧ (Sx.same q p).next s1 = z1 ∧ (Sx.same q p).mem s1 = s2 ∧ x1.next s2 = x2 ∧ x1.mem s2 = s3 ∧ z1.next s3 = z2 ∧ z1.mem s3 = s4 ∧
    x2.o.y = sameP s p q ∧ z2.o.y = sameP s p q ∧ x2.next s4 = x2 ∧ x2.mem s4 = s4 ∧ x2.done = true := by
  by_cases h : p = q ∨ p = 0 ∨ q = 0
  · have h' : q = p ∨ q = 0 ∨ p = 0 := by omega
    have e1 : Sx.same p q = ⟨none, false, ⟨0, Vl.zero, p == q⟩⟩ := by rw [Sx.same, if_pos h]
    have e2 : Sx.same q p = ⟨none, false, ⟨0, Vl.zero, q == p⟩⟩ := by rw [Sx.same, if_pos h']
    have e3 : sameP s p q = (p == q) := by
      unfold sameP
      split
      · obtain rfl : p = q := by omega
        simp
      · rfl
    rw [e1, e2]
    refine ⟨_, _, _, _, _, _, _, _, rfl, rfl, rfl, rfl, rfl, rfl, rfl, rfl, e3.symm, ?_, rfl, rfl, rfl⟩
    rw [e3]
    exact Bool.beq_comm ..
  · have h' : ¬ (q = p ∨ q = 0 ∨ p = 0) := by omega
    have e1 : Sx.same p q = ⟨some (.compT p q), false, Ou.zero⟩ := by rw [Sx.same, if_neg h]
    have e2 : Sx.same q p = ⟨some (.compT q p), false, Ou.zero⟩ := by rw [Sx.same, if_neg h']
    have e3 : sameP s p q = (movP s p == movP s q) := by rw [sameP, if_pos ⟨by omega, by omega⟩]
    rw [e1, e2]
    refine ⟨_, _, _, _, _, _, _, _, rfl, rfl, rfl, rfl, rfl, rfl, rfl, rfl, e3.symm, ?_, rfl, rfl, rfl⟩
    rw [e3]
    exact Bool.beq_comm ..
end Go.Proofs.YtpcoldpphihfmaaGreatDoor
